import PyProof.Rows.All
import Wide.All
import OpenK.AllK
import Wide.FinOn
import HandS.ForMost
import HandS.Evl
import HandS.Steps
import HandS.Lambda
import HandS.Walk
import HandS.WordsExc
import HandS.Iter
import KE.GoesEnum
import HandS.IsInst
import HandS.Gcd
import HandS.Deep
import HandS.TupAny
import HandS.Wide
import HandS.Style
import HandS.Dict
import KE.KMathGC
import KE.DataFind
import PyProof.ReprReads
import HandS.Ends
import HandS.More
import PyProof.ReprRoads
import HandS.Conv
import HandS.Defaults
import HandS.TupMul
import PyProof.ReprLen
import HandS.MakeKw
import HandS.ForExc
import HandS.ExcInit
import HandS.TryMany
import HandS.ExcField
import HandS.EndTab
import HandS.SetFor
import HandS.SortInts
import KE.KExcIs
import HandS.ExcIs
import HandS.MakeKwOnly
import HandS.Codes
import PyProof.IsRules
import PySem.Challenge.RW_logsapart_k23_whole_letters_swallowed_by
set_option Elab.async false
set_option autoImplicit false
set_option linter.all false
set_option maxRecDepth 100000
set_option maxHeartbeats 4000000
/-! ### A. data, owned things, states -/
namespace DL
open PySem L2 Evl

inductive Dat where
  | non | bl (b : Bool) | int (i : Int) | str (s : Str) | lst (xs : List Dat) | tup (xs : List Dat) | obj (C : Addr) (fs : List (Str × Dat)) | ty (n : String) | scr (ns : List Int)

mutual
inductive Den (K : PySem.W.Frag) (D : Hp) : V → Dat → Prop
  | non : Den K D .non .non
  | bl (b : Bool) : Den K D (.bl b) (.bl b)
  | int (i : Int) : Den K D (.int i) (.int i)
  | str (x : Str) : Den K D (.str x) (.str x)
  | lst {a : Addr} {xs : List V} {ds : List Dat} : D a = some (.lst xs) → DenAll K D xs ds → Den K D (.ref a) (.lst ds)
  | tup {a : Addr} {xs : List V} {ds : List Dat} : D a = some (.tup xs) → DenAll K D xs ds → Den K D (.ref a) (.tup ds)
  | obj {a C dx : Addr} {fs : List (Str × V)} {gs : List (Str × Dat)} : D a = some (.ins C dx fs) → DenF K D fs gs → Den K D (.ref a) (.obj C gs)
  | ty (n : String) : Den K D (.ty n) (.ty n)
  | scr {a : Addr} {ns : List Int} : SqL K D a (ns.map V.int) → Den K D (.ref a) (.scr ns)
inductive DenAll (K : PySem.W.Frag) (D : Hp) : List V → List Dat → Prop
  | nil : DenAll K D [] []
  | cons {v : V} {vs : List V} {d : Dat} {ds : List Dat} : Den K D v d → DenAll K D vs ds → DenAll K D (v :: vs) (d :: ds)
inductive DenF (K : PySem.W.Frag) (D : Hp) : List (Str × V) → List (Str × Dat) → Prop
  | nil : DenF K D [] []
  | cons {f : Str} {v : V} {vs : List (Str × V)} {d : Dat} {ds : List (Str × Dat)} : Den K D v d → DenF K D vs ds → DenF K D ((f, v) :: vs) ((f, d) :: ds)
end

mutual
theorem Den.mono {K : PySem.W.Frag} {D D' : Hp} (e : Ex D D') : ∀ {v : V} {d : Dat}, Den K D v d → Den K D' v d
  | _, _, .non => .non
  | _, _, .bl b => .bl b
  | _, _, .int i => .int i
  | _, _, .str x => .str x
  | _, _, .lst h r => .lst (e _ _ h) (DenAll.mono e r)
  | _, _, .tup h r => .tup (e _ _ h) (DenAll.mono e r)
  | _, _, .obj h r => .obj (e _ _ h) (DenF.mono e r)
  | _, _, .ty n => .ty n
  | _, _, .scr h => .scr (ex_l e h)
theorem DenAll.mono {K : PySem.W.Frag} {D D' : Hp} (e : Ex D D') : ∀ {v : List V} {d : List Dat}, DenAll K D v d → DenAll K D' v d
  | _, _, .nil => .nil
  | _, _, .cons h r => .cons (Den.mono e h) (DenAll.mono e r)
theorem DenF.mono {K : PySem.W.Frag} {D D' : Hp} (e : Ex D D') : ∀ {v : List (Str × V)} {d : List (Str × Dat)}, DenF K D v d → DenF K D' v d
  | _, _, .nil => .nil
  | _, _, .cons h r => .cons (Den.mono e h) (DenF.mono e r)
end
section
variable {K : PySem.W.Frag} {D : Hp}
theorem DenAll.length : ∀ {vs : List V} {ds : List Dat}, DenAll K D vs ds → vs.length = ds.length
  | _, _, .nil => rfl
  | _, _, .cons _ r => by rw [List.length_cons, List.length_cons, DenAll.length r]
theorem DenAll.get : ∀ {vs : List V} {ds : List Dat} {i : Nat} {d : Dat}, DenAll K D vs ds → ds[i]? = some d → ∃ v, vs[i]? = some v ∧ Den K D v d
  | _, _, _, _, .nil, e => by simp at e
  | _, _, 0, _, .cons r _, e => by simp at e; subst e; exact ⟨_, rfl, r⟩
  | _, _, i + 1, d, .cons _ t, e => by
    obtain ⟨u, h1, h2⟩ := DenAll.get (i := i) (d := d) t (by simpa using e)
    exact ⟨u, by simpa using h1, h2⟩
theorem DenAll.getv : ∀ {vs : List V} {ds : List Dat} {i : Nat} {v : V}, DenAll K D vs ds → vs[i]? = some v → ∃ d, ds[i]? = some d ∧ Den K D v d
  | _, _, _, _, .nil, e => by simp at e
  | _, _, 0, _, .cons r _, e => by simp at e; subst e; exact ⟨_, rfl, r⟩
  | _, _, i + 1, d, .cons _ t, e => by
    obtain ⟨u, h1, h2⟩ := DenAll.getv (i := i) (v := d) t (by simpa using e)
    exact ⟨u, by simpa using h1, h2⟩
theorem DenAll.app : ∀ {vs ws : List V} {ds es : List Dat}, DenAll K D vs ds → DenAll K D ws es → DenAll K D (vs ++ ws) (ds ++ es)
  | _, _, _, _, .nil, s => s
  | _, _, _, _, .cons r t, s => .cons r (DenAll.app t s)
theorem DenAll.take : ∀ {vs : List V} {ds : List Dat} (n : Nat), DenAll K D vs ds → DenAll K D (vs.take n) (ds.take n)
  | _, _, 0, _ => .nil
  | _, _, _ + 1, .nil => .nil
  | _, _, n + 1, .cons r t => .cons r (DenAll.take n t)
theorem DenAll.drop : ∀ {vs : List V} {ds : List Dat} (n : Nat), DenAll K D vs ds → DenAll K D (vs.drop n) (ds.drop n)
  | _, _, 0, r => r
  | _, _, _ + 1, .nil => .nil
  | _, _, n + 1, .cons _ t => DenAll.drop n t
theorem DenAll.set {v : V} {d : Dat} (r : Den K D v d) : ∀ {vs : List V} {ds : List Dat} (i : Nat), DenAll K D vs ds → DenAll K D (vs.set i v) (ds.set i d)
  | _, _, _, .nil => .nil
  | _, _, 0, .cons _ t => .cons r t
  | _, _, i + 1, .cons q t => .cons q (DenAll.set r i t)
theorem DenAll.rev {vs : List V} {ds : List Dat} (h : DenAll K D vs ds) : DenAll K D vs.reverse ds.reverse := by
  induction vs generalizing ds with
  | nil => cases h; exact .nil
  | cons v vs ih =>
    cases h with
    | cons r t =>
      rw [List.reverse_cons, List.reverse_cons]
      exact (ih t).app (.cons r .nil)
theorem DenAll.ints : ∀ {vs : List V} {ns : List Int}, DenAll K D vs (ns.map Dat.int) → vs = ns.map V.int
  | [], [], .nil => rfl
  | _ :: _, _ :: _, .cons r t => by
    cases r
    rw [List.map_cons, ← DenAll.ints t]
theorem DenAll.ofInts : ∀ (ns : List Int), DenAll K D (ns.map V.int) (ns.map Dat.int)
  | [] => .nil
  | _ :: r => .cons (.int _) (DenAll.ofInts r)
theorem DenAll.bools : ∀ {vs : List V} {ns : List Bool}, DenAll K D vs (ns.map Dat.bl) → vs = ns.map V.bl
  | [], [], .nil => rfl
  | _ :: _, _ :: _, .cons r t => by
    cases r
    rw [List.map_cons, ← DenAll.bools t]
theorem DenF.look {f : Str} : ∀ {vs : List (Str × V)} {ds : List (Str × Dat)} {d : Dat}, DenF K D vs ds → ds.lookup f = some d → ∃ v, vs.lookup f = some v ∧ Den K D v d
  | _, _, _, .nil, e => by simp at e
  | _, _, d, .cons (f := g) r t, e => by
    rw [List.lookup_cons] at e
    rw [List.lookup_cons]
    cases hfg : f == g with
    | true =>
      rw [hfg] at e
      have e' := Option.some.inj e
      subst e'
      exact ⟨_, rfl, r⟩
    | false =>
      rw [hfg] at e
      exact DenF.look t e
end

/-! owned things -/
inductive Ow where
  | d (d : Dat)
  | m (a : Addr)
  | l (a : Addr) (xs : List Ow)
  | t (a : Addr) (kvs : List (List Key × Dat))
  | z (a : Addr) (ob : Obj) (vs : List (List Key × V)) (kvs : List (List Key × Dat))
  | o (a C : Addr) (fs : List (Str × Dat))
mutual
def Ow.fp : Ow → List Addr
  | .d _ => []
  | .m _ => []
  | .l a xs => a :: fps xs
  | .t a _ => [a]
  | .z a _ _ _ => [a]
  | .o a _ _ => [a]
def fps : List Ow → List Addr
  | [] => []
  | o :: os => o.fp ++ fps os
end
inductive DenK (K : PySem.W.Frag) (D : Hp) : List (List Key × V) → List (List Key × Dat) → Prop
  | nil : DenK K D [] []
  | cons {k : List Key} {v : V} {d : Dat} {kvs : List (List Key × V)} {kds : List (List Key × Dat)} : Den K D v d → DenK K D kvs kds → DenK K D ((k, v) :: kvs) ((k, d) :: kds)
mutual
inductive DenO (K : PySem.W.Frag) (D H : Hp) : V → Ow → Prop
  | d {v : V} {x : Dat} : Den K D v x → DenO K D H v (.d x)
  | m (a : Addr) : DenO K D H (.ref a) (.m a)
  | l {a : Addr} {vs : List V} {xs : List Ow} : H a = some (.lst vs) → DenOs K D H vs xs → DenO K D H (.ref a) (.l a xs)
  | t {a : Addr} {kvs : List (List Key × V)} {kds : List (List Key × Dat)} : H a = some (.dT kvs) → DenK K D kvs kds → DenO K D H (.ref a) (.t a kds)
  | z {a : Addr} {ob : Obj} {kvs : List (List Key × V)} {kds : List (List Key × Dat)} : H a = some (.frz ob (.dT kvs)) → DenK K D kvs kds → DenO K D H (.ref a) (.z a ob kvs kds)
  | o {a C dx : Addr} {fs : List (Str × V)} {gs : List (Str × Dat)} : H a = some (.ins C dx fs) → DenF K D fs gs → DenO K D H (.ref a) (.o a C gs)
inductive DenOs (K : PySem.W.Frag) (D H : Hp) : List V → List Ow → Prop
  | nil : DenOs K D H [] []
  | cons {v : V} {vs : List V} {o : Ow} {os : List Ow} : DenO K D H v o → DenOs K D H vs os → DenOs K D H (v :: vs) (o :: os)
end
theorem DenK.mono {K : PySem.W.Frag} {D D' : Hp} (e : Ex D D') : ∀ {kvs : List (List Key × V)} {kds : List (List Key × Dat)}, DenK K D kvs kds → DenK K D' kvs kds
  | _, _, .nil => .nil
  | _, _, .cons r t => .cons (r.mono e) (DenK.mono e t)
mutual
theorem DenO.keep {K : PySem.W.Frag} {D D' H H' : Hp} (e : Ex D D') : ∀ {v : V} {o : Ow}, DenO K D H v o → (∀ a ∈ o.fp, ∀ u, H a = some u → H' a = some u) → DenO K D' H' v o
  | _, _, .d h, _ => .d (h.mono e)
  | _, _, .m a, _ => .m a
  | _, _, .l h r, k => .l (k _ (by unfold Ow.fp; exact List.mem_cons_self) _ h) (DenOs.keep e r fun a ha u hu => k a (by unfold Ow.fp; exact List.mem_cons_of_mem _ ha) u hu)
  | _, _, .t h r, k => .t (k _ (by unfold Ow.fp; exact List.mem_cons_self) _ h) (r.mono e)
  | _, _, .z h r, k => .z (k _ (by unfold Ow.fp; exact List.mem_cons_self) _ h) (r.mono e)
  | _, _, .o h r, k => .o (k _ (by unfold Ow.fp; exact List.mem_cons_self) _ h) (r.mono e)
theorem DenOs.keep {K : PySem.W.Frag} {D D' H H' : Hp} (e : Ex D D') : ∀ {v : List V} {o : List Ow}, DenOs K D H v o → (∀ a ∈ fps o, ∀ u, H a = some u → H' a = some u) → DenOs K D' H' v o
  | _, _, .nil, _ => .nil
  | _, _, .cons h r, k => .cons (DenO.keep e h fun a ha u hu => k a (by unfold fps; exact List.mem_append_left _ ha) u hu) (DenOs.keep e r fun a ha u hu => k a (by unfold fps; exact List.mem_append_right _ ha) u hu)
end
mutual
theorem DenO.at {K : PySem.W.Frag} {D H : Hp} : ∀ {v : V} {o : Ow}, DenO K D H v o → ∀ a ∈ o.fp, ∃ u, H a = some u
  | _, _, .d _, a, ha => by unfold Ow.fp at ha; exact absurd ha (by simp)
  | _, _, .m _, a, ha => by unfold Ow.fp at ha; exact absurd ha (by simp)
  | _, _, .l h r, a, ha => by
    unfold Ow.fp at ha
    rcases List.mem_cons.mp ha with e | e
    · exact ⟨_, by rw [e]; exact h⟩
    · exact DenOs.at r a e
  | _, _, .t h _, a, ha => by
    unfold Ow.fp at ha
    rw [List.mem_singleton] at ha
    exact ⟨_, by rw [ha]; exact h⟩
  | _, _, .z h _, a, ha => by
    unfold Ow.fp at ha
    rw [List.mem_singleton] at ha
    exact ⟨_, by rw [ha]; exact h⟩
  | _, _, .o h _, a, ha => by
    unfold Ow.fp at ha
    rw [List.mem_singleton] at ha
    exact ⟨_, by rw [ha]; exact h⟩
theorem DenOs.at {K : PySem.W.Frag} {D H : Hp} : ∀ {v : List V} {o : List Ow}, DenOs K D H v o → ∀ a ∈ fps o, ∃ u, H a = some u
  | _, _, .nil, a, ha => by unfold fps at ha; exact absurd ha (by simp)
  | _, _, .cons h r, a, ha => by
    unfold fps at ha
    rcases List.mem_append.mp ha with e | e
    · exact DenO.at h a e
    · exact DenOs.at r a e
end
section
variable {K : PySem.W.Frag} {D H : Hp}
theorem DenOs.length : ∀ {vs : List V} {ds : List Ow}, DenOs K D H vs ds → vs.length = ds.length
  | _, _, .nil => rfl
  | _, _, .cons _ r => by rw [List.length_cons, List.length_cons, DenOs.length r]
theorem DenOs.get : ∀ {vs : List V} {ds : List Ow} {i : Nat} {d : Ow}, DenOs K D H vs ds → ds[i]? = some d → ∃ v, vs[i]? = some v ∧ DenO K D H v d
  | _, _, _, _, .nil, e => by simp at e
  | _, _, 0, _, .cons r _, e => by simp at e; subst e; exact ⟨_, rfl, r⟩
  | _, _, i + 1, d, .cons _ t, e => by
    obtain ⟨u, h1, h2⟩ := DenOs.get (i := i) (d := d) t (by simpa using e)
    exact ⟨u, by simpa using h1, h2⟩
theorem DenOs.app : ∀ {vs ws : List V} {ds es : List Ow}, DenOs K D H vs ds → DenOs K D H ws es → DenOs K D H (vs ++ ws) (ds ++ es)
  | _, _, _, _, .nil, s => s
  | _, _, _, _, .cons r t, s => .cons r (DenOs.app t s)
theorem DenOs.take : ∀ {vs : List V} {ds : List Ow} (n : Nat), DenOs K D H vs ds → DenOs K D H (vs.take n) (ds.take n)
  | _, _, 0, _ => .nil
  | _, _, _ + 1, .nil => .nil
  | _, _, n + 1, .cons r t => .cons r (DenOs.take n t)
theorem DenOs.set {v : V} {d : Ow} (r : DenO K D H v d) : ∀ {vs : List V} {ds : List Ow} (i : Nat), DenOs K D H vs ds → DenOs K D H (vs.set i v) (ds.set i d)
  | _, _, _, .nil => .nil
  | _, _, 0, .cons _ t => .cons r t
  | _, _, i + 1, .cons q t => .cons q (DenOs.set r i t)
/-- a list of data, seen as owned items -/
theorem DenOs.ofAll : ∀ {vs : List V} {ds : List Dat}, DenAll K D vs ds → DenOs K D H vs (ds.map Ow.d)
  | _, _, .nil => .nil
  | _, _, .cons r t => .cons (.d r) (DenOs.ofAll t)
theorem DenOs.toAll : ∀ {vs : List V} {ds : List Dat}, DenOs K D H vs (ds.map Ow.d) → DenAll K D vs ds
  | [], [], .nil => .nil
  | _ :: _, _ :: _, .cons r t => by
    cases r with
    | d r => exact .cons r (DenOs.toAll t)
end
theorem fps_map (ds : List Dat) : fps (ds.map Ow.d) = [] := by
  induction ds with
  | nil => rfl
  | cons d r ih =>
    show Ow.fp (.d d) ++ fps (r.map Ow.d) = []
    rw [ih]
    rfl
theorem fps_app : ∀ (xs ys : List Ow), fps (xs ++ ys) = fps xs ++ fps ys
  | [], ys => rfl
  | x :: xs, ys => by
    show x.fp ++ fps (xs ++ ys) = (x.fp ++ fps xs) ++ fps ys
    rw [fps_app xs ys, List.append_assoc]

abbrev Rh := List (Option Ow)
abbrev Tm := List (V × Ow)
def fpO : Option Ow → List Addr
  | none => []
  | some o => o.fp
def fpR : Rh → List Addr
  | [] => []
  | o :: r => fpO o ++ fpR r
def fpT : Tm → List Addr
  | [] => []
  | p :: r => p.2.fp ++ fpT r
inductive Slots (K : PySem.W.Frag) (D H : Hp) : St → Rh → Prop
  | nil : Slots K D H [] []
  | skip {v : Option V} {σ : St} {ρ : Rh} : Slots K D H σ ρ → Slots K D H (v :: σ) (none :: ρ)
  | cons {v : V} {o : Ow} {σ : St} {ρ : Rh} : DenO K D H v o → Slots K D H σ ρ → Slots K D H (some v :: σ) (some o :: ρ)
/-- the tables of code objects that lambdas are made by -/
class HasTabs (K : PySem.W.Frag) where
  tt : List (Addr × Str)
structure Sd (K : PySem.W.Frag) [HasTabs K] (D H : Hp) (T : Tm) (σ : St) (ρ : Rh) : Prop where
  ex : Ex D H
  tm : ∀ p ∈ T, DenO K D H p.1 p.2
  sl : Slots K D H σ ρ
  nd : (fpT T ++ fpR ρ).Nodup
  out : ∀ a ∈ fpT T ++ fpR ρ, D a = none
  tb : LamX.Tabs (HasTabs.tt K) D
end DL

/-! ### B. states change -/
namespace DL
open PySem L2 Evl
section
variable {K : PySem.W.Frag} [HasTabs K] {D D' H H' : Hp} {T T' : Tm} {σ σ' : St} {ρ ρ' : Rh} {v : V} {o : Ow} {i : Nat} {a p : Addr}
theorem Slots.keep (e : Ex D D') : ∀ {σ : St} {ρ : Rh}, Slots K D H σ ρ → (∀ a ∈ fpR ρ, ∀ u, H a = some u → H' a = some u) → Slots K D' H' σ ρ
  | _, _, .nil, _ => .nil
  | _, _, .skip r, k => .skip (Slots.keep e r fun a ha u hu => k a (by show a ∈ fpO none ++ _; exact List.mem_append_right _ ha) u hu)
  | _, _, .cons h r, k => .cons (h.keep e fun a ha u hu => k a (List.mem_append_left _ ha) u hu) (Slots.keep e r fun a ha u hu => k a (List.mem_append_right _ ha) u hu)
theorem Slots.length : ∀ {σ : St} {ρ : Rh}, Slots K D H σ ρ → σ.length = ρ.length
  | _, _, .nil => rfl
  | _, _, .skip r => by rw [List.length_cons, List.length_cons, Slots.length r]
  | _, _, .cons _ r => by rw [List.length_cons, List.length_cons, Slots.length r]
theorem Slots.get : ∀ {σ : St} {ρ : Rh} {i : Nat} {o : Ow}, Slots K D H σ ρ → ρ[i]? = some (some o) → ∃ v, σ[i]? = some (some v) ∧ DenO K D H v o
  | _, _, _, _, .nil, e => by simp at e
  | _, _, 0, _, .skip _, e => by simp at e
  | _, _, 0, _, .cons h _, e => by simp at e; subst e; exact ⟨_, rfl, h⟩
  | _, _, i + 1, o, .skip r, e => by
    obtain ⟨u, h1, h2⟩ := Slots.get (i := i) (o := o) r (by simpa using e)
    exact ⟨u, by simpa using h1, h2⟩
  | _, _, i + 1, o, .cons _ r, e => by
    obtain ⟨u, h1, h2⟩ := Slots.get (i := i) (o := o) r (by simpa using e)
    exact ⟨u, by simpa using h1, h2⟩
theorem Slots.at : ∀ {σ : St} {ρ : Rh}, Slots K D H σ ρ → ∀ a ∈ fpR ρ, ∃ u, H a = some u
  | _, _, .nil, a, ha => by exact absurd (show a ∈ ([] : List Addr) from ha) (by simp)
  | _, _, .skip r, a, ha => Slots.at r a ha
  | _, _, .cons h r, a, ha => by
    rcases List.mem_append.mp ha with e | e
    · exact h.at a e
    · exact Slots.at r a e
theorem Slots.none : ∀ {σ : St} {ρ : Rh} (i : Nat), Slots K D H σ ρ → Slots K D H σ (ρ.set i none)
  | _, _, _, .nil => .nil
  | _, _, 0, .skip r => .skip r
  | _, _, 0, .cons _ r => .skip r
  | _, _, i + 1, .skip r => .skip (Slots.none i r)
  | _, _, i + 1, .cons h r => .cons h (Slots.none i r)
theorem Slots.wipe1 : ∀ {σ : St} {ρ : Rh} (i : Nat), Slots K D H σ ρ → Slots K D H (σ.set i Option.none) (ρ.set i Option.none)
  | _, _, _, .nil => .nil
  | _, _, 0, .skip r => .skip r
  | _, _, 0, .cons _ r => .skip r
  | _, _, i + 1, .skip r => .skip (Slots.wipe1 i r)
  | _, _, i + 1, .cons h r => .cons h (Slots.wipe1 i r)
theorem Slots.set {v : V} {o : Ow} (q : DenO K D H v o) : ∀ {σ : St} {ρ : Rh} (i : Nat), Slots K D H σ ρ → Slots K D H (σ.set i (some v)) (ρ.set i (some o))
  | _, _, _, .nil => .nil
  | _, _, 0, .skip r => .cons q r
  | _, _, 0, .cons _ r => .cons q r
  | _, _, i + 1, .skip r => .skip (Slots.set q i r)
  | _, _, i + 1, .cons h r => .cons h (Slots.set q i r)
/-- the slot's own value told by another word -/
theorem Slots.put : ∀ {σ : St} {ρ : Rh} {i : Nat} {v : V} {o : Ow}, Slots K D H σ ρ → σ[i]? = some (some v) → DenO K D H v o → Slots K D H σ (ρ.set i (some o))
  | _, _, _, _, _, .nil, e, _ => by simp at e
  | _, _, 0, _, _, .skip r, e, q => by simp at e; subst e; exact .cons q r
  | _, _, 0, _, _, .cons _ r, e, q => by simp at e; subst e; exact .cons q r
  | _, _, i + 1, _, _, .skip r, e, q => .skip (Slots.put r (by simpa using e) q)
  | _, _, i + 1, _, _, .cons h r, e, q => .cons h (Slots.put r (by simpa using e) q)
theorem fpR_none : ∀ {ρ : Rh} {i : Nat} {x : Option Ow}, ρ[i]? = some x → (fpR ρ).Perm (fpO x ++ fpR (ρ.set i none))
  | [], _, _, e => by simp at e
  | y :: r, 0, x, e => by
    simp at e
    subst e
    exact List.Perm.refl _
  | y :: r, i + 1, x, e => by
    have ih := fpR_none (ρ := r) (i := i) (x := x) (by simpa using e)
    show (fpO y ++ fpR r).Perm (fpO x ++ (fpO y ++ fpR (r.set i none)))
    refine (ih.append_left (fpO y)).trans ?_
    rw [← List.append_assoc, ← List.append_assoc]
    exact List.perm_append_comm.append_right _
theorem fpR_out : ∀ {ρ : Rh} {i : Nat} (y : Option Ow), ρ.length ≤ i → ρ.set i y = ρ := fun y h => List.set_eq_of_length_le h
theorem fpR_set {ρ : Rh} {i : Nat} (o : Option Ow) (h : i < ρ.length) : (fpR (ρ.set i o)).Perm (fpO o ++ fpR (ρ.set i none)) := by
  have e : (ρ.set i o)[i]? = some o := by rw [List.getElem?_set_self h]
  have q := fpR_none e
  rw [List.set_set] at q
  exact q
theorem fpT_perm {T T' : Tm} (h : T.Perm T') : (fpT T).Perm (fpT T') := by
  induction h with
  | nil => exact List.Perm.refl _
  | cons x _ ih => exact ih.append_left _
  | swap x y l =>
    show (y.2.fp ++ (x.2.fp ++ fpT l)).Perm (x.2.fp ++ (y.2.fp ++ fpT l))
    rw [← List.append_assoc, ← List.append_assoc]
    exact List.perm_append_comm.append_right _
  | trans _ _ i1 i2 => exact i1.trans i2
theorem fpT_app : ∀ (A B : Tm), fpT (A ++ B) = fpT A ++ fpT B
  | [], B => rfl
  | x :: A, B => by
    show x.2.fp ++ fpT (A ++ B) = (x.2.fp ++ fpT A) ++ fpT B
    rw [fpT_app A B, List.append_assoc]
theorem mem_fpT : ∀ {T : Tm} {p : V × Ow} {a : Addr}, p ∈ T → a ∈ p.2.fp → a ∈ fpT T
  | x :: T, p, a, h, k => by
    rcases List.mem_cons.mp h with e | e
    · subst e
      exact List.mem_append_left _ k
    · exact List.mem_append_right _ (mem_fpT e k)

/-- the one lemma: what a state needs, its addresses up to order -/
theorem Sd.mk' {L : List Addr} (ex : Ex D H) (tm : ∀ p ∈ T, DenO K D H p.1 p.2) (sl : Slots K D H σ ρ) (pm : (fpT T ++ fpR ρ).Perm L) (nd : L.Nodup) (out : ∀ a ∈ L, D a = none) (tb : LamX.Tabs (HasTabs.tt K) D := by exact Sd.tb (by assumption)) : Sd K D H T σ ρ :=
  ⟨ex, tm, sl, pm.nodup_iff.mpr nd, fun a ha => out a (pm.mem_iff.mp ha), tb⟩
theorem Sd.len (h : Sd K D H T σ ρ) : σ.length = ρ.length := h.sl.length
theorem Sd.at (h : Sd K D H T σ ρ) : ∀ a ∈ fpT T ++ fpR ρ, ∃ u, H a = some u := by
  intro a ha
  rcases List.mem_append.mp ha with e | e
  · have : ∀ (T : Tm), (∀ p ∈ T, DenO K D H p.1 p.2) → a ∈ fpT T → ∃ u, H a = some u := by
      intro T
      induction T with
      | nil => intro _ z; exact absurd (show a ∈ ([] : List Addr) from z) (by simp)
      | cons x T ih =>
        intro q z
        rcases List.mem_append.mp z with z | z
        · exact (q x List.mem_cons_self).at a z
        · exact ih (fun p hp => q p (List.mem_cons_of_mem _ hp)) z
    exact this T h.tm e
  · exact h.sl.at a e
theorem Sd.grow (h : Sd K D H T σ ρ) (e : Ex D D') (x : Ex D' H') (k : ∀ a ∈ fpT T ++ fpR ρ, ∀ u, H a = some u → H' a = some u) (o : ∀ a ∈ fpT T ++ fpR ρ, D' a = none) : Sd K D' H' T σ ρ :=
  ⟨x, fun p hp => (h.tm p hp).keep e fun a ha u hu => k a (List.mem_append_left _ (mem_fpT hp ha)) u hu, h.sl.keep e fun a ha u hu => k a (List.mem_append_right _ ha) u hu, h.nd, o, h.tb.ext fun b o hb => e b o hb⟩
theorem Sd.dnone (h : Sd K D H T σ ρ) (hp : H p = none) : D p = none := by
  cases q : D p with
  | none => rfl
  | some u =>
    have := h.ex p u q
    rw [hp] at this
    cases this
theorem Sd.nep (h : Sd K D H T σ ρ) (hp : H p = none) : ∀ a ∈ fpT T ++ fpR ρ, a ≠ p := fun a ha e => by
  obtain ⟨u, hu⟩ := h.at a ha
  rw [e, hp] at hu
  cases hu
/-- a new thing, to be data -/
theorem Sd.new (h : Sd K D H T σ ρ) (hp : H p = none) (u : HO) : Sd K (upd D p u) (upd H p u) T σ ρ := by
  refine h.grow (Ex.new (h.dnone hp)) (fun a x e => ?_) (fun a ha x hx => by rw [upd_ne (h.nep hp a ha)]; exact hx) fun a ha => by rw [upd_ne (h.nep hp a ha)]; exact h.out a ha
  by_cases q : a = p
  · subst q; rw [upd_same] at e ⊢; exact e
  · rw [upd_ne q] at e ⊢; exact h.ex a x e
/-- a new thing, to be owned -/
theorem Sd.newO (h : Sd K D H T σ ρ) (hp : H p = none) (u : HO) : Sd K D (upd H p u) T σ ρ :=
  h.grow (Ex.refl D) (fun a x e => by rw [upd_ne (ne_of_none (h.ex a x e) hp)]; exact h.ex a x e) (fun a ha x hx => by rw [upd_ne (h.nep hp a ha)]; exact hx) h.out
/-- nothing that the state knows is touched -/
theorem Sd.keepH (h : Sd K D H T σ ρ) (k : Ex H H') : Sd K D H' T σ ρ := h.grow (Ex.refl D) (h.ex.trans k) (fun a _ u hu => k a u hu) h.out
theorem Sd.push {d : Dat} (h : Sd K D H T σ ρ) (q : Den K D v d) : Sd K D H ((v, .d d) :: T) σ ρ :=
  ⟨h.ex, fun p hp => by rcases List.mem_cons.mp hp with e | e; (· subst e; exact .d q); exact h.tm p e, h.sl, h.nd, h.out, h.tb⟩
theorem Sd.perm (h : Sd K D H T σ ρ) (m : T.Perm T') : Sd K D H T' σ ρ :=
  .mk' h.ex (fun p hp => h.tm p (m.mem_iff.mpr hp)) h.sl ((fpT_perm m).symm.append_right _) h.nd h.out
theorem Sd.popN {A : Tm} (h : Sd K D H (A ++ T) σ ρ) : Sd K D H T σ ρ := by
  refine ⟨h.ex, fun p hp => h.tm p (List.mem_append_right _ hp), h.sl, ?_, fun a ha => h.out a ?_, h.tb⟩
  · have q := h.nd
    rw [fpT_app, List.append_assoc] at q
    exact (List.nodup_append.mp q).2.1
  · rw [fpT_app, List.append_assoc]
    exact List.mem_append_right _ ha
theorem Sd.pop {q : V × Ow} (h : Sd K D H (q :: T) σ ρ) : Sd K D H T σ ρ := Sd.popN (A := [q]) h
theorem Sd.pop2 {q r : V × Ow} (h : Sd K D H (q :: r :: T) σ ρ) : Sd K D H (q :: T) σ ρ := (h.perm (List.Perm.swap _ _ _)).pop
theorem Sd.forget (h : Sd K D H T σ ρ) (i : Nat) : Sd K D H T σ (ρ.set i none) := by
  by_cases hi : i < ρ.length
  · have e := fpR_none (ρ := ρ) (i := i) (x := ρ[i]) (by simp [hi])
    refine ⟨h.ex, h.tm, h.sl.none i, ?_, fun a ha => h.out a ?_, h.tb⟩
    · have q : (fpT T ++ (fpO ρ[i] ++ fpR (ρ.set i none))).Nodup := (e.append_left _).nodup_iff.mp h.nd
      rw [← List.append_assoc] at q
      have q2 : (fpO ρ[i] ++ fpT T ++ fpR (ρ.set i none)).Nodup := (List.perm_append_comm.append_right _).nodup_iff.mp q
      rw [List.append_assoc] at q2
      exact (List.nodup_append.mp q2).2.1
    · rcases List.mem_append.mp ha with z | z
      · exact List.mem_append_left _ z
      · exact List.mem_append_right _ (e.mem_iff.mpr (List.mem_append_right _ z))
  · rw [fpR_out none (by omega)]
    exact h
/-- a temporary goes into a slot -/
theorem Sd.toSlot (h : Sd K D H ((v, o) :: T) σ ρ) (i : Nat) (hi : i < σ.length) : Sd K D H T (σ.set i (some v)) (ρ.set i (some o)) := by
  have hl : i < ρ.length := by rw [← h.len]; exact hi
  have g := h.forget i
  refine .mk' (L := fpT ((v, o) :: T) ++ fpR (ρ.set i none)) g.ex (fun p hp => g.tm p (List.mem_cons_of_mem _ hp)) (h.sl.set (h.tm (v, o) List.mem_cons_self) i) ?_ g.nd g.out
  show (fpT T ++ fpR (ρ.set i (some o))).Perm ((o.fp ++ fpT T) ++ fpR (ρ.set i none))
  refine ((fpR_set (some o) hl).append_left _).trans ?_
  show (fpT T ++ (o.fp ++ fpR (ρ.set i none))).Perm ((o.fp ++ fpT T) ++ fpR (ρ.set i none))
  rw [← List.append_assoc]
  exact List.perm_append_comm.append_right _
theorem Sd.getd {d : Dat} (h : Sd K D H T σ ρ) (e : ρ[i]? = some (some (.d d))) : ∃ v, σ[i]? = some (some v) ∧ Den K D v d := by
  obtain ⟨v, h1, h2⟩ := h.sl.get e
  cases h2 with
  | d q => exact ⟨v, h1, q⟩
def Ow.root : Ow → Option Addr
  | .l a _ => some a
  | .t a _ => some a
  | .z a _ _ _ => some a
  | .o a _ _ => some a
  | _ => none
theorem root_ref {a : Addr} (e : o.root = some a) (q : DenO K D H v o) : v = .ref a := by
  cases q <;> simp [Ow.root] at e <;> subst e <;> rfl
theorem Sd.getl {xs : List Ow} (h : Sd K D H T σ ρ) (e : ρ[i]? = some (some (.l a xs))) : σ[i]? = some (some (.ref a)) ∧ ∃ vs, H a = some (.lst vs) ∧ DenOs K D H vs xs := by
  obtain ⟨v, h1, h2⟩ := h.sl.get e
  cases h2 with
  | l q r => exact ⟨h1, _, q, r⟩
theorem Sd.getz {ob : Obj} {kvs : List (List Key × V)} {kds : List (List Key × Dat)} (h : Sd K D H T σ ρ) (e : ρ[i]? = some (some (.z a ob kvs kds))) : σ[i]? = some (some (.ref a)) ∧ H a = some (.frz ob (.dT kvs)) ∧ DenK K D kvs kds := by
  obtain ⟨v, h1, h2⟩ := h.sl.get e
  cases h2 with
  | z q r => exact ⟨h1, q, r⟩
theorem Sd.gett {kds : List (List Key × Dat)} (h : Sd K D H T σ ρ) (e : ρ[i]? = some (some (.t a kds))) : σ[i]? = some (some (.ref a)) ∧ ∃ kvs, H a = some (.dT kvs) ∧ DenK K D kvs kds := by
  obtain ⟨v, h1, h2⟩ := h.sl.get e
  cases h2 with
  | t q r => exact ⟨h1, _, q, r⟩
theorem Sd.geto {C : Addr} {gs : List (Str × Dat)} (h : Sd K D H T σ ρ) (e : ρ[i]? = some (some (.o a C gs))) : σ[i]? = some (some (.ref a)) ∧ ∃ dx fs, H a = some (.ins C dx fs) ∧ DenF K D fs gs := by
  obtain ⟨v, h1, h2⟩ := h.sl.get e
  cases h2 with
  | o q r => exact ⟨h1, _, _, q, r⟩
/-- an owned slot's thing is handed on -/
theorem Sd.move (h : Sd K D H T σ ρ) (e : ρ[i]? = some (some o)) (r : o.root = some a) : σ[i]? = some (some (.ref a)) ∧ Sd K D H ((.ref a, o) :: T) σ (ρ.set i (some (.m a))) := by
  obtain ⟨v, h1, h2⟩ := h.sl.get e
  have hv := root_ref r h2
  subst hv
  have hl : i < ρ.length := (List.getElem?_eq_some_iff.mp e).1
  refine ⟨h1, .mk' (L := fpT T ++ fpR ρ) h.ex (fun p hp => ?_) (h.sl.put h1 (.m a)) ?_ h.nd h.out⟩
  · rcases List.mem_cons.mp hp with z | z
    · subst z; exact h2
    · exact h.tm p z
  · show ((o.fp ++ fpT T) ++ fpR (ρ.set i (some (.m a)))).Perm (fpT T ++ fpR ρ)
    refine ((fpR_set (some (.m a)) hl).append_left _).trans ?_
    show ((o.fp ++ fpT T) ++ fpR (ρ.set i none)).Perm (fpT T ++ fpR ρ)
    refine (List.perm_append_comm.append_right _).trans ?_
    rw [List.append_assoc]
    exact (fpR_none e).symm.append_left _
/-- .. and comes back -/
theorem Sd.back (h : Sd K D H ((v, o) :: T) σ ρ) (r : o.root = some a) (e : ρ[i]? = some (some (.m a))) : Sd K D H T σ (ρ.set i (some o)) := by
  have q := h.tm (v, o) List.mem_cons_self
  have hv := root_ref r q
  obtain ⟨w, h1, h2⟩ := h.sl.get e
  have hw : w = .ref a := by cases h2; rfl
  have hl : i < ρ.length := (List.getElem?_eq_some_iff.mp e).1
  refine .mk' (L := fpT ((v, o) :: T) ++ fpR ρ) h.ex (fun p hp => h.tm p (List.mem_cons_of_mem _ hp)) (h.sl.put h1 (by rw [hw, ← hv]; exact q)) ?_ h.nd h.out
  show (fpT T ++ fpR (ρ.set i (some o))).Perm ((o.fp ++ fpT T) ++ fpR ρ)
  refine ((fpR_set (some o) hl).append_left _).trans ?_
  show (fpT T ++ (o.fp ++ fpR (ρ.set i none))).Perm ((o.fp ++ fpT T) ++ fpR ρ)
  rw [← List.append_assoc]
  exact (List.perm_append_comm).append (fpR_none e).symm
/-- a slot's owned list is changed -/
theorem Sd.write {xs ys : List Ow} {ws : List V} {L : List Addr} {T' : Tm} (h : Sd K D H T σ ρ) (e : ρ[i]? = some (some (.l a xs))) (q : DenOs K D H ws ys) (hT : ∀ p ∈ T', p ∈ T ∨ DenO K D H p.1 p.2)
    (nn : ∀ b ∈ fps ys ++ fpT T', b ≠ a) (hp : (fps ys ++ fpT T').Perm L) (hL : (L ++ (a :: fpR (ρ.set i none))).Nodup) (ho : ∀ b ∈ L, D b = none) : Sd K D (upd H a (.lst ws)) T' σ (ρ.set i (some (.l a ys))) := by
  obtain ⟨s1, vs, ha, hv⟩ := h.getl e
  have hl : i < ρ.length := (List.getElem?_eq_some_iff.mp e).1
  have fa : D a = none := h.out a (List.mem_append_right _ ((fpR_none e).mem_iff.mpr (List.mem_append_left _ List.mem_cons_self)))
  have eo : ∀ b ∈ fpR (ρ.set i none), D b = none := fun b hb => h.out b (List.mem_append_right _ ((fpR_none e).mem_iff.mpr (List.mem_append_right _ hb)))
  have na : ∀ b ∈ fpR (ρ.set i none), b ≠ a := fun b hb z => by
    have := (List.nodup_append.mp hL).2.1
    rw [List.nodup_cons] at this
    exact this.1 (by rw [← z]; exact hb)
  have sl0 : Slots K D (upd H a (.lst ws)) σ (ρ.set i none) := (h.sl.none i).keep (Ex.refl D) fun b hb u hu => by rw [upd_ne (na b hb)]; exact hu
  have sl1 := sl0.put s1 (o := .l a ys) (.l upd_same (q.keep (Ex.refl D) fun b hb u hu => by rw [upd_ne (nn b (List.mem_append_left _ hb))]; exact hu))
  rw [List.set_set] at sl1
  refine .mk' (L := L ++ (a :: fpR (ρ.set i none))) (fun b u hb => by rw [upd_ne (fun z => by rw [z, fa] at hb; cases hb)]; exact h.ex b u hb) (fun p hp => ?_) sl1 ?_ hL (fun b hb => ?_)
  · have g : DenO K D H p.1 p.2 := by
      rcases hT p hp with z | z
      · exact h.tm p z
      · exact z
    exact g.keep (Ex.refl D) fun b hb u hu => by rw [upd_ne (nn b (List.mem_append_right _ (mem_fpT hp hb)))]; exact hu
  · refine ((fpR_set (some (.l a ys)) hl).append_left _).trans ?_
    show (fpT T' ++ ((a :: fps ys) ++ fpR (ρ.set i none))).Perm (L ++ (a :: fpR (ρ.set i none)))
    have s1 : (fpT T' ++ ((a :: fps ys) ++ fpR (ρ.set i none))).Perm ((fps ys ++ fpT T') ++ (a :: fpR (ρ.set i none))) := by
      rw [← List.append_assoc]
      refine (List.perm_append_comm.append_right _).trans ?_
      show (a :: (fps ys ++ fpT T' ++ fpR (ρ.set i none))).Perm _
      exact List.perm_middle.symm
    exact s1.trans (hp.append_right _)
  · rcases List.mem_append.mp hb with z | z
    · exact ho b z
    · rcases List.mem_cons.mp z with z | z
      · rw [z]; exact fa
      · exact eo b z
end
end DL

/-! ### C. readings over states -/
namespace DL
open PySem L2 Evl
inductive Re where
  | ok (o : Ow)
  | ex (C : Addr) (fs : List (Str × Dat))
inductive Out where
  | nx (ρ : Rh) | rt (o : Ow) (ρ : Rh) | bk (ρ : Rh) | ct (ρ : Rh) | xc (C : Addr) (fs : List (Str × Dat)) (ρ : Rh)
abbrev EPost := Re → Rh → Prop
abbrev SPost := Out → Prop
def XAt (K : PySem.W.Frag) (D H : Hp) (d : Addr) (fs : List (Str × Dat)) : Prop := ∃ vs, H d = some (.xd vs) ∧ DenF K D vs fs
def XOk (K : PySem.W.Frag) [HasTabs K] (E : XK) (T : Tm) (σ : St) (P : EPost) : Prop := ∀ C fs ρ' D' H' d, P (.ex C fs) ρ' → Sd K D' H' T σ ρ' → XAt K D' H' d fs → E (.ref C) (some d) H'
def EvP (K : PySem.W.Frag) [HasTabs K] (E : XK) (te : TE) (ρ : Rh) (P : EPost) : Prop :=
  ∀ D H T σ (Q : VK), Sd K D H T σ ρ → (∀ v o ρ' D' H', P (.ok o) ρ' → Sd K D' H' ((v, o) :: T) σ ρ' → Q v H') → XOk K E T σ P → te σ H Q
def TvP (K : PySem.W.Frag) [HasTabs K] (E : XK) (tt : TT) (ρ : Rh) (P : EPost) : Prop :=
  ∀ D H T σ (Q : Bool → Hp → Prop), Sd K D H T σ ρ → (∀ b ρ' D' H', P (.ok (.d (.bl b))) ρ' → Sd K D' H' T σ ρ' → Q b H') → XOk K E T σ P → tt σ H Q
def AvP (K : PySem.W.Frag) [HasTabs K] (E : XK) (ta : TA) (ρ : Rh) (P : List Ow → Rh → Prop) (X : EPost) : Prop :=
  ∀ D H T σ (Q : List V → Hp → Prop), Sd K D H T σ ρ → (∀ vs os ρ' D' H', P os ρ' → vs.length = os.length → Sd K D' H' (vs.zip os ++ T) σ ρ' → Q vs H') → XOk K E T σ X → ta σ H Q
structure Wd (K : PySem.W.Frag) [HasTabs K] (E : XK) (T : Tm) (En : Ends) (P : SPost) : Prop where
  nx : ∀ ρ' D' H' σ', P (.nx ρ') → Sd K D' H' T σ' ρ' → En.nx σ' H'
  rt : ∀ v o ρ' D' H' σ', P (.rt o ρ') → Sd K D' H' ((v, o) :: T) σ' ρ' → En.rt v H'
  bk : ∀ ρ' D' H' σ', P (.bk ρ') → Sd K D' H' T σ' ρ' → En.bk σ' H'
  ct : ∀ ρ' D' H' σ', P (.ct ρ') → Sd K D' H' T σ' ρ' → En.ct σ' H'
  xc : ∀ C fs ρ' D' H' σ' d, P (.xc C fs ρ') → Sd K D' H' T σ' ρ' → XAt K D' H' d fs → E (.ref C) (some d) H'
def SvP (K : PySem.W.Frag) [HasTabs K] (E : XK) (ts : TS) (ρ : Rh) (P : SPost) : Prop :=
  ∀ D H T σ En, Sd K D H T σ ρ → Wd K E T En P → ts En σ H
/-- go on with a value; an exception is handed on -/
def bnd (k : Ow → Rh → Prop) (P : EPost) : EPost := fun r ρ => match r with
  | .ok o => k o ρ
  | .ex C fs => P (.ex C fs) ρ
def bndS (k : Ow → Rh → Prop) (P : SPost) : EPost := fun r ρ => match r with
  | .ok o => k o ρ
  | .ex C fs => P (.xc C fs ρ)
def seqS (k : Rh → Prop) (P : SPost) : SPost := fun o => match o with
  | .nx ρ => k ρ
  | o => P o
section
variable {K : PySem.W.Frag} [HasTabs K] {E : XK} {te ta tb : TE} {tt tu : TT} {tas : TA} {ts tw : TS} {ρ : Rh} {P P' : EPost} {S : SPost} {D D' H H' : Hp} {T : Tm} {σ : St} {v : V} {o : Ow} {i : Nat} {a p : Addr}
theorem EvP.mono (h : EvP K E te ρ P) (m : ∀ r ρ', P r ρ' → P' r ρ') : EvP K E te ρ P' := fun D H T σ Q s k x => h D H T σ Q s (fun v o ρ' D' H' q => k v o ρ' D' H' (m _ _ q)) fun C fs ρ' D' H' d q => x C fs ρ' D' H' d (m _ _ q)
theorem SvP.mono {S' : SPost} (h : SvP K E ts ρ S) (m : ∀ o, S o → S' o) : SvP K E ts ρ S' := fun D H T σ En s w => h D H T σ En s
  ⟨fun ρ' D' H' σ' q => w.nx ρ' D' H' σ' (m _ q), fun v o ρ' D' H' σ' q => w.rt v o ρ' D' H' σ' (m _ q), fun ρ' D' H' σ' q => w.bk ρ' D' H' σ' (m _ q), fun ρ' D' H' σ' q => w.ct ρ' D' H' σ' (m _ q), fun C fs ρ' D' H' σ' d q => w.xc C fs ρ' D' H' σ' d (m _ q)⟩
/-- weaker knowledge of slots -/
inductive Wk : Rh → Rh → Prop
  | nil : Wk [] []
  | skip {x : Option Ow} {r r' : Rh} : Wk r r' → Wk (x :: r) (none :: r')
  | cons {x : Option Ow} {r r' : Rh} : Wk r r' → Wk (x :: r) (x :: r')
theorem Wk.refl : ∀ ρ : Rh, Wk ρ ρ
  | [] => .nil
  | _ :: r => .cons (Wk.refl r)
theorem Wk.slots : ∀ {ρ ρ' : Rh} {σ : St}, Wk ρ ρ' → Slots K D H σ ρ → Slots K D H σ ρ'
  | _, _, _, .nil, h => h
  | _, _, _, .skip w, .skip r => .skip (Wk.slots w r)
  | _, _, _, .skip w, .cons _ r => .skip (Wk.slots w r)
  | _, _, _, .cons w, .skip r => .skip (Wk.slots w r)
  | _, _, _, .cons w, .cons h r => .cons h (Wk.slots w r)
theorem Wk.sub : ∀ {ρ ρ' : Rh}, Wk ρ ρ' → (fpR ρ').Sublist (fpR ρ)
  | _, _, .nil => List.Sublist.refl _
  | _, _, .skip w => (Wk.sub w).trans (List.sublist_append_right _ _)
  | _, _, .cons w => (Wk.sub w).append_left _
theorem Sd.wk {ρ' : Rh} (h : Sd K D H T σ ρ) (w : Wk ρ ρ') : Sd K D H T σ ρ' :=
  ⟨h.ex, h.tm, w.slots h.sl, (w.sub.append_left _).nodup h.nd, fun a ha => h.out a ((w.sub.append_left _).subset ha), h.tb⟩
/-- an owned thing back into the slot that stands for it -/
def bkG (o : Ow) (b : Addr) : Rh → Rh
  | [] => []
  | some (.m c) :: r => if c = b then some o :: r else some (.m c) :: bkG o b r
  | none :: r => none :: bkG o b r
  | some (.d x) :: r => some (.d x) :: bkG o b r
  | some (.l c x) :: r => some (.l c x) :: bkG o b r
  | some (.t c x) :: r => some (.t c x) :: bkG o b r
  | some (.z c y z x) :: r => some (.z c y z x) :: bkG o b r
  | some (.o c C x) :: r => some (.o c C x) :: bkG o b r
def bk : Ow → Rh → Rh
  | .d _, ρ => ρ
  | .m _, ρ => ρ
  | .l a xs, ρ => bkG (.l a xs) a ρ
  | .t a xs, ρ => bkG (.t a xs) a ρ
  | .z a y z xs, ρ => bkG (.z a y z xs) a ρ
  | .o a C xs, ρ => bkG (.o a C xs) a ρ
def bks : List Ow → Rh → Rh
  | [], ρ => ρ
  | o :: os, ρ => bks os (bk o ρ)
theorem bkG_is (o : Ow) (b : Addr) : ∀ ρ : Rh, bkG o b ρ = ρ ∨ ∃ i, ρ[i]? = some (some (.m b)) ∧ bkG o b ρ = ρ.set i (some o)
  | [] => .inl rfl
  | none :: r => by
    rcases bkG_is o b r with e | ⟨i, e, q⟩
    · exact .inl (by unfold bkG; rw [e])
    · exact .inr ⟨i + 1, e, by unfold bkG; rw [q]; rfl⟩
  | some (.d x) :: r => by
    rcases bkG_is o b r with e | ⟨i, e, q⟩
    · exact .inl (by unfold bkG; rw [e])
    · exact .inr ⟨i + 1, e, by unfold bkG; rw [q]; rfl⟩
  | some (.l c x) :: r => by
    rcases bkG_is o b r with e | ⟨i, e, q⟩
    · exact .inl (by unfold bkG; rw [e])
    · exact .inr ⟨i + 1, e, by unfold bkG; rw [q]; rfl⟩
  | some (.t c x) :: r => by
    rcases bkG_is o b r with e | ⟨i, e, q⟩
    · exact .inl (by unfold bkG; rw [e])
    · exact .inr ⟨i + 1, e, by unfold bkG; rw [q]; rfl⟩
  | some (.z c y z x) :: r => by
    rcases bkG_is o b r with e | ⟨i, e, q⟩
    · exact .inl (by unfold bkG; rw [e])
    · exact .inr ⟨i + 1, e, by unfold bkG; rw [q]; rfl⟩
  | some (.o c C x) :: r => by
    rcases bkG_is o b r with e | ⟨i, e, q⟩
    · exact .inl (by unfold bkG; rw [e])
    · exact .inr ⟨i + 1, e, by unfold bkG; rw [q]; rfl⟩
  | some (.m c) :: r => by
    by_cases h : c = b
    · subst h
      exact .inr ⟨0, rfl, by unfold bkG; rw [if_pos rfl]; rfl⟩
    · rcases bkG_is o b r with e | ⟨i, e, q⟩
      · exact .inl (by unfold bkG; rw [if_neg h, e])
      · exact .inr ⟨i + 1, e, by unfold bkG; rw [if_neg h, q]; rfl⟩
theorem Sd.bkG (h : Sd K D H ((v, o) :: T) σ ρ) (r : o.root = some a) : Sd K D H T σ (bkG o a ρ) := by
  rcases bkG_is o a ρ with e | ⟨i, e, q⟩
  · rw [e]; exact h.pop
  · rw [q]; exact h.back r e
theorem Sd.bk (h : Sd K D H ((v, o) :: T) σ ρ) : Sd K D H T σ (bk o ρ) := by
  cases o with
  | d x => exact h.pop
  | m x => exact h.pop
  | l a xs => exact h.bkG rfl
  | t a xs => exact h.bkG rfl
  | z a y z xs => exact h.bkG rfl
  | o a C xs => exact h.bkG rfl
theorem Sd.bks : ∀ {vs : List V} {os : List Ow} {ρ : Rh}, vs.length = os.length → Sd K D H (vs.zip os ++ T) σ ρ → Sd K D H T σ (bks os ρ)
  | [], [], _, _, h => h
  | v :: vs, o :: os, ρ, e, h => Sd.bks (vs := vs) (os := os) (by simpa using e) (Sd.bk (T := vs.zip os ++ T) h)
/-- the temporaries below are kept while one above is put back -/
theorem Sd.bk2 {w : V} {x : Ow} (h : Sd K D H ((w, x) :: (v, o) :: T) σ ρ) : Sd K D H ((w, x) :: T) σ (DL.bk o ρ) := Sd.bk (T := (w, x) :: T) (h.perm (List.Perm.swap _ _ _))
theorem zip_mid {vs : List V} {os : List Ow} {q : V × Ow} : (q :: (vs.zip os ++ T)).Perm (vs.zip os ++ q :: T) := List.perm_middle.symm
theorem Sd.bks2 {vs : List V} {os : List Ow} {q : V × Ow} (e : vs.length = os.length) (h : Sd K D H (q :: (vs.zip os ++ T)) σ ρ) : Sd K D H (q :: T) σ (DL.bks os ρ) := Sd.bks (T := q :: T) e (h.perm zip_mid)

/-! values that need no heap -/
def Dat.atm : Dat → Bool
  | .non => true
  | .bl _ => true
  | .int _ => true
  | .str _ => true
  | .ty _ => true
  | _ => false
def Dat.val : Dat → V
  | .bl b => .bl b
  | .int i => .int i
  | .str x => .str x
  | .ty n => .ty n
  | _ => .non
theorem Den.at_v {d : Dat} (h : d.atm = true) : Den K D d.val d := by
  cases d <;> first | exact .non | exact .bl _ | exact .int _ | exact .str _ | exact .ty _ | cases h
theorem Den.v_at {d : Dat} (q : Den K D v d) (h : d.atm = true) : v = d.val := by
  cases q <;> first | rfl | cases h
/-! owned things read as data -/
mutual
def Ow.dat : Ow → Dat
  | .d x => x
  | .m _ => .non
  | .l _ xs => .lst (dats xs)
  | .t _ _ => .non
  | .z _ _ _ _ => .non
  | .o _ C fs => .obj C fs
def dats : List Ow → List Dat
  | [] => []
  | o :: os => o.dat :: dats os
end
mutual
def Ow.okR : Ow → Bool
  | .d _ => true
  | .m _ => false
  | .l _ xs => okRs xs
  | .t _ _ => false
  | .z _ _ _ _ => false
  | .o _ _ _ => true
def okRs : List Ow → Bool
  | [] => true
  | o :: os => o.okR && okRs os
end
mutual
theorem DenO.read {K : PySem.W.Frag} [HasTabs K] {D H : Hp} (e : Ex D H) : ∀ {v : V} {o : Ow}, DenO K D H v o → o.okR = true → Den K H v o.dat
  | _, _, .d h, _ => h.mono e
  | _, _, .m a, k => by cases k
  | _, _, .l h r, k => .lst h (DenOs.read e r (by unfold Ow.okR at k; exact k))
  | _, _, .t h r, k => by cases k
  | _, _, .z h r, k => by cases k
  | _, _, .o h r, _ => .obj h (r.mono e)
theorem DenOs.read {K : PySem.W.Frag} [HasTabs K] {D H : Hp} (e : Ex D H) : ∀ {v : List V} {o : List Ow}, DenOs K D H v o → okRs o = true → DenAll K H v (dats o)
  | _, _, .nil, _ => .nil
  | _, _, .cons h r, k => by
    unfold okRs at k
    rw [Bool.and_eq_true] at k
    exact .cons (DenO.read e h k.1) (DenOs.read e r k.2)
end
theorem dats_map (ds : List Dat) : dats (ds.map Ow.d) = ds := by
  induction ds with
  | nil => rfl
  | cons d r ih =>
    show d :: dats (r.map Ow.d) = d :: r
    rw [ih]
theorem okRs_map (ds : List Dat) : okRs (ds.map Ow.d) = true := by
  induction ds with
  | nil => rfl
  | cons d r ih => exact ih
theorem tm_all : ∀ {vs : List V} {os : List Ow}, (∀ p ∈ vs.zip os, DenO K D H p.1 p.2) → vs.length = os.length → DenOs K D H vs os
  | [], [], _, _ => .nil
  | v :: vs, o :: os, h, e => .cons (h (v, o) List.mem_cons_self) (tm_all (fun p hp => h p (List.mem_cons_of_mem _ hp)) (by simpa using e))

/-! ### expressions -/
theorem ev_c {w : V} {x : Dat} (h : x.atm = true) (e : x.val = w) (q : P (.ok (.d x)) ρ) : EvP K E (tC w) ρ P := fun D H T σ Q s k _ => k w _ ρ D H q (s.push (by rw [← e]; exact Den.at_v h))
theorem ev_i {j : Int} (q : P (.ok (.d (.int j))) ρ) : EvP K E (tC (.int j)) ρ P := ev_c (x := .int j) rfl rfl q
theorem ev_b {b : Bool} (q : P (.ok (.d (.bl b))) ρ) : EvP K E (tC (.bl b)) ρ P := ev_c (x := .bl b) rfl rfl q
theorem ev_n (q : P (.ok (.d .non)) ρ) : EvP K E (tC .non) ρ P := ev_c (x := .non) rfl rfl q
theorem ev_s {x : Str} (q : P (.ok (.d (.str x))) ρ) : EvP K E (tC (.str x)) ρ P := ev_c (x := .str x) rfl rfl q
theorem ev_v {x : Dat} (e : ρ[i]? = some (some (.d x))) (q : P (.ok (.d x)) ρ) : EvP K E (tVar i) ρ P := fun D H T σ Q s k _ => by
  obtain ⟨v, h1, h2⟩ := s.getd e
  exact ⟨v, h1, k v _ ρ D H q (s.push h2)⟩
theorem ev_l {xs : List Ow} (e : ρ[i]? = some (some (.l a xs))) (q : P (.ok (.l a xs)) (ρ.set i (some (.m a)))) : EvP K E (tVar i) ρ P := fun D H T σ Q s k _ => by
  obtain ⟨h1, h2⟩ := s.move e rfl
  exact ⟨_, h1, k _ _ _ D H q h2⟩
theorem ev_t {xs : List (List Key × Dat)} (e : ρ[i]? = some (some (.t a xs))) (q : P (.ok (.t a xs)) (ρ.set i (some (.m a)))) : EvP K E (tVar i) ρ P := fun D H T σ Q s k _ => by
  obtain ⟨h1, h2⟩ := s.move e rfl
  exact ⟨_, h1, k _ _ _ D H q h2⟩
theorem ev_o {C : Addr} {xs : List (Str × Dat)} (e : ρ[i]? = some (some (.o a C xs))) (q : P (.ok (.o a C xs)) (ρ.set i (some (.m a)))) : EvP K E (tVar i) ρ P := fun D H T σ Q s k _ => by
  obtain ⟨h1, h2⟩ := s.move e rfl
  exact ⟨_, h1, k _ _ _ D H q h2⟩
theorem XOk.sub {A : Tm} {P Q : EPost} {σ : St} (x : XOk K E T σ P) (m : ∀ C fs ρ', Q (.ex C fs) ρ' → P (.ex C fs) ρ') : XOk K E (A ++ T) σ Q := fun C fs ρ' D' H' d q s => x C fs ρ' D' H' d (m C fs ρ' q) s.popN
theorem XOk.sub1 {q : V × Ow} {P Q : EPost} {σ : St} (x : XOk K E T σ P) (m : ∀ C fs ρ', Q (.ex C fs) ρ' → P (.ex C fs) ρ') : XOk K E (q :: T) σ Q := XOk.sub (A := [q]) x m
theorem XOk.sub0 {P Q : EPost} {σ : St} (x : XOk K E T σ P) (m : ∀ C fs ρ', Q (.ex C fs) ρ' → P (.ex C fs) ρ') : XOk K E T σ Q := fun C fs ρ' D' H' d q s => x C fs ρ' D' H' d (m C fs ρ' q) s
/-- an operation on data (or owned things read) whose value needs no heap -/
def AOp (K : PySem.W.Frag) (r : R2) (x y z : Dat) : Prop := z.atm = true ∧ ∀ H v w (Q : VK), Den K H v x → Den K H w y → Q z.val H → r v w H Q
theorem ev_op {r : R2} (h : EvP K E ta ρ (bnd (fun x ρ1 => EvP K E tb ρ1 (bnd (fun y ρ2 => x.okR = true ∧ y.okR = true ∧ ∃ z, AOp K r x.dat y.dat z ∧ P (.ok (.d z)) (bk x (bk y ρ2))) P)) P)) : EvP K E (tOp r ta tb) ρ P := by
  intro D H T σ Q s k xo
  refine h D H T σ _ s (fun v x ρ1 D1 H1 q1 s1 => ?_) (xo.sub0 fun _ _ _ z => z)
  refine q1 D1 H1 _ σ _ s1 (fun w y ρ2 D2 H2 q2 s2 => ?_) (xo.sub1 fun _ _ _ z => z)
  obtain ⟨hx, hy, z, hz, q⟩ := q2
  refine hz.2 H2 v w _ ((s2.tm (v, x) (List.mem_cons_of_mem _ List.mem_cons_self)).read s2.ex hx) ((s2.tm (w, y) List.mem_cons_self).read s2.ex hy) ?_
  exact k _ _ _ D2 H2 q ((s2.bk).bk.push (Den.at_v hz.1))
def AUn (K : PySem.W.Frag) (r : V → Hp → VK → Prop) (x z : Dat) : Prop := z.atm = true ∧ ∀ H v (Q : VK), Den K H v x → Q z.val H → r v H Q
theorem ev_un {r : V → Hp → VK → Prop} (h : EvP K E ta ρ (bnd (fun x ρ1 => x.okR = true ∧ ∃ z, AUn K r x.dat z ∧ P (.ok (.d z)) (bk x ρ1)) P)) : EvP K E (tUn r ta) ρ P := by
  intro D H T σ Q s k xo
  refine h D H T σ _ s (fun v x ρ1 D1 H1 q1 s1 => ?_) (xo.sub0 fun _ _ _ z => z)
  obtain ⟨hx, z, hz, q⟩ := q1
  refine hz.2 H1 v _ ((s1.tm (v, x) List.mem_cons_self).read s1.ex hx) ?_
  exact k _ _ _ D1 H1 q (s1.bk.push (Den.at_v hz.1))
theorem aop_I {C : Int → Int → Prop} {g : Int → Int → V} {i j : Int} {z : Dat} (hz : z.atm = true) (e : z.val = g i j) (hc : C i j) : AOp K (rI C g) (.int i) (.int j) z := ⟨hz, fun H v w Q h1 h2 q => by
  cases h1; cases h2; exact ⟨i, j, rfl, rfl, hc, by rw [← e]; exact q⟩⟩
theorem aop_I0 {g : Int → Int → V} {i j : Int} {z : Dat} (hz : z.atm = true) (e : z.val = g i j) : AOp K (rI0 g) (.int i) (.int j) z := ⟨hz, fun H v w Q h1 h2 q => by
  cases h1; cases h2; exact ⟨i, j, rfl, rfl, by rw [← e]; exact q⟩⟩
theorem aop_add {i j : Int} : AOp K rAdd (.int i) (.int j) (.int (i + j)) := ⟨rfl, fun H v w Q h1 h2 q => by cases h1; cases h2; exact ⟨i, j, rfl, rfl, q⟩⟩
theorem aop_sub {i j : Int} : AOp K rSub (.int i) (.int j) (.int (i - j)) := ⟨rfl, fun H v w Q h1 h2 q => by cases h1; cases h2; exact ⟨i, j, rfl, rfl, q⟩⟩
theorem aop_isN {x : Dat} {b : Bool} (e : (match x with | .non => true | _ => false) = b) : AOp K rIsN x .non (.bl b) := ⟨rfl, fun H v w Q h1 h2 q => by
  cases h2
  refine ⟨rfl, ?_⟩
  have e2 : decide (v = V.non) = b := by
    rw [← e]
    cases h1 <;> rfl
  rw [e2]
  exact q⟩
theorem aop_notN {x : Dat} {b : Bool} (e : (match x with | .non => false | _ => true) = b) : AOp K rNotN x .non (.bl b) := ⟨rfl, fun H v w Q h1 h2 q => by
  cases h2
  refine ⟨rfl, ?_⟩
  have e2 : (!decide (v = V.non)) = b := by
    rw [← e]
    cases h1 <;> rfl
  rw [e2]
  exact q⟩
theorem av_nil {Pa : List Ow → Rh → Prop} (q : Pa [] ρ) : AvP K E tNil ρ Pa P := fun D H T σ Q s k _ => k [] [] ρ D H q rfl s
theorem av_cons {Pa : List Ow → Rh → Prop} (h : EvP K E te ρ (bnd (fun o ρ1 => AvP K E tas ρ1 (fun os ρ2 => Pa (o :: os) ρ2) P) P)) : AvP K E (tCons te tas) ρ Pa P := by
  intro D H T σ Q s k xo
  refine h D H T σ _ s (fun v x ρ1 D1 H1 q1 s1 => ?_) (xo.sub0 fun _ _ _ z => z)
  refine q1 D1 H1 _ σ _ s1 (fun vs os ρ2 D2 H2 q2 e2 s2 => ?_) (xo.sub1 fun _ _ _ z => z)
  exact k (v :: vs) (x :: os) ρ2 D2 H2 q2 (by simp [e2]) (s2.perm zip_mid.symm)
theorem ev_tup {ds : List Dat} (h : AvP K E tas ρ (fun os ρ1 => ∃ ds, os = ds.map Ow.d ∧ ds.length ≤ 100000 ∧ P (.ok (.d (.tup ds))) ρ1) P) : EvP K E (tTup tas) ρ P := by
  intro D H T σ Q s k xo
  refine h D H T σ _ s (fun vs os ρ1 D1 H1 q1 e1 s1 => ?_) (xo.sub0 fun _ _ _ z => z)
  obtain ⟨ds, rfl, hl, q⟩ := q1
  have dv : DenAll K D1 vs ds := (tm_all (fun p hp => s1.tm p (List.mem_append_left _ hp)) e1).toAll
  refine ⟨sz_of (by rw [e1, List.length_map]; exact hl), fun p hp => ?_⟩
  refine k _ _ ρ1 _ _ q ((s1.popN.new hp _).push (.tup upd_same (dv.mono (Ex.new (s1.dnone hp)))))
theorem ev_lst (h : AvP K E tas ρ (fun os ρ1 => ∃ ds, os = ds.map Ow.d ∧ ds.length ≤ 100000 ∧ P (.ok (.d (.lst ds))) ρ1) P) : EvP K E (tLst tas) ρ P := by
  intro D H T σ Q s k xo
  refine h D H T σ _ s (fun vs os ρ1 D1 H1 q1 e1 s1 => ?_) (xo.sub0 fun _ _ _ z => z)
  obtain ⟨ds, rfl, hl, q⟩ := q1
  have dv : DenAll K D1 vs ds := (tm_all (fun p hp => s1.tm p (List.mem_append_left _ hp)) e1).toAll
  refine ⟨sz_of (by rw [e1, List.length_map]; exact hl), fun p hp => ?_⟩
  refine k _ _ ρ1 _ _ q ((s1.popN.new hp _).push (.lst upd_same (dv.mono (Ex.new (s1.dnone hp)))))
theorem fpT_zip : ∀ {vs : List V} {os : List Ow}, vs.length = os.length → fpT (vs.zip os) = fps os
  | [], [], _ => rfl
  | v :: vs, o :: os, e => by
    show o.fp ++ fpT (vs.zip os) = o.fp ++ fps os
    rw [fpT_zip (by simpa using e)]
/-- temporaries become the items of a new owned list -/
theorem Sd.own {vs : List V} {os : List Ow} (h : Sd K D H (vs.zip os ++ T) σ ρ) (e : vs.length = os.length) (hp : H p = none) : Sd K D (upd H p (.lst vs)) ((.ref p, .l p os) :: T) σ ρ := by
  have g := h.newO hp (.lst vs)
  have q := fpT_app (vs.zip os) T
  rw [fpT_zip e] at q
  refine ⟨g.ex, fun x hx => ?_, g.sl, ?_, fun a ha => ?_, g.tb⟩
  · rcases List.mem_cons.mp hx with z | z
    · subst z
      exact .l upd_same (tm_all (fun y hy => g.tm y (List.mem_append_left _ hy)) e)
    · exact g.tm x (List.mem_append_right _ z)
  · show (p :: (fps os) ++ fpT T ++ fpR ρ).Nodup
    rw [List.cons_append, List.cons_append, ← q, List.nodup_cons]
    exact ⟨fun z => h.nep hp p z rfl, h.nd⟩
  · have ha' : a ∈ p :: (fps os ++ fpT T ++ fpR ρ) := ha
    rcases List.mem_cons.mp ha' with z | z
    · rw [z]; exact h.dnone hp
    · exact h.out a (by rw [q]; exact z)
theorem ev_lsto (h : AvP K E tas ρ (fun os ρ1 => os.length ≤ 100000 ∧ ∀ a, P (.ok (.l a os)) ρ1) P) : EvP K E (tLst tas) ρ P := by
  intro D H T σ Q s k xo
  refine h D H T σ _ s (fun vs os ρ1 D1 H1 q1 e1 s1 => ?_) (xo.sub0 fun _ _ _ z => z)
  obtain ⟨hl, q⟩ := q1
  refine ⟨sz_of (by rw [e1]; exact hl), fun p hp => ?_⟩
  exact k _ _ ρ1 _ _ (q p) (s1.own e1 hp)
/-- a built-in's call whose value needs no heap -/
def ACb (K : PySem.W.Frag) (r : List V → Hp → VK → Prop) (xs : List Dat) (z : Dat) : Prop := z.atm = true ∧ ∀ H vs (Q : VK), DenAll K H vs xs → Q z.val H → r vs H Q
theorem ev_cb {r : List V → Hp → VK → Prop} (h : AvP K E tas ρ (fun os ρ1 => okRs os = true ∧ ∃ z, ACb K r (dats os) z ∧ P (.ok (.d z)) (bks os ρ1)) P) : EvP K E (tCB r tas) ρ P := by
  intro D H T σ Q s k xo
  refine h D H T σ _ s (fun vs os ρ1 D1 H1 q1 e1 s1 => ?_) (xo.sub0 fun _ _ _ z => z)
  obtain ⟨ho, z, hz, q⟩ := q1
  refine hz.2 H1 vs _ ((tm_all (fun p hp => s1.tm p (List.mem_append_left _ hp)) e1).read s1.ex ho) ?_
  exact k _ _ _ D1 H1 q ((Sd.bks e1 s1).push (Den.at_v hz.1))
/-! tests -/
theorem tv_test (h : EvP K E te ρ (bnd (fun o ρ1 => ∃ b, o = .d (.bl b) ∧ P (.ok (.d (.bl b))) ρ1) P)) : TvP K E (tTest te) ρ P := by
  intro D H T σ Q s k xo
  refine h D H T σ _ s (fun v x ρ1 D1 H1 q1 s1 => ?_) (xo.sub0 fun _ _ _ z => z)
  obtain ⟨b, rfl, q⟩ := q1
  have hv := s1.tm (v, _) List.mem_cons_self
  cases hv with
  | d hv =>
    cases hv
    exact ⟨b, rfl, k b ρ1 D1 H1 q s1.pop⟩
theorem tv_B (h : EvP K E te ρ (bnd (fun o ρ1 => ∃ b, o = .d (.bl b) ∧ P (.ok (.d (.bl b))) ρ1) P)) : TvP K E (tB te) ρ P := tv_test h
theorem tv_and (h : TvP K E tt ρ (bnd (fun o ρ1 => ∃ b, o = .d (.bl b) ∧ (b = true → TvP K E tu ρ1 P) ∧ (b = false → P (.ok (.d (.bl false))) ρ1)) P)) : TvP K E (tAnd tt tu) ρ P := by
  intro D H T σ Q s k xo
  refine h D H T σ _ s (fun b ρ1 D1 H1 q1 s1 => ?_) (xo.sub0 fun _ _ _ z => z)
  obtain ⟨b', e, h1, h2⟩ := q1
  cases e
  cases b with
  | true => exact h1 rfl D1 H1 T σ Q s1 k xo
  | false => exact k false ρ1 D1 H1 (h2 rfl) s1
theorem tv_or (h : TvP K E tt ρ (bnd (fun o ρ1 => ∃ b, o = .d (.bl b) ∧ (b = true → P (.ok (.d (.bl true))) ρ1) ∧ (b = false → TvP K E tu ρ1 P)) P)) : TvP K E (tOr tt tu) ρ P := by
  intro D H T σ Q s k xo
  refine h D H T σ _ s (fun b ρ1 D1 H1 q1 s1 => ?_) (xo.sub0 fun _ _ _ z => z)
  obtain ⟨b', e, h1, h2⟩ := q1
  cases e
  cases b with
  | true => exact k true ρ1 D1 H1 (h1 rfl) s1
  | false => exact h2 rfl D1 H1 T σ Q s1 k xo
theorem tv_not (h : TvP K E tt ρ (bnd (fun o ρ1 => ∃ b, o = .d (.bl b) ∧ P (.ok (.d (.bl (!b)))) ρ1) P)) : TvP K E (tNot tt) ρ P := by
  intro D H T σ Q s k xo
  refine h D H T σ _ s (fun b ρ1 D1 H1 q1 s1 => ?_) (xo.sub0 fun _ _ _ z => z)
  obtain ⟨b', e, h1⟩ := q1
  cases e
  exact k _ ρ1 D1 H1 h1 s1
theorem ev_andV (h : EvP K E ta ρ (bnd (fun o ρ1 => ∃ b, o = .d (.bl b) ∧ (b = true → EvP K E tb ρ1 P) ∧ (b = false → P (.ok (.d (.bl false))) ρ1)) P)) : EvP K E (tAndV ta tb) ρ P := by
  intro D H T σ Q s k xo
  refine h D H T σ _ s (fun v x ρ1 D1 H1 q1 s1 => ?_) (xo.sub0 fun _ _ _ z => z)
  obtain ⟨b, rfl, h1, h2⟩ := q1
  have hv := s1.tm (v, _) List.mem_cons_self
  cases hv with
  | d hv =>
    cases hv
    refine ⟨b, rfl, ?_⟩
    cases b with
    | true => exact h1 rfl D1 H1 T σ Q s1.pop k xo
    | false => exact k _ _ ρ1 D1 H1 (h2 rfl) s1
theorem ev_orV (h : EvP K E ta ρ (bnd (fun o ρ1 => ∃ b, o = .d (.bl b) ∧ (b = true → P (.ok (.d (.bl true))) ρ1) ∧ (b = false → EvP K E tb ρ1 P)) P)) : EvP K E (tOrV ta tb) ρ P := by
  intro D H T σ Q s k xo
  refine h D H T σ _ s (fun v x ρ1 D1 H1 q1 s1 => ?_) (xo.sub0 fun _ _ _ z => z)
  obtain ⟨b, rfl, h1, h2⟩ := q1
  have hv := s1.tm (v, _) List.mem_cons_self
  cases hv with
  | d hv =>
    cases hv
    refine ⟨b, rfl, ?_⟩
    cases b with
    | true => exact k _ _ ρ1 D1 H1 (h1 rfl) s1
    | false => exact h2 rfl D1 H1 T σ Q s1.pop k xo
theorem ev_notV (h : EvP K E ta ρ (bnd (fun o ρ1 => ∃ b, o = .d (.bl b) ∧ P (.ok (.d (.bl (!b)))) ρ1) P)) : EvP K E (tNotV ta) ρ P := by
  intro D H T σ Q s k xo
  refine h D H T σ _ s (fun v x ρ1 D1 H1 q1 s1 => ?_) (xo.sub0 fun _ _ _ z => z)
  obtain ⟨b, rfl, h1⟩ := q1
  have hv := s1.tm (v, _) List.mem_cons_self
  cases hv with
  | d hv =>
    cases hv
    exact ⟨b, rfl, k _ _ ρ1 D1 H1 h1 (s1.pop.push (.bl _))⟩
theorem ev_if (h : TvP K E tt ρ (bnd (fun o ρ1 => ∃ b, o = .d (.bl b) ∧ (b = true → EvP K E ta ρ1 P) ∧ (b = false → EvP K E tb ρ1 P)) P)) : EvP K E (tIf tt ta tb) ρ P := by
  intro D H T σ Q s k xo
  refine h D H T σ _ s (fun b ρ1 D1 H1 q1 s1 => ?_) (xo.sub0 fun _ _ _ z => z)
  obtain ⟨b', e, h1, h2⟩ := q1
  cases e
  cases b with
  | true => exact h1 rfl D1 H1 T σ Q s1 k xo
  | false => exact h2 rfl D1 H1 T σ Q s1 k xo
/-! ### statements -/
theorem XOk.ofWd {En : Ends} (w : Wd K E T En S) (m : ∀ C fs ρ', P (.ex C fs) ρ' → S (.xc C fs ρ')) : XOk K E T σ P := fun C fs ρ' D' H' d q s x => w.xc C fs ρ' D' H' σ d (m C fs ρ' q) s x
theorem sv_seq (h : SvP K E ts ρ (seqS (fun ρ1 => SvP K E tw ρ1 S) S)) : SvP K E (tSeq ts tw) ρ S := fun D H T σ En s w => h D H T σ _ s
  ⟨fun ρ' D' H' σ' q s' => q D' H' T σ' En s' w, fun v o ρ' D' H' σ' q s' => w.rt v o ρ' D' H' σ' q s', fun ρ' D' H' σ' q s' => w.bk ρ' D' H' σ' q s', fun ρ' D' H' σ' q s' => w.ct ρ' D' H' σ' q s', fun C fs ρ' D' H' σ' d q s' x => w.xc C fs ρ' D' H' σ' d q s' x⟩
theorem sv_next (h : S (.nx ρ)) : SvP K E tNext ρ S := fun D H T σ En s w => w.nx ρ D H σ h s
theorem sv_brk (h : S (.bk ρ)) : SvP K E tBreak ρ S := fun D H T σ En s w => w.bk ρ D H σ h s
theorem sv_cont (h : S (.ct ρ)) : SvP K E tCont ρ S := fun D H T σ En s w => w.ct ρ D H σ h s
theorem sv_asg (h : EvP K E te ρ (bndS (fun o ρ1 => i < ρ1.length ∧ S (.nx (ρ1.set i (some o)))) S)) : SvP K E (tAsg te (gName i)) ρ S := by
  intro D H T σ En s w
  refine h D H T σ _ s (fun v x ρ1 D1 H1 q1 s1 => ?_) (.ofWd w fun _ _ _ z => z)
  exact w.nx _ D1 H1 _ q1.2 (s1.toSlot i (by rw [s1.len]; exact q1.1))
theorem sv_drop (h : EvP K E te ρ (bndS (fun o ρ1 => S (.nx (bk o ρ1))) S)) : SvP K E (tDrop te) ρ S := by
  intro D H T σ En s w
  refine h D H T σ _ s (fun v x ρ1 D1 H1 q1 s1 => ?_) (.ofWd w fun _ _ _ z => z)
  exact w.nx _ D1 H1 σ q1 s1.bk
theorem sv_ret (h : EvP K E te ρ (bndS (fun o ρ1 => S (.rt o ρ1)) S)) : SvP K E (tRet te) ρ S := by
  intro D H T σ En s w
  refine h D H T σ _ s (fun v x ρ1 D1 H1 q1 s1 => ?_) (.ofWd w fun _ _ _ z => z)
  exact w.rt _ _ _ D1 H1 σ q1 s1
theorem sv_retN (h : S (.rt (.d .non) ρ)) : SvP K E tRetN ρ S := fun D H T σ En s w => w.rt _ _ _ D H σ h (s.push .non)
theorem sv_if (h : TvP K E tt ρ (bndS (fun o ρ1 => ∃ b, o = .d (.bl b) ∧ (b = true → SvP K E ts ρ1 S) ∧ (b = false → SvP K E tw ρ1 S)) S)) : SvP K E (tIfS tt ts tw) ρ S := by
  intro D H T σ En s w
  refine h D H T σ _ s (fun b ρ1 D1 H1 q1 s1 => ?_) (.ofWd w fun _ _ _ z => z)
  obtain ⟨b', e, h1, h2⟩ := q1
  cases e
  cases b with
  | true => exact h1 rfl D1 H1 T σ En s1 w
  | false => exact h2 rfl D1 H1 T σ En s1 w
theorem sv_wk {ρ' : Rh} (w : Wk ρ ρ') (h : SvP K E ts ρ' S) : SvP K E ts ρ S := fun D H T σ En s z => h D H T σ En (s.wk w) z
end
end DL

/-! ### D. loops, comprehensions, calls -/
namespace DL
open PySem L2 Evl
section
variable {K : PySem.W.Frag} [HasTabs K] {E : XK} {te ta tb : TE} {tt tu : TT} {tas : TA} {ts tw : TS} {ρ : Rh} {P P' : EPost} {S : SPost} {D D' H H' : Hp} {T : Tm} {σ : St} {v : V} {o : Ow} {i : Nat} {a p : Addr}
/-! walks over data -/
def Yd (K : PySem.W.Frag) (D H : Hp) (x : V) (H' : Hp) (d : Dat) : Prop :=
  (H' = H ∧ Den K D x d) ∨ ∃ (t : Addr) (vs : List V) (es : List Dat), x = .ref t ∧ H t = none ∧ H' = upd H t (.tup vs) ∧ d = .tup es ∧ DenAll K D vs es
def Wkd (K : PySem.W.Frag) (J : It) (A : Tm) (ds : List Dat) : Prop := ∀ D H, Ex D H → (∀ p ∈ A, DenO K D H p.1 p.2) →
  (∀ i, i < ds.length → J.go i H) ∧ J.stop ds.length H ∧ ∀ i x H', i < ds.length → J.yld i H x H' → ∃ d, ds[i]? = some d ∧ Yd K D H x H' d
theorem Sd.yld {d : Dat} {x : V} (h : Sd K D H T σ ρ) (y : Yd K D H x H' d) : ∃ D', Sd K D' H' ((x, .d d) :: T) σ ρ := by
  rcases y with ⟨rfl, q⟩ | ⟨t, vs, es, rfl, ht, rfl, rfl, q⟩
  · exact ⟨D, h.push q⟩
  · exact ⟨_, (h.new ht _).push (.tup upd_same (q.mono (Ex.new (h.dnone ht))))⟩
def IvP (K : PySem.W.Frag) [HasTabs K] (E : XK) (wi : TI) (ρ : Rh) (P : List Dat → List Ow → Rh → Prop) (X : EPost) : Prop :=
  ∀ D H T σ (R : It → Hp → Prop), Sd K D H T σ ρ → (∀ J A ds ρ' D' H', P ds (A.map Prod.snd) ρ' → Wkd K J A ds → Sd K D' H' (A ++ T) σ ρ' → R J H') → XOk K E T σ X → wi σ H R
theorem iv_list {tl : TE} {Pi : List Dat → List Ow → Rh → Prop} (h : EvP K E tl ρ (bnd (fun o ρ1 => ∃ ds, o.okR = true ∧ o.dat = .lst ds ∧ (∀ x y, o = .t x y → False) ∧ (match o with | .l _ xs => xs = ds.map Ow.d | _ => True) ∧ Pi ds [o] ρ1) P)) : IvP K E (iList K tl) ρ Pi P := by
  intro D H T σ R s k xo
  refine h D H T σ _ s (fun v x ρ1 D1 H1 q1 s1 => ?_) (xo.sub0 fun _ _ _ z => z)
  obtain ⟨ds, ho, hd, _, hm, q⟩ := q1
  -- the list as it is read in any later state that still bears the temporary
  have rd : ∀ D2 H2, Ex D2 H2 → DenO K D2 H2 v x → ∃ a vs, v = .ref a ∧ SqL K H2 a vs ∧ DenAll K D2 vs ds := by
    intro D2 H2 e2 g
    cases g with
    | d g =>
      have hd' : _ = Dat.lst ds := hd
      subst hd'
      cases g with
      | lst g1 g2 => exact ⟨_, _, rfl, sq_of (e2 _ _ g1), g2⟩
    | m a => cases ho
    | l g1 g2 =>
      have hm' : _ = ds.map Ow.d := hm
      subst hm'
      exact ⟨_, _, rfl, sq_of g1, g2.toAll⟩
    | t g1 g2 => cases ho
    | z g1 g2 => cases ho
    | o g1 g2 => cases hd
  obtain ⟨a, vs, rfl, hS, hA⟩ := rd D1 H1 s1.ex (s1.tm (v, x) List.mem_cons_self)
  refine ⟨a, rfl, ⟨vs, hS⟩, k (Itl K a) [(.ref a, x)] ds ρ1 D1 H1 q (fun D2 H2 e2 g => ?_) s1⟩
  obtain ⟨b, ws, eb, hS2, hA2⟩ := rd D2 H2 e2 (g _ List.mem_cons_self)
  cases eb
  have hl := hA2.length
  refine ⟨fun i hi => ⟨ws, ws[i]'(by omega), hS2, by simp [show i < ws.length by omega]⟩, ⟨ws, hS2, by omega⟩, fun i y H' hi hy => ?_⟩
  obtain ⟨rfl, hy⟩ := hy
  obtain ⟨d, h1, h2⟩ := hA2.getv (hy ws hS2)
  exact ⟨d, h1, .inl ⟨rfl, h2⟩⟩
theorem iv_tup {tl : TE} {Pi : List Dat → List Ow → Rh → Prop} (h : EvP K E tl ρ (bnd (fun o ρ1 => ∃ ds, o = .d (.tup ds) ∧ Pi ds [o] ρ1) P)) : IvP K E (iTup K tl) ρ Pi P := by
  intro D H T σ R s k xo
  refine h D H T σ _ s (fun v x ρ1 D1 H1 q1 s1 => ?_) (xo.sub0 fun _ _ _ z => z)
  obtain ⟨ds, rfl, q⟩ := q1
  have rd : ∀ D2 H2, Ex D2 H2 → DenO K D2 H2 v (.d (.tup ds)) → ∃ a vs, v = .ref a ∧ SqT K H2 a vs ∧ DenAll K D2 vs ds := by
    intro D2 H2 e2 g
    cases g with
    | d g =>
      cases g with
      | tup g1 g2 => exact ⟨_, _, rfl, st_of (e2 _ _ g1), g2⟩
  obtain ⟨a, vs, rfl, hS, hA⟩ := rd D1 H1 s1.ex (s1.tm (v, _) List.mem_cons_self)
  refine ⟨a, rfl, ⟨vs, hS⟩, k (Itt K a) [(.ref a, _)] ds ρ1 D1 H1 q (fun D2 H2 e2 g => ?_) s1⟩
  obtain ⟨b, ws, eb, hS2, hA2⟩ := rd D2 H2 e2 (g _ List.mem_cons_self)
  cases eb
  have hl := hA2.length
  refine ⟨fun i hi => ⟨ws, ws[i]'(by omega), hS2, by simp [show i < ws.length by omega]⟩, ⟨ws, hS2, by omega⟩, fun i y H' hi hy => ?_⟩
  obtain ⟨rfl, hy⟩ := hy
  obtain ⟨d, h1, h2⟩ := hA2.getv (hy ws hS2)
  exact ⟨d, h1, .inl ⟨rfl, h2⟩⟩
def rangeD (lo : Int) (n : Nat) : List Dat := (List.range n).map fun (i : Nat) => Dat.int (lo + (i : Int))
theorem rangeD_len (lo : Int) (n : Nat) : (rangeD lo n).length = n := by unfold rangeD; simp
theorem rangeD_get {lo : Int} {n i : Nat} (h : i < n) : (rangeD lo n)[i]? = some (.int (lo + (i : Int))) := by unfold rangeD; simp [h]
theorem wkd_range {lo : Int} {n : Nat} : Wkd K (Itr lo n) [] (rangeD lo n) := fun D H e g => by
  rw [rangeD_len]
  refine ⟨fun i hi => hi, Nat.le_refl _, fun i x H' hi y => ?_⟩
  obtain ⟨rfl, rfl⟩ := y
  exact ⟨_, rangeD_get hi, .inl ⟨rfl, .int _⟩⟩
theorem iv_rng1 {Pi : List Dat → List Ow → Rh → Prop} (h : AvP K E tas ρ (fun os ρ1 => ∃ n : Int, os = [.d (.int n)] ∧ -(2 ^ 62) ≤ n ∧ n < 2 ^ 62 ∧ Pi (rangeD 0 n.toNat) [] ρ1) P) : IvP K E (iRng1 tas) ρ Pi P := by
  intro D H T σ R s k xo
  refine h D H T σ _ s (fun vs os ρ1 D1 H1 q1 e1 s1 => ?_) (xo.sub0 fun _ _ _ z => z)
  obtain ⟨n, rfl, h1, h2, q⟩ := q1
  match vs, e1 with
  | [v], _ =>
    have hv := s1.tm (v, _) List.mem_cons_self
    cases hv with
    | d hv =>
      cases hv
      exact ⟨n, rfl, h1, h2, k _ [] _ ρ1 D1 H1 q wkd_range s1.pop⟩
theorem iv_rng2 {Pi : List Dat → List Ow → Rh → Prop} (h : AvP K E tas ρ (fun os ρ1 => ∃ m n : Int, os = [.d (.int m), .d (.int n)] ∧ (-(2 ^ 62) ≤ m ∧ m < 2 ^ 62 ∧ -(2 ^ 62) ≤ n ∧ n < 2 ^ 62) ∧ Pi (rangeD m (n - m).toNat) [] ρ1) P) : IvP K E (iRng2 tas) ρ Pi P := by
  intro D H T σ R s k xo
  refine h D H T σ _ s (fun vs os ρ1 D1 H1 q1 e1 s1 => ?_) (xo.sub0 fun _ _ _ z => z)
  obtain ⟨m, n, rfl, hb, q⟩ := q1
  match vs, e1 with
  | [v, w], _ =>
    have hv := s1.tm (v, _) List.mem_cons_self
    have hw := s1.tm (w, _) (List.mem_cons_of_mem _ List.mem_cons_self)
    cases hv with
    | d hv =>
      cases hv
      cases hw with
      | d hw =>
        cases hw
        exact ⟨m, n, rfl, hb, k _ [] _ ρ1 D1 H1 q wkd_range s1.pop.pop⟩

/-! targets -/
theorem wipe_set {j : Nat} {x : Option V} : ∀ {vs : List Nat} {σ : St}, j ∈ vs → wipe (σ.set j x) vs = wipe σ vs := by
  have key : ∀ (vs : List Nat) (σ : St) (x : Option V), wipe (σ.set j x) vs = (if j ∈ vs then wipe σ vs else (wipe σ vs).set j x) := by
    intro vs
    induction vs with
    | nil => intro σ x; rfl
    | cons w vs ih =>
      intro σ x
      show (wipe (σ.set j x) vs).set w none = _
      rw [ih]
      by_cases h1 : j ∈ vs
      · rw [if_pos h1, if_pos (List.mem_cons_of_mem _ h1)]
        rfl
      · rw [if_neg h1]
        by_cases h2 : j = w
        · subst h2
          rw [if_pos List.mem_cons_self, List.set_set]
          rfl
        · rw [if_neg (by simp [h1, h2]), List.set_comm _ _ h2]
          rfl
  intro vs σ h
  rw [key, if_pos h]
theorem wipe_wipe (vs : List Nat) (σ : St) : wipe (wipe σ vs) vs = wipe σ vs := by
  have key : ∀ (ws : List Nat) (σ : St), (∀ w ∈ ws, w ∈ vs) → wipe (wipe σ ws) vs = wipe σ vs := by
    intro ws
    induction ws with
    | nil => intro σ _; rfl
    | cons w ws ih =>
      intro σ h
      show wipe ((wipe σ ws).set w none) vs = _
      rw [wipe_set (h w List.mem_cons_self), ih _ fun y hy => h y (List.mem_cons_of_mem _ hy)]
  exact key vs σ fun _ h => h
def GvP (K : PySem.W.Frag) [HasTabs K] (g : TG) (ws : List Nat) (ρ : Rh) (d : Dat) (P : Rh → Prop) : Prop :=
  ∀ D H T σ x (Q : St → Hp → Prop), Sd K D H ((x, .d d) :: T) σ ρ → (∀ σ' ρ' D' H', P ρ' → Sd K D' H' T σ' ρ' → (∀ vs : List Nat, (∀ i ∈ ws, i ∈ vs) → wipe σ' vs = wipe σ vs) → Q σ' H') → g x σ H Q
def GsP (K : PySem.W.Frag) [HasTabs K] (g : TGs) (ws : List Nat) (ρ : Rh) (ds : List Dat) (P : Rh → Prop) : Prop :=
  ∀ D H T σ xs (Q : St → Hp → Prop), Sd K D H T σ ρ → DenAll K D xs ds → xs.length = ds.length → (∀ σ' ρ' D' H', P ρ' → Sd K D' H' T σ' ρ' → (∀ vs : List Nat, (∀ i ∈ ws, i ∈ vs) → wipe σ' vs = wipe σ vs) → Q σ' H') → g xs σ H Q
theorem gv_name {d : Dat} {Pr : Rh → Prop} (hi : i < ρ.length) (q : Pr (ρ.set i (some (.d d)))) : GvP K (gName i) [i] ρ d Pr := fun D H T σ x Q s k =>
  k _ _ D H q (s.toSlot i (by rw [s.len]; exact hi)) fun vs h => wipe_set (h i List.mem_cons_self)
theorem gs_nil {Pr : Rh → Prop} (q : Pr ρ) : GsP K gNil [] ρ [] Pr := fun D H T σ xs Q s h e k => by
  cases h
  exact ⟨rfl, k _ _ D H q s fun _ _ => rfl⟩
theorem gs_cons {g : TG} {gs : TGs} {ws us : List Nat} {d : Dat} {ds : List Dat} {Pr : Rh → Prop} (h : GvP K g ws ρ d (fun ρ1 => GsP K gs us ρ1 ds Pr)) : GsP K (gCons g gs) (ws ++ us) ρ (d :: ds) Pr := fun D H T σ xs Q s h1 e k => by
  cases h1 with
  | cons r t =>
    rename_i v vs
    refine ⟨v, vs, rfl, ?_⟩
    -- the rest of the values as temporaries
    have sT : ∀ (vs : List V) (ds : List Dat), DenAll K D vs ds → Sd K D H (vs.zip (ds.map Ow.d) ++ T) σ ρ := by
      intro vs
      induction vs with
      | nil => intro ds q; cases q; exact s
      | cons v vs ih => intro ds q; cases q with | cons r t => exact (ih _ t).push r
    refine h D H _ σ v _ ((sT vs ds t).push r) fun σ' ρ' D' H' q s' w1 => ?_
    have e2 : vs.length = ds.length := by simpa using e
    have t' : DenAll K D' vs ds := (tm_all (fun p hp => s'.tm p (List.mem_append_left _ hp)) (by rw [e2, List.length_map])).toAll
    exact q D' H' T σ' vs Q s'.popN t' e2 fun σ2 ρ2 D2 H2 q2 s2 w2 => k σ2 ρ2 D2 H2 q2 s2 fun vs hv =>
      (w2 vs fun i hi => hv i (List.mem_append_right _ hi)).trans (w1 vs fun i hi => hv i (List.mem_append_left _ hi))
theorem gv_tup {n : Nat} {gs : TGs} {ws : List Nat} {ds : List Dat} {Pr : Rh → Prop} (e : ds.length = n) (h : GsP K gs ws ρ ds Pr) : GvP K (gTup K n gs) ws ρ (.tup ds) Pr := fun D H T σ x Q s k => by
  have hv := s.tm (x, _) List.mem_cons_self
  cases hv with
  | d hv =>
    cases hv with
    | tup g1 g2 =>
      refine ⟨_, _, rfl, st_of (s.ex _ _ g1), by rw [g2.length]; exact e, ?_⟩
      exact h D H T σ _ Q s.pop g2 g2.length k
/-- x = e, any target -/
theorem sv_asgG {g : TG} {ws : List Nat} (h : EvP K E te ρ (bndS (fun o ρ1 => ∃ d, o = .d d ∧ GvP K g ws ρ1 d (fun ρ2 => S (.nx ρ2))) S)) : SvP K E (tAsg te g) ρ S := by
  intro D H T σ En s w
  refine h D H T σ _ s (fun v x ρ1 D1 H1 q1 s1 => ?_) (.ofWd w fun _ _ _ z => z)
  obtain ⟨d, rfl, q⟩ := q1
  exact q D1 H1 T σ v _ s1 fun σ' ρ' D' H' q' s' _ => w.nx _ D' H' σ' q' s'

/-! ### for -/
def onT (k : Rh → Prop) (S : SPost) : SPost := fun out => match out with
  | .nx ρ => ∃ ρ', Wk ρ ρ' ∧ k ρ'
  | .ct ρ => ∃ ρ', Wk ρ ρ' ∧ k ρ'
  | .bk ρ => S (.nx ρ)
  | .rt o ρ => S (.rt o ρ)
  | .xc C fs ρ => S (.xc C fs ρ)
def LoopP (K : PySem.W.Frag) [HasTabs K] (E : XK) (g : TG) (ws : List Nat) (tb : TS) : List Dat → Rh → SPost → Prop
  | [], ρ, S => S (.nx ρ)
  | d :: ds, ρ, S => GvP K g ws ρ d (fun ρ1 => SvP K E tb ρ1 (onT (fun ρ2 => LoopP K E g ws tb ds ρ2 S) S))
/-- the walked thing goes back into its slot -/
def resS (os : List Ow) (S : SPost) : SPost := fun out => match out with
  | .nx ρ => S (.nx (bks os ρ))
  | .rt o ρ => S (.rt o (bks os ρ))
  | .bk ρ => S (.bk (bks os ρ))
  | .ct ρ => S (.ct (bks os ρ))
  | .xc C fs ρ => S (.xc C fs (bks os ρ))
theorem fst_snd (A : Tm) : A = (A.map Prod.fst).zip (A.map Prod.snd) := by
  induction A with
  | nil => rfl
  | cons x A ih =>
    show x :: A = (x.1, x.2) :: ((A.map Prod.fst).zip (A.map Prod.snd))
    rw [← ih]
theorem Sd.bksA {A : Tm} (h : Sd K D H (A ++ T) σ ρ) : Sd K D H T σ (DL.bks (A.map Prod.snd) ρ) := by
  rw [fst_snd A] at h
  exact Sd.bks (by simp) h
theorem Sd.bksA2 {A : Tm} {q : V × Ow} (h : Sd K D H (q :: (A ++ T)) σ ρ) : Sd K D H (q :: T) σ (DL.bks (A.map Prod.snd) ρ) := Sd.bksA (T := q :: T) (h.perm List.perm_middle.symm)
theorem sv_for {wi : TI} {g : TG} {ws : List Nat} {tb : TS} (h : IvP K E wi ρ (fun ds os ρ1 => LoopP K E g ws tb ds ρ1 (resS os S)) (bndS (fun _ _ => True) S)) : SvP K E (tFor wi g tb) ρ S := by
  intro D H T σ En s w
  refine h D H T σ _ s (fun J A ds ρ1 D1 H1 q1 wk s1 => ?_) (.ofWd w fun _ _ _ z => z)
  refine ⟨fun i m σ' H' => i + m = ds.length ∧ ∃ D' ρ', Sd K D' H' (A ++ T) σ' ρ' ∧ LoopP K E g ws tb (ds.drop i) ρ' (resS (A.map Prod.snd) S), ⟨ds.length, by omega, D1, ρ1, s1, q1⟩, ?_⟩
  rintro i m σ' H' ⟨hm, D', ρ', s', q'⟩
  obtain ⟨wg, wst, wy⟩ := wk D' H' s'.ex fun p hp => s'.tm p (List.mem_append_left _ hp)
  by_cases hi : i < ds.length
  · have e : ds.drop i = ds[i] :: ds.drop (i + 1) := List.drop_eq_getElem_cons hi
    rw [e] at q'
    refine .inr ⟨wg i hi, fun σ2 H2 => ∃ D2 ρ2, Sd K D2 H2 (A ++ T) σ2 ρ2 ∧ LoopP K E g ws tb (ds.drop (i + 1)) ρ2 (resS (A.map Prod.snd) S), fun σ2 H2 ⟨D2, ρ2, z1, z2⟩ => ⟨m - 1, by omega, by omega, D2, ρ2, z1, z2⟩, fun x H2 y => ?_⟩
    obtain ⟨d, hd, yd⟩ := wy i x H2 hi y
    rw [List.getElem?_eq_getElem hi] at hd
    have hd' : ds[i] = d := Option.some.inj hd
    rw [hd'] at q'
    obtain ⟨D2, s2⟩ := s'.yld yd
    refine q' D2 H2 (A ++ T) σ' x _ s2 fun σ3 ρ3 D3 H3 q3 s3 _ => ?_
    refine q3 D3 H3 (A ++ T) σ3 _ s3 ⟨?_, ?_, ?_, ?_, ?_⟩
    · rintro ρ4 D4 H4 σ4 ⟨ρ5, w5, q5⟩ s4
      exact ⟨D4, ρ5, s4.wk w5, q5⟩
    · intro v o ρ4 D4 H4 σ4 q4 s4
      exact w.rt v o _ D4 H4 σ4 q4 (Sd.bksA2 s4)
    · intro ρ4 D4 H4 σ4 q4 s4
      exact w.nx _ D4 H4 σ4 q4 (Sd.bksA s4)
    · rintro ρ4 D4 H4 σ4 ⟨ρ5, w5, q5⟩ s4
      exact ⟨D4, ρ5, s4.wk w5, q5⟩
    · intro C fs ρ4 D4 H4 σ4 d4 q4 s4 x4
      exact w.xc C fs _ D4 H4 σ4 d4 q4 (Sd.bksA s4) x4
  · have e : i = ds.length := by omega
    subst e
    rw [List.drop_length] at q'
    exact .inl ⟨wst, w.nx _ D' H' σ' q' (Sd.bksA s')⟩
/-- a loop by its invariant: I i ahead of turn i -/
theorem loop_inv {g : TG} {ws : List Nat} {tb : TS} {ds : List Dat} (I : Nat → Rh → Prop) (h0 : I 0 ρ)
    (hs : ∀ i d ρ', ds[i]? = some d → I i ρ' → GvP K g ws ρ' d (fun ρ1 => SvP K E tb ρ1 (onT (I (i + 1)) S))) (hd : ∀ ρ', I ds.length ρ' → S (.nx ρ')) : LoopP K E g ws tb ds ρ S := by
  have key : ∀ (es : List Dat) (i : Nat) (ρ : Rh), ds.drop i = es → i ≤ ds.length → I i ρ → LoopP K E g ws tb es ρ S := by
    intro es
    induction es with
    | nil =>
      intro i ρ e hl q
      have : i = ds.length := by
        have := congrArg List.length e
        simp at this
        omega
      subst this
      exact hd _ q
    | cons d es ih =>
      intro i ρ e hl q
      have hi : i < ds.length := by
        have := congrArg List.length e
        simp at this
        omega
      have e2 : ds.drop i = ds[i] :: ds.drop (i + 1) := List.drop_eq_getElem_cons hi
      rw [e2] at e
      obtain ⟨e3, e4⟩ := List.cons.inj e
      refine fun D H T σ x Q s k => hs i d ρ (by rw [List.getElem?_eq_getElem hi, e3]) q D H T σ x Q s fun σ' ρ' D' H' q' => k σ' ρ' D' H' ?_
      refine SvP.mono q' fun out z => ?_
      cases out with
      | nx ρ1 => obtain ⟨ρ2, w, z⟩ := z; exact ⟨ρ2, w, ih (i + 1) ρ2 e4 (by omega) z⟩
      | ct ρ1 => obtain ⟨ρ2, w, z⟩ := z; exact ⟨ρ2, w, ih (i + 1) ρ2 e4 (by omega) z⟩
      | bk ρ1 => exact z
      | rt o ρ1 => exact z
      | xc C fs ρ1 => exact z
  exact key ds 0 ρ rfl (Nat.zero_le _) h0
/-! ### while -/
def WhP (K : PySem.W.Frag) [HasTabs K] (E : XK) (c : TT) (tb : TS) : Nat → Rh → SPost → Prop
  | 0, _, _ => False
  | n + 1, ρ, S => TvP K E c ρ (bndS (fun o ρ1 => ∃ b, o = .d (.bl b) ∧ (b = true → SvP K E tb ρ1 (onT (fun ρ2 => WhP K E c tb n ρ2 S) S)) ∧ (b = false → S (.nx ρ1))) S)
theorem sv_while {c : TT} {tb : TS} (n : Nat) (h : WhP K E c tb n ρ S) : SvP K E (tWhile c tb) ρ S := by
  intro D H T σ En s w
  refine ⟨fun m σ' H' => ∃ D' ρ', Sd K D' H' T σ' ρ' ∧ WhP K E c tb m ρ' S, ⟨n, D, ρ, s, h⟩, ?_⟩
  rintro m σ' H' ⟨D', ρ', s', q'⟩
  cases m with
  | zero => exact q'.elim
  | succ m =>
    refine q' D' H' T σ' _ s' (fun b ρ1 D1 H1 q1 s1 => ?_) (.ofWd w fun _ _ _ z => z)
    obtain ⟨b', e, h1, h2⟩ := q1
    cases e
    cases b with
    | false => exact w.nx _ D1 H1 σ' (h2 rfl) s1
    | true =>
      refine ⟨fun σ2 H2 => ∃ D2 ρ2, Sd K D2 H2 T σ2 ρ2 ∧ WhP K E c tb m ρ2 S, fun σ2 H2 z => ⟨m, Nat.lt_succ_self _, z⟩, ?_⟩
      refine h1 rfl D1 H1 T σ' _ s1 ⟨?_, ?_, ?_, ?_, ?_⟩
      · rintro ρ4 D4 H4 σ4 ⟨ρ5, w5, q5⟩ s4
        exact ⟨D4, ρ5, s4.wk w5, q5⟩
      · intro v o ρ4 D4 H4 σ4 q4 s4
        exact w.rt v o _ D4 H4 σ4 q4 s4
      · intro ρ4 D4 H4 σ4 q4 s4
        exact w.nx _ D4 H4 σ4 q4 s4
      · rintro ρ4 D4 H4 σ4 ⟨ρ5, w5, q5⟩ s4
        exact ⟨D4, ρ5, s4.wk w5, q5⟩
      · intro C fs ρ4 D4 H4 σ4 d4 q4 s4 x4
        exact w.xc C fs _ D4 H4 σ4 d4 q4 s4 x4
/-! ### comprehensions -/
def wp (ρ : Rh) : List Nat → Rh
  | [] => ρ
  | w :: vs => (wp ρ vs).set w none
theorem Sd.wipe (h : Sd K D H T σ ρ) (vs : List Nat) : Sd K D H T (wipe σ vs) (wp ρ vs) := by
  induction vs with
  | nil => exact h
  | cons w vs ih =>
    have g := ih.forget w
    exact ⟨g.ex, g.tm, ih.sl.wipe1 w, g.nd, g.out, g.tb⟩
theorem Slots.unwipe : ∀ {vs : List Nat} {σ : St} {ρ : Rh}, Slots K D H (L2.wipe σ vs) (wp ρ vs) → Slots K D H σ (wp ρ vs) := by
  have one : ∀ (w : Nat) (σ : St) (ρ : Rh), Slots K D H (σ.set w Option.none) (ρ.set w Option.none) → Slots K D H σ (ρ.set w Option.none) := by
    intro w
    induction w with
    | zero =>
      intro σ ρ h
      cases σ with
      | nil => exact h
      | cons x σ =>
        cases ρ with
        | nil => have := h.length; simp at this
        | cons y ρ =>
          cases h with
          | skip r => exact .skip r
    | succ w ih =>
      intro σ ρ h
      cases σ with
      | nil => exact h
      | cons x σ =>
        cases ρ with
        | nil => have := h.length; simp at this
        | cons y ρ =>
          cases h with
          | skip r => exact .skip (ih σ ρ r)
          | cons q r => exact .cons q (ih σ ρ r)
  intro vs
  induction vs with
  | nil => intro σ ρ h; exact h
  | cons w vs ih =>
    intro σ ρ h
    have h1 : Slots K D H (L2.wipe σ vs) ((wp ρ vs).set w Option.none) := one w (L2.wipe σ vs) (wp ρ vs) h
    -- wipe of the rest, the slot w none already
    have comm : ∀ (us : List Nat) (ρ : Rh), (wp ρ us).set w Option.none = wp (ρ.set w Option.none) us := by
      intro us
      induction us with
      | nil => intro ρ; rfl
      | cons u us ihu =>
        intro ρ
        show ((wp ρ us).set u Option.none).set w Option.none = (wp (ρ.set w Option.none) us).set u Option.none
        rw [← ihu]
        by_cases e : u = w
        · subst e; rw [List.set_set]
        · rw [List.set_comm _ _ e]
    show Slots K D H σ ((wp ρ vs).set w Option.none)
    rw [comm] at h1 ⊢
    exact ih h1
theorem Sd.unwipe {vs : List Nat} (h : Sd K D H T (L2.wipe σ vs) (wp ρ vs)) : Sd K D H T σ (wp ρ vs) := ⟨h.ex, h.tm, h.sl.unwipe, h.nd, h.out, h.tb⟩
theorem wp_wp (vs : List Nat) (ρ : Rh) : wp (wp ρ vs) vs = wp ρ vs := by
  have st : ∀ (us : List Nat) (ρ : Rh) (j : Nat), j ∈ us → wp (ρ.set j Option.none) us = wp ρ us := by
    intro us
    induction us with
    | nil => intro ρ j h; simp at h
    | cons u us ih =>
      intro ρ j h
      show (wp (ρ.set j Option.none) us).set u Option.none = (wp ρ us).set u Option.none
      by_cases h2 : j ∈ us
      · rw [ih _ _ h2]
      · have e : j = u := by simpa [h2] using h
        subst e
        have comm : ∀ (us : List Nat) (ρ : Rh), (wp ρ us).set j Option.none = wp (ρ.set j Option.none) us := by
          intro us
          induction us with
          | nil => intro ρ; rfl
          | cons u us ihu =>
            intro ρ
            show ((wp ρ us).set u Option.none).set j Option.none = (wp (ρ.set j Option.none) us).set u Option.none
            rw [← ihu]
            by_cases e : u = j
            · subst e; rw [List.set_set]
            · rw [List.set_comm _ _ e]
        rw [← comm, List.set_set]
  have key : ∀ (ws : List Nat) (ρ : Rh), (∀ w ∈ ws, w ∈ vs) → wp (wp ρ ws) vs = wp ρ vs := by
    intro ws
    induction ws with
    | nil => intro ρ _; rfl
    | cons w ws ih =>
      intro ρ h
      show wp ((wp ρ ws).set w Option.none) vs = _
      rw [st _ _ _ (h w List.mem_cons_self), ih _ fun y hy => h y (List.mem_cons_of_mem _ hy)]
  exact key vs ρ fun _ h => h
/-- an item behind a new list that stands as a temporary -/
theorem Sd.app {xs : List Ow} {b : Addr} {y : V} (h : Sd K D H ((y, o) :: (.ref b, .l b xs) :: T) σ ρ) : ∃ acc, H b = some (.lst acc) ∧ acc.length = xs.length ∧ Sd K D (upd H b (.lst (acc ++ [y]))) ((.ref b, .l b (xs ++ [o])) :: T) σ ρ := by
  have hb := h.tm (.ref b, .l b xs) (List.mem_cons_of_mem _ List.mem_cons_self)
  have hy := h.tm (y, o) List.mem_cons_self
  cases hb with
  | l g1 g2 =>
    rename_i acc
    refine ⟨acc, g1, g2.length, ?_⟩
    have nd : (o.fp ++ ((b :: fps xs) ++ fpT T) ++ fpR ρ).Nodup := h.nd
    have out : ∀ a ∈ o.fp ++ ((b :: fps xs) ++ fpT T) ++ fpR ρ, D a = none := h.out
    have fb : D b = none := out b (by simp)
    have pm : ((b :: fps (xs ++ [o])) ++ fpT T ++ fpR ρ).Perm (o.fp ++ ((b :: fps xs) ++ fpT T) ++ fpR ρ) := by
      refine List.Perm.append_right _ ?_
      rw [fps_app]
      show ((b :: (fps xs ++ (o.fp ++ []))) ++ fpT T).Perm (o.fp ++ ((b :: fps xs) ++ fpT T))
      rw [List.append_nil, ← List.append_assoc o.fp]
      refine List.Perm.append_right _ ?_
      exact (List.perm_append_comm (l₁ := b :: fps xs) (l₂ := o.fp))
    have nb : ∀ a ∈ o.fp ++ (fps xs ++ fpT T) ++ fpR ρ, a ≠ b := fun a ha z => by
      have q : (b :: (o.fp ++ (fps xs ++ fpT T) ++ fpR ρ)).Nodup := by
        refine List.Perm.nodup_iff ?_ |>.mp nd
        show (o.fp ++ (b :: (fps xs ++ fpT T)) ++ fpR ρ).Perm _
        exact (List.perm_middle.append_right _)
      rw [List.nodup_cons] at q
      exact q.1 (by rw [← z]; exact ha)
    have kp : ∀ {w : V} {u : Ow}, DenO K D H w u → (∀ a ∈ u.fp, a ∈ o.fp ++ (fps xs ++ fpT T) ++ fpR ρ) → DenO K D (upd H b (.lst (acc ++ [y]))) w u := fun g m => g.keep (Ex.refl D) fun a ha u hu => by rw [upd_ne (nb a (m a ha))]; exact hu
    refine .mk' (L := o.fp ++ ((b :: fps xs) ++ fpT T) ++ fpR ρ) (fun c u hc => by rw [upd_ne (fun z => by rw [z, fb] at hc; cases hc)]; exact h.ex c u hc) (fun q hq => ?_)
      (h.sl.keep (Ex.refl D) fun a ha u hu => by rw [upd_ne (nb a (List.mem_append_right _ ha))]; exact hu) pm nd out
    rcases List.mem_cons.mp hq with z | z
    · subst z
      refine .l upd_same (DenOs.app (g2.keep (Ex.refl D) fun a ha u hu => by rw [upd_ne (nb a (by simp [ha]))]; exact hu) (.cons (kp hy fun a ha => by simp [ha]) .nil))
    · exact kp (h.tm q (List.mem_cons_of_mem _ (List.mem_cons_of_mem _ z))) fun a ha => by simp [mem_fpT z ha]
/-- a new list becomes data -/
theorem Sd.frz {b : Addr} {ds : List Dat} (h : Sd K D H ((.ref b, .l b (ds.map Ow.d)) :: T) σ ρ) : ∃ D', Sd K D' H ((.ref b, .d (.lst ds)) :: T) σ ρ := by
  have hb := h.tm (.ref b, .l b (ds.map Ow.d)) List.mem_cons_self
  cases hb with
  | l g1 g2 =>
    rename_i vs
    have fb : D b = none := h.out b (by show b ∈ ((b :: fps (ds.map Ow.d)) ++ fpT T) ++ fpR ρ; simp)
    have nb : ∀ a ∈ fpT T ++ fpR ρ, a ≠ b := fun a ha z => by
      have q : ((b :: fps (ds.map Ow.d)) ++ fpT T ++ fpR ρ).Nodup := h.nd
      rw [fps_map] at q
      have q' : (b :: (fpT T ++ fpR ρ)).Nodup := q
      rw [List.nodup_cons] at q'
      exact q'.1 (by rw [← z]; exact ha)
    have e : Ex D (upd D b (.lst vs)) := Ex.new fb
    refine ⟨upd D b (.lst vs), (h.pop.grow e (fun a u hu => ?_) (fun a _ u hu => hu) fun a ha => by rw [upd_ne (nb a ha)]; exact h.pop.out a ha).push (.lst upd_same (g2.toAll.mono e))⟩
    by_cases q : a = b
    · subst q; rw [upd_same] at hu; cases hu; exact g1
    · rw [upd_ne q] at hu; exact h.ex a u hu
def onE (k : Ow → Rh → Prop) : EPost := fun r ρ => match r with
  | .ok o => k o ρ
  | .ex _ _ => False
def LcP (K : PySem.W.Frag) [HasTabs K] (g : TG) (ws : List Nat) (tt : TT) (te : TE) (vs : List Nat) : List Dat → Rh → List Ow → (List Ow → Rh → Prop) → Prop
  | [], ρ, acc, P => P acc ρ
  | d :: ds, ρ, acc, P => GvP K g ws ρ d (fun ρ1 => TvP K E0 tt ρ1 (onE fun o ρ2 => ∃ b, o = .d (.bl b) ∧
      (b = true → EvP K E0 te ρ2 (onE fun o ρ3 => LcP K g ws tt te vs ds (wp ρ3 vs) (acc ++ [o]) P)) ∧ (b = false → LcP K g ws tt te vs ds (wp ρ2 vs) acc P)))
theorem XOk.no {k : Ow → Rh → Prop} : XOk K E T σ (onE k) := fun _ _ _ _ _ _ q => q.elim
theorem LcP.len {g : TG} {ws : List Nat} {tt : TT} {te : TE} {vs : List Nat} : True := trivial
theorem ev_lc {wi : TI} {g : TG} {ws vs : List Nat} (hws : ∀ j ∈ ws, j ∈ vs) (h : IvP K E wi ρ (fun ds os ρ1 => ds.length ≤ 100000 ∧ LcP K g ws tt te vs ds (wp ρ1 vs) [] (fun acc ρ2 => ∀ b, P (.ok (.l b acc)) (bks os (wp ρ2 vs)))) P) : EvP K E (tLc wi g tt te vs) ρ P := by
  intro D H T σ Q s k xo
  refine h D H T σ _ s (fun J A ds ρ1 D1 H1 q1 wk s1 => ?_) (xo.sub0 fun _ _ _ z => z)
  obtain ⟨hlen, q1⟩ := q1
  intro Dl hD
  have s0 : Sd K D1 (upd H1 Dl (.lst [])) ((.ref Dl, .l Dl []) :: (A ++ T)) σ ρ1 := Sd.own (vs := []) (os := []) s1 rfl hD
  refine ⟨fun i m H' => i + m = ds.length ∧ ∃ D' ρ' acc, acc.length ≤ i ∧ Sd K D' H' ((.ref Dl, .l Dl acc) :: (A ++ T)) (L2.wipe σ vs) (wp ρ' vs) ∧ LcP K g ws tt te vs (ds.drop i) (wp ρ' vs) acc (fun acc ρ2 => ∀ b, P (.ok (.l b acc)) (bks (A.map Prod.snd) (wp ρ2 vs))),
    ⟨ds.length, by omega, D1, ρ1, [], Nat.le_refl _, s0.wipe vs, q1⟩, ?_⟩
  rintro i m H' ⟨hm, D', ρ', acc, hacc, s', q'⟩
  obtain ⟨wg, wst, wy⟩ := wk D' H' s'.ex fun p hp => s'.tm p (List.mem_cons_of_mem _ (List.mem_append_left _ hp))
  by_cases hi : i < ds.length
  · have e : ds.drop i = ds[i] :: ds.drop (i + 1) := List.drop_eq_getElem_cons hi
    rw [e] at q'
    refine .inr ⟨wg i hi, fun H2 => ∃ D2 ρ2 acc, acc.length ≤ i + 1 ∧ Sd K D2 H2 ((.ref Dl, .l Dl acc) :: (A ++ T)) (L2.wipe σ vs) (wp ρ2 vs) ∧ LcP K g ws tt te vs (ds.drop (i + 1)) (wp ρ2 vs) acc (fun acc ρ2 => ∀ b, P (.ok (.l b acc)) (bks (A.map Prod.snd) (wp ρ2 vs))),
      fun H2 ⟨D2, ρ2, acc2, z0, z1, z2⟩ => ⟨m - 1, by omega, by omega, D2, ρ2, acc2, z0, z1, z2⟩, fun x H2 y => ?_⟩
    obtain ⟨d, hd, yd⟩ := wy i x H2 hi y
    rw [List.getElem?_eq_getElem hi] at hd
    have hd' : ds[i] = d := Option.some.inj hd
    rw [hd'] at q'
    obtain ⟨D2, s2⟩ := s'.yld yd
    refine q' D2 H2 _ (L2.wipe σ vs) x _ s2 fun σ3 ρ3 D3 H3 q3 s3 w3 => ?_
    have ew : L2.wipe σ3 vs = L2.wipe σ vs := (w3 vs hws).trans (wipe_wipe vs σ)
    refine ⟨ew, ?_⟩
    refine q3 D3 H3 _ σ3 _ s3 (fun b ρ4 D4 H4 q4 s4 => ?_) .no
    obtain ⟨b', eb, h1, h2⟩ := q4
    cases eb
    cases b with
    | true =>
      rw [if_pos rfl]
      refine h1 rfl D4 H4 _ σ3 _ s4 (fun y o ρ5 D5 H5 q5 s5 => ?_) .no
      obtain ⟨av, g1, g2, g3⟩ := s5.app
      refine ⟨av, g1, sz_lt (by omega), D5, ρ5, _, ?_, ?_, q5⟩
      · rw [List.length_append]; simp; omega
      · have := g3.wipe vs
        rw [ew] at this
        exact this
    | false =>
      rw [if_neg Bool.false_ne_true]
      refine ⟨D4, ρ4, acc, by omega, ?_, h2 rfl⟩
      have := s4.wipe vs
      rw [ew] at this
      exact this
  · have e : i = ds.length := by omega
    subst e
    rw [List.drop_length] at q'
    refine .inl ⟨wst, k _ _ _ D' H' (q' Dl) ?_⟩
    rw [wp_wp]
    exact Sd.bksA2 (Sd.perm (T := (V.ref Dl, Ow.l Dl acc) :: (A ++ T)) s'.unwipe (List.Perm.refl _))
end
end DL

/-! ### E. calls and defs -/
namespace DL
open PySem L2 Evl
section
variable {K : PySem.W.Frag} [HasTabs K] {E : XK} {te ta tb : TE} {tt tu : TT} {tas : TA} {ts tw : TS} {ρ : Rh} {P P' : EPost} {S : SPost} {D D' H H' : Hp} {T : Tm} {σ : St} {v : V} {o : Ow} {i : Nat} {a p : Addr}
abbrev Pr := List Ow → (Re → List Ow → Prop) → Prop
def spOf (K : PySem.W.Frag) [HasTabs K] (R : Pr) : Sp := fun vs H Q E => ∃ D T os P, vs.length = os.length ∧ Sd K D H (vs.zip os ++ T) [] [] ∧ R os P ∧
  (∀ v o os' D' H', P (.ok o) os' → vs.length = os'.length → Sd K D' H' ((v, o) :: (vs.zip os' ++ T)) [] [] → Q v H') ∧
  (∀ C fs os' D' H' d, P (.ex C fs) os' → vs.length = os'.length → Sd K D' H' (vs.zip os' ++ T) [] [] → XAt K D' H' d fs → E (.ref C) (some d) H')
/-- the known slots as temporaries -/
def toTm : St → Rh → Tm
  | some v :: σ, some o :: ρ => (v, o) :: toTm σ ρ
  | _ :: σ, _ :: ρ => toTm σ ρ
  | _, _ => []
theorem Slots.tm : ∀ {σ : St} {ρ : Rh}, Slots K D H σ ρ → (∀ p ∈ toTm σ ρ, DenO K D H p.1 p.2) ∧ fpT (toTm σ ρ) = fpR ρ
  | _, _, .nil => ⟨fun p h => by simp [toTm] at h, rfl⟩
  | _, _, .skip (v := v) (σ := σ) (ρ := ρ) r => by
    obtain ⟨h1, h2⟩ := Slots.tm r
    have e : toTm (v :: σ) (Option.none :: ρ) = toTm σ ρ := by cases v <;> rfl
    rw [e]
    exact ⟨h1, h2⟩
  | _, _, .cons (v := v) (o := o) (σ := σ) (ρ := ρ) q r => by
    obtain ⟨h1, h2⟩ := Slots.tm r
    refine ⟨fun p h => ?_, ?_⟩
    · rcases List.mem_cons.mp (show p ∈ (v, o) :: toTm σ ρ from h) with e | e
      · subst e; exact q
      · exact h1 p e
    · show o.fp ++ fpT (toTm σ ρ) = o.fp ++ fpR ρ
      rw [h2]
theorem Slots.ofTm : ∀ {σ : St} {ρ : Rh}, Slots K D H σ ρ → (∀ p ∈ toTm σ ρ, DenO K D' H' p.1 p.2) → Slots K D' H' σ ρ
  | _, _, .nil, _ => .nil
  | _, _, .skip (v := v) (σ := σ) (ρ := ρ) r, h => by
    have e : toTm (v :: σ) (Option.none :: ρ) = toTm σ ρ := by cases v <;> rfl
    rw [e] at h
    exact .skip (Slots.ofTm r h)
  | _, _, .cons q r, h => .cons (h _ List.mem_cons_self) (Slots.ofTm r fun p hp => h p (List.mem_cons_of_mem _ hp))
theorem Sd.out' (h : Sd K D H T σ ρ) : Sd K D H (T ++ toTm σ ρ) [] [] := by
  obtain ⟨h1, h2⟩ := h.sl.tm
  have e : fpT (T ++ toTm σ ρ) ++ fpR [] = fpT T ++ fpR ρ := by
    rw [fpT_app, h2]
    exact List.append_nil _
  refine ⟨h.ex, fun p hp => ?_, .nil, by rw [e]; exact h.nd, by rw [e]; exact h.out, h.tb⟩
  rcases List.mem_append.mp hp with z | z
  · exact h.tm p z
  · exact h1 p z
theorem Sd.inn (s : Slots K D H σ ρ) (h : Sd K D' H' (T ++ toTm σ ρ) [] []) : Sd K D' H' T σ ρ := by
  obtain ⟨_, h2⟩ := s.tm
  have e : fpT (T ++ toTm σ ρ) ++ fpR [] = fpT T ++ fpR ρ := by
    rw [fpT_app, h2]
    exact List.append_nil _
  have nd := h.nd
  have out := h.out
  rw [e] at nd out
  exact ⟨h.ex, fun p hp => h.tm p (List.mem_append_left _ hp), s.ofTm fun p hp => h.tm p (List.mem_append_right _ hp), nd, out, h.tb⟩
theorem zip_snoc {vs ws : List V} {os us : List Ow} (e : vs.length = os.length) : (vs ++ ws).zip (os ++ us) = vs.zip os ++ ws.zip us := List.zip_append e
theorem den_vals : ∀ (ds : List Dat), ds.all Dat.atm = true → ∀ p ∈ (ds.map Dat.val).zip (ds.map Ow.d), DenO K D H p.1 p.2
  | [], _, p, h => by simp at h
  | d :: ds, ha, p, h => by
    rw [List.all_cons, Bool.and_eq_true] at ha
    rcases List.mem_cons.mp (show p ∈ (d.val, Ow.d d) :: (ds.map Dat.val).zip (ds.map Ow.d) from h) with e | e
    · subst e; exact .d (Den.at_v ha.1)
    · exact den_vals ds ha.2 p e
/-- f(..), the defaults behind -/
theorem ev_callD {R : Pr} (dds : List Dat) (hd : dds.all Dat.atm = true) (h : AvP K E tas ρ (fun os ρ1 => R (os ++ dds.map Ow.d) (fun r os' => P r (bks os' ρ1))) P) : EvP K E (tCall (spOf K R) (dds.map Dat.val) E tas) ρ P := by
  intro D H T σ Q s k xo
  refine h D H T σ _ s (fun vs os ρ1 D1 H1 q1 e1 s1 => ?_) (xo.sub0 fun _ _ _ z => z)
  have el : (vs ++ dds.map Dat.val).length = (os ++ dds.map Ow.d).length := by simp [e1]
  have st : Sd K D1 H1 ((vs ++ dds.map Dat.val).zip (os ++ dds.map Ow.d) ++ (T ++ toTm σ ρ1)) [] [] := by
    have g := s1.out'
    rw [zip_snoc e1]
    have fz : fpT ((dds.map Dat.val).zip (dds.map Ow.d)) = [] := by rw [fpT_zip (by simp), fps_map]
    have e : fpT ((vs.zip os ++ (dds.map Dat.val).zip (dds.map Ow.d)) ++ (T ++ toTm σ ρ1)) ++ fpR [] = fpT ((vs.zip os ++ T) ++ toTm σ ρ1) ++ fpR [] := by
      rw [fpT_app, fpT_app, fz, List.append_nil, fpT_app, fpT_app, fpT_app]
      simp only [List.append_assoc]
    refine ⟨g.ex, fun p hp => ?_, .nil, by rw [e]; exact g.nd, by rw [e]; exact g.out, g.tb⟩
    rcases List.mem_append.mp hp with z | z
    · rcases List.mem_append.mp z with z | z
      · exact g.tm p (List.mem_append_left _ (List.mem_append_left _ z))
      · exact den_vals dds hd p z
    · rcases List.mem_append.mp z with z | z
      · exact g.tm p (List.mem_append_left _ (List.mem_append_right _ z))
      · exact g.tm p (List.mem_append_right _ z)
  refine ⟨D1, T ++ toTm σ ρ1, _, _, el, st, q1, fun v o os' D' H' q e' s' => ?_, fun C fs os' D' H' d q e' s' x => ?_⟩
  · have s2 : Sd K D' H' (((v, o) :: ((vs ++ dds.map Dat.val).zip os' ++ T)) ++ toTm σ ρ1) [] [] := by
      rw [List.cons_append, List.append_assoc]
      exact s'
    exact k v o _ D' H' q (Sd.bks2 e' (s2.inn s1.sl))
  · have s2 : Sd K D' H' (((vs ++ dds.map Dat.val).zip os' ++ T) ++ toTm σ ρ1) [] [] := by
      rw [List.append_assoc]
      exact s'
    exact xo C fs _ D' H' d q (Sd.bks e' (s2.inn s1.sl)) x
theorem ev_call {R : Pr} (h : AvP K E tas ρ (fun os ρ1 => R os (fun r os' => P r (bks os' ρ1))) P) : EvP K E (tCall (spOf K R) [] E tas) ρ P := by
  refine ev_callD [] rfl ?_
  intro D H T σ Q s k xo
  exact h D H T σ Q s (fun vs os ρ' D' H' q => k vs os ρ' D' H' (by show R (os ++ ([] : List Dat).map Ow.d) _; rw [show os ++ ([] : List Dat).map Ow.d = os from List.append_nil _]; exact q)) xo
/-! instances -/
def putD (f : Str) (x : Dat) : List (Str × Dat) → List (Str × Dat)
  | [] => [(f, x)]
  | (g, y) :: r => if g = f then (g, x) :: r else (g, y) :: putD f x r
theorem DenF.put {f : Str} {x : Dat} (q : Den K D v x) : ∀ {vs : List (Str × V)} {ds : List (Str × Dat)}, DenF K D vs ds → DenF K D (putF f v vs) (putD f x ds)
  | _, _, .nil => .cons q .nil
  | _, _, .cons (f := g) r t => by
    show DenF K D (if g = f then _ else _) (if g = f then _ else _)
    by_cases h : g = f
    · rw [if_pos h, if_pos h]; exact .cons q t
    · rw [if_neg h, if_neg h]; exact .cons r (DenF.put q t)
theorem DenF.len : ∀ {vs : List (Str × V)} {ds : List (Str × Dat)}, DenF K D vs ds → vs.length = ds.length
  | _, _, .nil => rfl
  | _, _, .cons _ t => by rw [List.length_cons, List.length_cons, DenF.len t]
/-- a temporary's owned object becomes data -/
theorem Sd.frzO {b C : Addr} {gs : List (Str × Dat)} {w : V} (h : Sd K D H ((w, .o b C gs) :: T) σ ρ) : ∃ D', Sd K D' H ((w, .d (.obj C gs)) :: T) σ ρ := by
  have hb := h.tm (w, .o b C gs) List.mem_cons_self
  cases hb with
  | o g1 g2 =>
    rename_i dx fs
    have fb : D b = none := h.out b (by show b ∈ (b :: ([] ++ fpT T)) ++ fpR ρ; simp)
    have nb : ∀ a ∈ fpT T ++ fpR ρ, a ≠ b := fun a ha z => by
      have q' : (b :: (fpT T ++ fpR ρ)).Nodup := h.nd
      rw [List.nodup_cons] at q'
      exact q'.1 (by rw [← z]; exact ha)
    have e : Ex D (upd D b (.ins C dx fs)) := Ex.new fb
    refine ⟨upd D b (.ins C dx fs), (h.pop.grow e (fun a u hu => ?_) (fun a _ u hu => hu) fun a ha => by rw [upd_ne (nb a ha)]; exact h.pop.out a ha).push (.obj upd_same (g2.mono e))⟩
    by_cases q : a = b
    · subst q; rw [upd_same] at hu; cases hu; exact g1
    · rw [upd_ne q] at hu; exact h.ex a u hu
/-- C(..): made, its __init__ called; it becomes data (mkd) or stays owned (mko) -/
theorem ev_makeG {C : Addr} {R : Pr} (h : AvP K E tas ρ (fun os ρ1 => ∀ x, R (.o x C [] :: os) (fun r os' => match r with
    | .ok o => o = .d .non ∧ ∃ fs os2, os' = .o x C fs :: os2 ∧ (P (.ok (.o x C fs)) (bks os2 ρ1) ∨ P (.ok (.d (.obj C fs))) (bks os2 ρ1))
    | .ex C' fs => ∃ o2 os2, os' = o2 :: os2 ∧ P (.ex C' fs) (bks os2 ρ1))) P) : EvP K E (tMake C (spOf K R) [] E tas) ρ P := by
  intro D H T σ Q s k xo
  refine h D H T σ _ s (fun vs os ρ1 D1 H1 q1 e1 s1 => ?_) (xo.sub0 fun _ _ _ z => z)
  intro x dx nx ndx ne
  have s2 := (s1.newO ndx (.own x)).out'
  have nx2 : upd H1 dx (.own x) x = none := by rw [upd_ne (fun z => ne z.symm)]; exact nx
  have s3 : Sd K D1 (upd (upd H1 dx (.own x)) x (.ins C dx [])) ((.ref x, .o x C []) :: ((vs.zip os ++ T) ++ toTm σ ρ1)) [] [] := by
    have g := s2.newO nx2 (.ins C dx [])
    refine ⟨g.ex, fun p hp => ?_, .nil, ?_, fun b hb => ?_, g.tb⟩
    · rcases List.mem_cons.mp hp with z | z
      · subst z; exact .o upd_same .nil
      · exact g.tm p z
    · show (x :: ([] ++ fpT ((vs.zip os ++ T) ++ toTm σ ρ1) ++ fpR [])).Nodup
      rw [List.nil_append, List.nodup_cons]
      exact ⟨fun z => s2.nep nx2 x z rfl, s2.nd⟩
    · rcases List.mem_cons.mp (show b ∈ x :: (fpT ((vs.zip os ++ T) ++ toTm σ ρ1) ++ fpR []) from hb) with z | z
      · rw [z]; exact s1.dnone nx
      · exact s2.out b z
  have e0 : (V.ref x :: (vs ++ [])).length = (Ow.o x C [] :: os).length := by simp [e1]
  refine ⟨D1, T ++ toTm σ ρ1, .o x C [] :: os, _, e0, ?_, q1 x, fun v o os' D' H' q e' s' => ?_, fun C2 fs os' D' H' d q e' s' xx => ?_⟩
  · rw [List.append_nil]
    show Sd K D1 _ ((.ref x, .o x C []) :: (vs.zip os ++ (T ++ toTm σ ρ1))) [] []
    rw [← List.append_assoc]
    exact s3
  · obtain ⟨rfl, fs, os2, rfl, q⟩ := q
    have e2 : vs.length = os2.length := by simpa using e'
    have hv := s'.tm (v, _) List.mem_cons_self
    refine ⟨by cases hv with | d hv => cases hv; rfl, ?_⟩
    rw [List.append_nil] at s'
    have s4 : Sd K D' H' (((.ref x, .o x C fs) :: (vs.zip os2 ++ T)) ++ toTm σ ρ1) [] [] := by
      rw [List.cons_append, List.append_assoc]
      exact s'.pop
    have s5 : Sd K D' H' ((.ref x, .o x C fs) :: T) σ (DL.bks os2 ρ1) := Sd.bks2 e2 (s4.inn s1.sl)
    rcases q with q | q
    · exact k _ _ _ D' H' q s5
    · obtain ⟨D2, s6⟩ := s5.frzO
      exact k _ _ _ D2 H' q s6
  · obtain ⟨o2, os2, rfl, q⟩ := q
    have e2 : vs.length = os2.length := by simpa using e'
    rw [List.append_nil] at s'
    have s4 : Sd K D' H' (((.ref x, o2) :: (vs.zip os2 ++ T)) ++ toTm σ ρ1) [] [] := by
      rw [List.cons_append, List.append_assoc]
      exact s'
    exact xo C2 fs _ D' H' d q (Sd.bks2 e2 (s4.inn s1.sl)).pop xx
theorem ev_make {C : Addr} {R : Pr} (h : AvP K E tas ρ (fun os ρ1 => ∀ x, R (.o x C [] :: os) (fun r os' => match r with
    | .ok o => o = .d .non ∧ ∃ fs os2, os' = .o x C fs :: os2 ∧ P (.ok (.d (.obj C fs))) (bks os2 ρ1)
    | .ex C' fs => ∃ o2 os2, os' = o2 :: os2 ∧ P (.ex C' fs) (bks os2 ρ1))) P) (mono : ∀ os (A B : Re → List Ow → Prop), (∀ r os, A r os → B r os) → R os A → R os B) : EvP K E (tMake C (spOf K R) [] E tas) ρ P := by
  refine ev_makeG ?_
  intro D H T σ Q s k xo
  refine h D H T σ Q s (fun vs os ρ' D' H' q => k vs os ρ' D' H' fun x => mono _ _ _ (fun r os' z => ?_) (q x)) xo
  cases r with
  | ok o => obtain ⟨z1, fs, os2, z2, z3⟩ := z; exact ⟨z1, fs, os2, z2, .inr z3⟩
  | ex C fs => exact z
theorem ev_fld {f : Str} (h : EvP K E ta ρ (bnd (fun o ρ1 => o.okR = true ∧ ∃ C gs d, o.dat = .obj C gs ∧ Cls K C ∧ NoAttr K C f ∧ gs.lookup f = some d ∧ P (.ok (.d d)) (bk o ρ1)) P)) : EvP K E (tFld K ta f) ρ P := by
  intro D H T σ Q s k xo
  refine h D H T σ _ s (fun v o ρ1 D1 H1 q1 s1 => ?_) (xo.sub0 fun _ _ _ z => z)
  obtain ⟨ho, C, gs, d, e, hC, hn, hl, q⟩ := q1
  have key : ∃ a dx fs, v = .ref a ∧ H1 a = some (.ins C dx fs) ∧ DenF K D1 fs gs := by
    have hv := s1.tm (v, o) List.mem_cons_self
    cases hv with
    | d hv =>
      have e' : _ = Dat.obj C gs := e
      subst e'
      cases hv with
      | obj g1 g2 => exact ⟨_, _, _, rfl, s1.ex _ _ g1, g2⟩
    | m a => cases ho
    | l g1 g2 => cases e
    | t g1 g2 => cases ho
    | z g1 g2 => cases ho
    | o g1 g2 =>
      cases e
      exact ⟨_, _, _, rfl, g1, g2⟩
  obtain ⟨a, dx, fs, rfl, ha, hf⟩ := key
  obtain ⟨w, hw, dw⟩ := hf.look hl
  exact ⟨a, C, dx, fs, w, rfl, ha, hC, hn, hw, k _ _ _ D1 H1 q (s1.bk.push dw)⟩
theorem sv_fld {f : Str} {tv : TE} (h : EvP K E tv ρ (bndS (fun o ρ1 => ∃ d a C gs, o = .d d ∧ ρ1[i]? = some (some (.o a C gs)) ∧ Cls K C ∧ NoAttr K C f ∧ gs.length < 1000 ∧ S (.nx (ρ1.set i (some (.o a C (putD f d gs)))))) S)) : SvP K E (sFld K (tVar i) tv f) ρ S := by
  intro D H T σ En s w
  refine h D H T σ _ s (fun v o ρ1 D1 H1 q1 s1 => ?_) (.ofWd w fun _ _ _ z => z)
  obtain ⟨d, a, C, gs, rfl, hi, hC, hn, hl, q⟩ := q1
  have hv := s1.tm (v, _) List.mem_cons_self
  cases hv with
  | d hv =>
    obtain ⟨hs, dx, fs, ha, hf⟩ := s1.geto hi
    refine ⟨.ref a, hs, a, C, dx, fs, rfl, ha, hC, hn, by rw [hf.len]; exact hl, w.nx _ D1 _ _ q ?_⟩
    have s2 := s1.pop
    have hlen : i < ρ1.length := (List.getElem?_eq_some_iff.mp hi).1
    have fa : D1 a = none := s2.out a (List.mem_append_right _ ((fpR_none hi).mem_iff.mpr (List.mem_append_left _ List.mem_cons_self)))
    have pm : (fpT T ++ fpR (ρ1.set i (some (.o a C (putD f d gs))))).Perm (fpT T ++ fpR ρ1) := by
      refine List.Perm.append_left _ ((fpR_set _ hlen).trans ?_)
      exact (fpR_none hi).symm
    have nT : ∀ b ∈ fpT T ++ fpR (ρ1.set i none), b ≠ a := fun b hb z => by
      have q : (fpT T ++ (a :: fpR (ρ1.set i none))).Nodup := ((fpR_none hi).append_left _).nodup_iff.mp s2.nd
      have q2 : (a :: (fpT T ++ fpR (ρ1.set i none))).Nodup := List.perm_middle.nodup_iff.mp q
      rw [List.nodup_cons] at q2
      exact q2.1 (by rw [← z]; exact hb)
    have sl0 : Slots K D1 (upd H1 a (.ins C dx (putF f v fs))) σ (ρ1.set i none) := (s2.sl.none i).keep (Ex.refl D1) fun b hb u hu => by rw [upd_ne (nT b (List.mem_append_right _ hb))]; exact hu
    have sl1 := sl0.put hs (o := .o a C (putD f d gs)) (.o upd_same (hf.put hv))
    rw [List.set_set] at sl1
    exact .mk' (fun b u hb => by rw [upd_ne (fun z => by rw [z, fa] at hb; cases hb)]; exact s2.ex b u hb)
      (fun p hp => (s2.tm p hp).keep (Ex.refl D1) fun b hb u hu => by rw [upd_ne (nT b (List.mem_append_left _ (mem_fpT hp hb)))]; exact hu) sl1 pm s2.nd s2.out
/-! defs -/
def skel : Ow → Ow
  | .d x => .d x
  | .m a => .m a
  | .l a _ => .m a
  | .t a _ => .m a
  | .z a _ _ _ => .m a
  | .o a _ _ => .m a
theorem DenO.skel (h : DenO K D H v o) : DenO K D H v (DL.skel o) := by
  cases h with
  | d q => exact .d q
  | m a => exact .m a
  | l _ _ => exact .m _
  | t _ _ => exact .m _
  | z _ _ => exact .m _
  | o _ _ => exact .m _
theorem skel_fp : (skel o).fp = [] := by cases o <;> rfl
theorem skels_fp : ∀ os : List Ow, fps (os.map skel) = []
  | [] => rfl
  | o :: os => by
    show (skel o).fp ++ fps (os.map skel) = []
    rw [skel_fp, skels_fp os]
    rfl
inductive Pms : List Ow → Rh → List Ow → Prop
  | nil {ρ : Rh} : Pms [] ρ []
  | dat {d : Dat} {x : Option Ow} {os : List Ow} {ρ : Rh} {us : List Ow} : Pms os ρ us → Pms (.d d :: os) (x :: ρ) (.d d :: us)
  | own {o o' : Ow} {a : Addr} {os : List Ow} {ρ : Rh} {us : List Ow} : o.root = some a → o'.root = some a → Pms os ρ us → Pms (o :: os) (some o' :: ρ) (o' :: us)
theorem Pms.len {os us : List Ow} {ρ : Rh} (h : Pms os ρ us) : os.length = us.length := by
  induction h with
  | nil => rfl
  | dat _ ih => simp [ih]
  | own _ _ _ ih => simp [ih]
theorem Pms.sub {os us : List Ow} {ρ : Rh} (h : Pms os ρ us) : (fps us).Sublist (fpR ρ) := by
  induction h with
  | nil => exact List.nil_sublist _
  | dat _ ih => exact ih.trans (List.sublist_append_right _ _)
  | own _ _ _ ih => exact ih.append_left _
theorem Sd.exit {os us : List Ow} {vs : List V} {A : Tm} (h : Sd K D H (A ++ (vs.zip (os.map DL.skel) ++ T)) σ ρ) (m : Pms os ρ us) (e : vs.length = os.length) : Sd K D H (A ++ (vs.zip us ++ T)) [] [] := by
  have ev : vs.length = us.length := e.trans m.len
  have hd : ∀ p ∈ vs.zip us, DenO K D H p.1 p.2 := by
    have key : ∀ {os us : List Ow} {ρ : Rh} {vs : List V} {σ : St}, Pms os ρ us → vs.length = os.length → Slots K D H σ ρ → (∀ p ∈ vs.zip (os.map DL.skel), DenO K D H p.1 p.2) → ∀ p ∈ vs.zip us, DenO K D H p.1 p.2 := by
      intro os us ρ vs σ m
      induction m generalizing vs σ with
      | nil => intro e _ _ p hp; simp at hp
      | dat m ih =>
        intro e s k p hp
        match vs, e with
        | v :: vs, e =>
          rcases List.mem_cons.mp (show p ∈ (v, _) :: vs.zip _ from hp) with z | z
          · subst z; exact k _ List.mem_cons_self
          · cases s with
            | skip s => exact ih (by simpa using e) s (fun p hp => k p (List.mem_cons_of_mem _ hp)) p z
            | cons _ s => exact ih (by simpa using e) s (fun p hp => k p (List.mem_cons_of_mem _ hp)) p z
      | own r r' m ih =>
        rename_i o1 o2 a1 _ _ _
        intro e s k p hp
        match vs, e with
        | v :: vs, e =>
          cases s with
          | cons q s =>
            rcases List.mem_cons.mp (show p ∈ (v, _) :: vs.zip _ from hp) with z | z
            · subst z
              have k0 := k (v, DL.skel o1) List.mem_cons_self
              have hv : v = .ref a1 := by
                cases o1 <;> simp [Ow.root] at r <;> subst r <;> cases k0 <;> rfl
              have hq := root_ref r' q
              subst hq
              subst hv
              exact q
            · exact ih (by simpa using e) s (fun p hp => k p (List.mem_cons_of_mem _ hp)) p z
    exact key m e h.sl fun p hp => h.tm p (List.mem_append_right _ (List.mem_append_left _ hp))
  have ez : fpT (vs.zip (os.map DL.skel)) = [] := by rw [fpT_zip (by simp [e]), skels_fp]
  have sb : (fpT (A ++ (vs.zip us ++ T)) ++ fpR []).Perm (fpT A ++ fpT T ++ fps us) := by
    rw [fpT_app, fpT_app, fpT_zip ev]
    show (fpT A ++ (fps us ++ fpT T) ++ []).Perm _
    rw [List.append_nil, List.append_assoc]
    exact List.perm_append_comm.append_left _
  have nd := h.nd
  have out := h.out
  rw [fpT_app, fpT_app, ez, List.nil_append] at nd out
  refine .mk' h.ex (fun p hp => ?_) .nil sb ((m.sub.append_left _).nodup nd) fun b hb => out b ((m.sub.append_left _).subset hb)
  rcases List.mem_append.mp hp with z | z
  · exact h.tm p (List.mem_append_left _ z)
  · rcases List.mem_append.mp z with z | z
    · exact hd p z
    · exact h.tm p (List.mem_append_right _ (List.mem_append_right _ z))
def retS (os : List Ow) (Pp : Re → List Ow → Prop) : SPost := fun out => match out with
  | .rt o ρ => ∃ us, Pms os ρ us ∧ Pp (.ok o) us
  | .nx ρ => ∃ us, Pms os ρ us ∧ Pp (.ok (.d .non)) us
  | .xc C fs ρ => ∃ us, Pms os ρ us ∧ Pp (.ex C fs) us
  | _ => False
theorem Sd.start {os : List Ow} {vs : List V} (n : Nat) (h : Sd K D H (vs.zip os ++ T) [] []) (e : vs.length = os.length) : Sd K D H (vs.zip (os.map DL.skel) ++ T) (vs.map some ++ List.replicate n Option.none) (os.map some ++ List.replicate n Option.none) := by
  have sl : ∀ (vs : List V) (os : List Ow), vs.length = os.length → (∀ p ∈ vs.zip os, DenO K D H p.1 p.2) → Slots K D H (vs.map some ++ List.replicate n Option.none) (os.map some ++ List.replicate n Option.none) := by
    intro vs
    induction vs with
    | nil =>
      intro os e _
      cases os with
      | cons o os => simp at e
      | nil =>
        show Slots K D H (List.replicate n Option.none) (List.replicate n Option.none)
        induction n with
        | zero => exact .nil
        | succ n ih => exact .skip ih
    | cons v vs ih =>
      intro os e k
      cases os with
      | nil => simp at e
      | cons o os => exact .cons (k (v, o) List.mem_cons_self) (ih os (by simpa using e) fun p hp => k p (List.mem_cons_of_mem _ hp))
  have ez : fpT (vs.zip (os.map DL.skel)) = [] := by rw [fpT_zip (by simp [e]), skels_fp]
  have fr : ∀ (os : List Ow), fpR (os.map some ++ List.replicate n Option.none) = fps os := by
    intro os
    induction os with
    | nil =>
      show fpR (List.replicate n Option.none) = []
      clear sl
      induction n with
      | zero => rfl
      | succ n ih => exact ih
    | cons o os ih =>
      show o.fp ++ fpR (os.map some ++ _) = o.fp ++ fps os
      rw [ih]
  have pm : (fpT (vs.zip (os.map DL.skel) ++ T) ++ fpR (os.map some ++ List.replicate n Option.none)).Perm (fpT (vs.zip os ++ T) ++ fpR []) := by
    rw [fpT_app, ez, fr, fpT_app, fpT_zip e]
    show (fpT T ++ fps os).Perm (fps os ++ fpT T ++ [])
    rw [List.append_nil]
    exact List.perm_append_comm
  refine .mk' h.ex (fun p hp => ?_) (sl vs os e fun p hp => h.tm p (List.mem_append_left _ hp)) pm h.nd h.out
  rcases List.mem_append.mp hp with z | z
  · have key : ∀ (vs : List V) (os : List Ow), (∀ p ∈ vs.zip os, DenO K D H p.1 p.2) → ∀ p ∈ vs.zip (os.map DL.skel), DenO K D H p.1 p.2 := by
      intro vs
      induction vs with
      | nil => intro os _ p hp; simp at hp
      | cons v vs ih =>
        intro os k p hp
        cases os with
        | nil => simp at hp
        | cons o os =>
          rcases List.mem_cons.mp (show p ∈ (v, DL.skel o) :: vs.zip (os.map DL.skel) from hp) with z | z
          · subst z; exact (k (v, o) List.mem_cons_self).skel
          · exact ih os (fun p hp => k p (List.mem_cons_of_mem _ hp)) p z
    exact key vs os (fun p hp => h.tm p (List.mem_append_left _ hp)) p z
  · exact h.tm p (List.mem_append_right _ z)
end
section
variable {P : Program} {w : World} {K : PySem.W.Frag} [HasTabs K] {mg : Str → Option Value} {base : Heap}
/-- a body, run from its arguments -/
theorem run_body {E : XK} {t : TS} {R : Pr} {N ps : List Str} {vs : List V} {H : Hp} {Q : VK} (hN : vs.length ≤ N.length) (h : spOf K R vs H Q E) (body : ∀ os Pp, R os Pp → SvP K E t (os.map some ++ List.replicate (N.length - os.length) none) (retS os Pp)) :
    t { nx := fun _ H' => Q .non H', rt := Q } (L2.start N vs) H := by
  obtain ⟨D, T, os, Pp, e, s, r, k, kx⟩ := h
  have s1 := Sd.start (N.length - vs.length) s e
  rw [show L2.start N vs = vs.map some ++ List.replicate (N.length - vs.length) none from rfl]
  have b := body os Pp r
  rw [← e] at b
  refine b D H _ _ _ s1 ⟨?_, ?_, ?_, ?_, ?_⟩
  · rintro ρ' D' H' σ' ⟨us, m, q⟩ s'
    exact k _ _ us D' H' q (e.trans m.len) (Sd.exit (A := [(V.non, Ow.d .non)]) (s'.push .non) m e)
  · rintro v o ρ' D' H' σ' ⟨us, m, q⟩ s'
    exact k _ _ us D' H' q (e.trans m.len) (Sd.exit (A := [(v, o)]) s' m e)
  · intro ρ' D' H' σ' q s'
    exact q.elim
  · intro ρ' D' H' σ' q s'
    exact q.elim
  · rintro C fs ρ' D' H' σ' d ⟨us, m, q⟩ s' x
    exact kx C fs us D' H' d q (e.trans m.len) (Sd.exit (A := []) s' m e) x
theorem def_ok {x qual : Str} {st : Stmt} {f : Addr} {fd : FuncData} {N ps : List Str} {k : Nat} {R : Pr} (F : Fun K x qual st f fd) (S : FnScope N ps (defScope st)) (hl : ps.length ≤ N.length) (len : ∀ os Pp, R os Pp → os.length = ps.length)
    (hbody : ∀ (cdv : Value) (A : Around) (outer : List Env) (s : Shared) (H : Hp) (E : XK), Room k (A.deeper (PyProof.Rows.envOfC qual (defScope st) s.heap.objs.size f cdv)) →
      ∃ t, PSs (cxOf CX0 P w K mg base N qual (defScope st) f cdv A outer s H E).nox (defBody st) t ∧ ∀ os Pp, R os Pp → SvP K E0 t (os.map some ++ List.replicate (N.length - os.length) none) (retS os Pp))
    (noex : ∀ os Pp, R os Pp → R os (fun r us => (match r with | .ok _ => True | .ex _ _ => False) ∧ Pp r us)) : FnOk P w K mg base CX0 (k + 1) f fd ps (spOf K R) := by
  refine F.ok S (fun vs H Q E h => ?_) (fun cdv A outer s H vs Q E hr h => ?_)
  · obtain ⟨D, T, os, Pp, e, _, r, _⟩ := h
    exact e.trans (len os Pp r)
  · obtain ⟨t, ht, hb⟩ := hbody cdv A outer s H E hr
    refine ⟨t, ht, ?_⟩
    obtain ⟨D, T, os, Pp, e, s1, r, k1, k2⟩ := h
    refine run_body (K := K) (E := E0) (R := R) (ps := ps) (by rw [e, len os Pp r]; exact hl) ⟨D, T, os, _, e, s1, noex os Pp r, fun v o us D' H' q => k1 v o us D' H' q.2, fun C fs us D' H' d q => q.1.elim⟩ hb
theorem def_okX {x qual : Str} {st : Stmt} {f : Addr} {fd : FuncData} {N ps : List Str} {k : Nat} {R : Pr} (F : Fun K x qual st f fd) (S : FnScope N ps (defScope st)) (hl : ps.length ≤ N.length) (len : ∀ os Pp, R os Pp → os.length = ps.length)
    (hbody : ∀ (cdv : Value) (A : Around) (outer : List Env) (s : Shared) (H : Hp) (E : XK), Room k (A.deeper (PyProof.Rows.envOfC qual (defScope st) s.heap.objs.size f cdv)) →
      ∃ t, PSs (cxOf (L2.CX P w) P w K mg base N qual (defScope st) f cdv A outer s H E) (defBody st) t ∧ ∀ os Pp, R os Pp → SvP K E t (os.map some ++ List.replicate (N.length - os.length) none) (retS os Pp)) :
    FnOk P w K mg base (L2.CX P w) (k + 1) f fd ps (spOf K R) := by
  refine F.okX S (fun vs H Q E h => ?_) (fun cdv A outer s H vs Q E hr h => ?_)
  · obtain ⟨D, T, os, Pp, e, _, r, _⟩ := h
    exact e.trans (len os Pp r)
  · obtain ⟨t, ht, hb⟩ := hbody cdv A outer s H E hr
    refine ⟨t, ht, ?_⟩
    have hl2 : vs.length ≤ N.length := by
      obtain ⟨D, T, os, Pp, e, _, r, _⟩ := h
      rw [e, len os Pp r]
      exact hl
    exact run_body (ps := ps) hl2 h hb
end
end DL

/-! ### W. enumerate and zip over lists and tuples -/
namespace DL
open PySem L2 Evl PySem.Spec PyProof.Rows
def SqB (t : Bool) (K : PySem.W.Frag) (H : Hp) (a : Addr) (xs : List V) : Prop := match t with
  | true => SqT K H a xs
  | false => SqL K H a xs
def SrcB (t : Bool) (h : Heap) (a : Addr) (its : Array Value) : Prop := match t with
  | true => h.IsTuple a its
  | false => h.IsList a its
def ItrB (t : Bool) (h : Heap) (it a : Addr) (i : Nat) : Prop := match t with
  | true => h.IsTupleIter it a i
  | false => h.IsListIter it a i
def iobj (t : Bool) (a : Addr) : Obj := match t with
  | true => { cls := .type "tuple_iterator", data := .fields #[.ref a, .int 0 0] }
  | false => { cls := .type "list_iterator", data := .fields #[.ref a, .int 0 0] }
theorem begB (t : Bool) (a : Addr) (its : Array Value) : Begins (.ref a) (iobj t a) (fun h => SrcB t h a its) := by
  cases t
  · exact begins_list a its
  · exact begins_tuple a its
theorem drawsB {prog : Program} {w : World} {A : Around} (t : Bool) (hh : A.handled = none) (it a : Addr) (hne : a ≠ it) (its : Array Value) :
    Draws prog w A it [it, a] its.size (fun i v => its[i]? = some v) (fun i h => ItrB t h it a i ∧ SrcB t h a its) := by
  cases t
  · exact Draws.list hh it a hne its
  · exact Draws.tuple hh it a hne its
theorem itrB_new {t : Bool} {h : Heap} {it a : Addr} (e : h.get? it = some (iobj t a)) : ItrB t h it a 0 := by
  cases t
  · exact ⟨_, e, rfl, rfl⟩
  · exact ⟨_, e, rfl, rfl⟩
theorem itrB_obj {t : Bool} {h : Heap} {it a : Addr} {i : Nat} (q : ItrB t h it a i) : ∃ o, h.get? it = some o ∧ ∀ v, o.data ≠ .cell v := by
  cases t
  · obtain ⟨o, e, c, d⟩ := q; exact ⟨o, e, fun v z => by rw [d] at z; cases z⟩
  · obtain ⟨o, e, c, d⟩ := q; exact ⟨o, e, fun v z => by rw [d] at z; cases z⟩
theorem itrB_at {t : Bool} {h h' : Heap} {it a : Addr} {i : Nat} (q : ItrB t h it a i) (k : ∀ o, h.get? it = some o → h'.get? it = some o) : ItrB t h' it a i := by
  cases t
  · obtain ⟨o, e, c, d⟩ := q; exact ⟨o, k o e, c, d⟩
  · obtain ⟨o, e, c, d⟩ := q; exact ⟨o, k o e, c, d⟩
theorem srcB_keep {t : Bool} {h h' : Heap} {a : Addr} {its : Array Value} (q : SrcB t h a its) (k : ∀ o, h.get? a = some o → h'.get? a = some o) : SrcB t h' a its := by
  cases t
  · obtain ⟨o, e, c⟩ := q; exact ⟨o, k o e, c⟩
  · obtain ⟨o, e, c⟩ := q; exact ⟨o, k o e, c⟩
theorem srcB_lt {t : Bool} {h : Heap} {a : Addr} {its : Array Value} (q : SrcB t h a its) : a < h.objs.size := by
  cases t
  · obtain ⟨o, e, c⟩ := q; exact Heap.lt_size e
  · obtain ⟨o, e, c⟩ := q; exact Heap.lt_size e
section
variable {X : Cx} {pins : List (Addr × Obj)} {σ : L2.St} {H : Hp} {s : Shared}
theorem inv_seqB {t : Bool} {a : Addr} {xs : List V} (I : Inv X pins σ H s) (q : SqB t X.K H a xs) : ∃ its : List Value, Vals xs its ∧ SrcB t s.heap a its.toArray := by
  cases t
  · obtain ⟨its, r, p, _⟩ := I.list q; exact ⟨its, r, p.isList⟩
  · obtain ⟨its, r, p, _⟩ := I.tuple q; exact ⟨its, r, p⟩
end
theorem inv_injB {X : Cx} {pins : List (Addr × Obj)} {σ : L2.St} {H : Hp} {s : Shared} {t : Bool} {a : Addr} {xs ys : List V} (I : Inv X pins σ H s) (h : SqB t X.K H a xs) (h' : SqB t X.K H a ys) : xs = ys := by
  cases t
  · exact I.list_inj h h'
  · exact I.tuple_inj h h'
/-- each item in a new pair with its number -/
def ItE (t : Bool) (K : PySem.W.Frag) (a : Addr) : It :=
  ⟨fun i H => ∃ xs : List V, i < xs.length ∧ SqB t K H a xs, fun i H v H' => ∃ T x, v = .ref T ∧ H T = none ∧ H' = upd H T (.tup [.int (i : Nat), x]) ∧ ∀ xs, SqB t K H a xs → xs[i]? = some x, fun i H => ∃ xs : List V, i = xs.length ∧ SqB t K H a xs⟩
theorem turn_enumB {P : Program} {w : World} {K : PySem.W.Frag} {elts : List Expr} {kk : Nat} {tpos : Pos} (t : Bool) (a e it : Addr) :
    Turn P w K (.Tuple elts kk tpos) (ItE t K a) [e, it] e (fun i h => (∃ old, IsEnum h e it ((i : Nat) : Int) old) ∧ ItrB t h it a i ∧ e ≠ it ∧ a ≠ it ∧ a ≠ e) where
  mem := by simp
  obj := fun i h st b hb => by
    obtain ⟨⟨old, he⟩, q, _⟩ := st
    have e' : b = e ∨ b = it := by simpa using hb
    rcases e' with z | z
    · rw [z]; exact ⟨_, he, fun v q => nomatch q⟩
    · rw [z]; exact itrB_obj q
  keep := fun i h h' st k => let ⟨⟨old, he⟩, hi, hne⟩ := st; ⟨⟨old, k e (by simp) _ he⟩, itrB_at hi fun o q => k it (by simp) o q, hne⟩
  item := by
    intro X hP hw hK hc i pins s σ H E I hf st hg
    subst hP hw hK
    obtain ⟨⟨old, he⟩, hit, hne, hai, hae⟩ := st
    obtain ⟨xs, hx, hq⟩ := hg
    obtain ⟨its, rv, p⟩ := inv_seqB I hq
    have hxi : xs[i]? = some xs[i] := List.getElem?_eq_getElem hx
    obtain ⟨u, hu, ru⟩ := rv.get hxi
    have hel : e < s.heap.objs.size := Heap.lt_size he
    have hil : it < s.heap.objs.size := by obtain ⟨_, q, _⟩ := itrB_obj hit; exact Heap.lt_size q
    have D := drawsB (prog := X.prog) (w := X.w) (A := X.A.in1) t (I.ok.hd hc) it a hai its.toArray
    have hlen : i < its.toArray.size := by have := rv.length; simp; omega
    refine wpAny_pyNext_enum_itemC D he ⟨hit, p⟩ hlen hne (by simp [hne, Ne.symm hae]) fun x h' tk hP ho st' hT hsz hk => ?_
    have hxu : x = u := by
      have h2 : its.toArray[i]? = some u := by simpa using hu
      exact Option.some.inj (hP.symm.trans h2)
    subst hxu
    refine ⟨_, rfl, wpAny_letOwnedTupleGo_enum (s := { s with heap := h', toks := tk + 1 }) ho fun h'' he' sb => ?_⟩
    have hT2 : h''.get? s.heap.objs.size = some { cls := .type "tuple", data := .seq #[.int i tk, x] } := (sb.2 _ (Nat.ne_of_gt hel)).trans hT
    have new : ObjOk X.prog X.w (upd H s.heap.objs.size (.tup [.int (i : Nat), xs[i]])) h'' s.heap.objs.size (.tup [.int (i : Nat), xs[i]]) :=
      ⟨by show 2 ≤ sizeLine; decide, [.int i tk, x], .cons ⟨_, rfl⟩ (.cons ru .nil), ⟨_, hT2, rfl, _, rfl⟩⟩
    have I1 : Inv X pins σ (upd H s.heap.objs.size (.tup [.int (i : Nat), xs[i]])) { s with heap := h'', toks := tk + 1 } :=
      I.turnedNew (ch := [e, it]) (fun b ob hb q => (sb.2 b (fun z => hb (by simp [z]))).trans (hk b ob (fun z => hb (by simp [z])) (fun z => hb (by simp [z])) q)) hf (Nat.le_refl _) new
    refine ⟨.ref s.heap.objs.size, _, I1, rfl, ⟨_, xs[i], rfl, I.hok.fresh (Nat.le_refl _), rfl, fun zs hz => by rw [inv_injB I hz hq]; exact hxi⟩, ⟨⟨x, ?_⟩, itrB_at st'.1 fun o q => (sb.2 it (Ne.symm hne)).trans q, hne, hai, hae⟩, fun b hb => ?_⟩
    · have e1 : ((i + 1 : Nat) : Int) = (i : Int) + 1 := by omega
      rw [e1]; exact he'
    · have hb' : b < s.heap.objs.size := by
        have e' : b = e ∨ b = it := by simpa using hb
        rcases e' with z | z
        · rw [z]; exact hel
        · rw [z]; exact hil
      rw [upd_ne (Nat.ne_of_lt hb')]
      exact (hf b hb).1
  done := by
    intro X hP hw hK hc i pins s σ H E I hf st hg
    subst hP hw hK
    obtain ⟨⟨old, he⟩, hit, hne, hai, hae⟩ := st
    obtain ⟨xs, hx, hq⟩ := hg
    obtain ⟨its, rv, p⟩ := inv_seqB I hq
    obtain ⟨f0, f1, f2, f3, f4, f5⟩ := hf it (by simp)
    have hl := rv.length
    have D := drawsB (prog := X.prog) (w := X.w) (A := X.A.in1) t (I.ok.hd hc) it a hai its.toArray
    have hz : i = its.toArray.size := by simp; omega
    exact wpAny_pyNext_enum_endD D he (by rw [← hz]; exact ⟨hit, p⟩) fun h' eb => ⟨rfl, I.turned (t' := s.toks) (fun b o hb q => eb b o hb q) f0 f1 f3 f4 f5⟩
  self := fun A i s Q E st h => let ⟨⟨_, he⟩, _⟩ := st; wpAny_pyIter_enum he h
set_option maxHeartbeats 4000000 in
theorem meets_enumerate_new1 {v : Value} {o : Obj} {H : Heap → Prop} (B : Begins v o H) :
    Meets (Builtin.«enumerate.__new__» ⟨[.type "enumerate", v], []⟩) (fun _ R s => H s.heap ∧
      R (.ok (.ret (.ref (s.heap.push o).objs.size))) { s with heap := (s.heap.push o).push { cls := .type "enumerate", data := .fields #[.none, .bool false, .ref s.heap.objs.size, rawInt 0, .none, .none] } }) :=
  .of_wp fun prog w A R s h => by
    obtain ⟨hp, g, d, tk, os⟩ := s; obtain ⟨h1, h⟩ := h
    have hsub := sub_enumerate
    have q1 : ∀ {A' : Around} {E : Value → Shared → Prop} {Q : Value → Shared → Prop}, Q (.ref hp.objs.size) ⟨hp.push o, g, d, tk, os⟩ → wpAny (model prog w) A' (pyIter v) Q E ⟨hp, g, d, tk, os⟩ :=
      fun q => B.iter prog w _ _ ⟨hp, g, d, tk, os⟩ _ h1 q
    wp_walk using q1
    refine wpAny_stack_any fun st => wpAny_pure ?_
    split
    · rename_i c _ _ _ _ _
      cases (c == Value.type "enumerate")
      · wp_walk using q1
        exact ⟨_, rfl, h⟩
      · wp_walk using q1
        exact ⟨_, rfl, h⟩
    · wp_walk using q1
      exact ⟨_, rfl, h⟩
theorem enum_begins1 {prog : Program} {w : World} {A : Around} {E : Value → Shared → Prop} {s : Shared} {v : Value} {o : Obj} {H : Heap → Prop} {Q : Value → Shared → Prop} (B : Begins v o H) (h1 : H s.heap)
    (h : ∀ h', IsEnum h' (s.heap.objs.size + 1) s.heap.objs.size 0 .none → h'.get? s.heap.objs.size = some o → h'.objs.size = s.heap.objs.size + 2 →
      (∀ b o, s.heap.get? b = some o → h'.get? b = some o) → Q (.ref (s.heap.objs.size + 1)) { s with heap := h' }) :
    wpAny (model prog w) A (call (.type "enumerate") [v]) Q E s := by
  refine callType_new F.called_enumerate (by decide) (F.typeCall_enumerate_1 _) (F.newCall_enumerate_1 _) (fun obj => F.args_object_init_2 obj _) F.entry_enumerate_new
    (meets_enumerate_new1 B) ⟨h1, ?_⟩
  have hz : (s.heap.push o).objs.size = s.heap.objs.size + 1 := Heap.size_push ..
  show _ ∧ _
  rw [hz]
  have he : IsEnum ((s.heap.push o).push { cls := .type "enumerate", data := .fields #[.none, .bool false, .ref s.heap.objs.size, rawInt 0, .none, .none] }) (s.heap.objs.size + 1) s.heap.objs.size 0 .none := by
    have := Heap.get?_push_size (s.heap.push o) (o := { cls := .type "enumerate", data := .fields #[.none, .bool false, .ref s.heap.objs.size, rawInt 0, .none, .none] }) rfl
    rw [hz] at this; exact this
  refine ⟨⟨_, he, rfl⟩, h _ he (Heap.get?_push_of_some _ (Heap.get?_push_size _ B.free)) (by rw [Heap.size_push, hz]) fun b o x => Heap.get?_push_of_some _ (Heap.get?_push_of_some _ x)⟩
def iEnumB (K : PySem.W.Frag) (ta : TA) : TI := fun σ H R => ta σ H fun vs H1 => ∃ t a xs, vs = [.ref a] ∧ SqB t K H1 a xs ∧ R (ItE t K a) H1
theorem pi_enumB {X : Cx} {e : Expr} {ta : TA} {p pos tpos : Pos} {elts : List Expr} {kk : Nat} (hg : Gl X "enumerate") (hm : X.mg "enumerate" = none) (ha : PA X [e] ta) (hs : starEach [e] X.env = [(false, eval e X.env)] := by rfl) :
    PI X (.Tuple elts kk tpos) (.Call (.Name "enumerate" p) [e] [] pos) (iEnumB X.K ta) := by
  refine ⟨fun pins s σ H R I h => ?_⟩
  refine Call_ (ld_blt I hg hm boot_enumerate (PyProof.Rows.callWith_type1 (thn (ha.run pos pins s σ H _ I h) fun us s1 ⟨vs, H1, I1, r1, q1⟩ => ?_) hs rfl))
  obtain ⟨t, a, xs, ex, hq, q⟩ := q1
  subst ex
  cases r1 with
  | cons r rr =>
    cases rr
    cases r
    obtain ⟨its, rv, p'⟩ := inv_seqB I1 hq
    have hal := srcB_lt p'
    refine enum_begins1 (begB t a its.toArray) p' fun h' he hit hsz hk => wpAny_pyIter_enum he ?_
    have I2 : Inv X pins σ H1 { s1 with heap := h' } := I1.kept (t' := s1.toks) hk
    refine ⟨s1.heap.objs.size + 1, [s1.heap.objs.size + 1, s1.heap.objs.size], _, _, H1, rfl, I2, turn_enumB t a (s1.heap.objs.size + 1) s1.heap.objs.size, ⟨⟨.none, he⟩, itrB_new hit, Nat.succ_ne_self _, Nat.ne_of_lt hal, Nat.ne_of_lt (Nat.lt_succ_of_lt hal)⟩, fun b hb => ?_, q⟩
    have e' : b = s1.heap.objs.size + 1 ∨ b = s1.heap.objs.size := by simpa using hb
    have hle : s1.heap.objs.size ≤ b := by
      rcases e' with z | z
      · rw [z]; exact Nat.le_add_right _ _
      · rw [z]; exact Nat.le_refl _
    exact I1.fpOk hle (I1.hok.fresh hle)
/-- the items of two in new pairs -/
def ItZ (t u : Bool) (K : PySem.W.Frag) (a b : Addr) : It :=
  ⟨fun i H => ∃ xs ys : List V, (i < xs.length ∧ i < ys.length) ∧ SqB t K H a xs ∧ SqB u K H b ys,
    fun i H v H' => ∃ T x y, v = .ref T ∧ H T = none ∧ H' = upd H T (.tup [x, y]) ∧ (∀ xs, SqB t K H a xs → xs[i]? = some x) ∧ ∀ ys, SqB u K H b ys → ys[i]? = some y,
    fun i H => ∃ xs ys : List V, i = min xs.length ys.length ∧ SqB t K H a xs ∧ SqB u K H b ys⟩
theorem turn_zipB {P : Program} {w : World} {K : PySem.W.Frag} {elts : List Expr} {kk : Nat} {tpos : Pos} (t u : Bool) {a b z TI TO i1 i2 : Addr} (D : ZipSep2 z TI TO i1 i2 [i1, a] [i2, b]) (na : a ≠ i1) (nb : b ≠ i2) :
    Turn P w K (.Tuple elts kk tpos) (ItZ t u K a b) [z, TI, TO, i1, i2] z (fun i h => IsZip h z TI TO .none ∧ IsTupOf2 h TI (.ref i1) (.ref i2) ∧ (∃ x y, IsTupOf2 h TO x y) ∧ ItrB t h i1 a i ∧ ItrB u h i2 b i) where
  mem := by simp
  obj := fun i h st c hc => by
    obtain ⟨hz, hTI, ⟨x, y, hTO⟩, q1, q2⟩ := st
    have e' : c = z ∨ c = TI ∨ c = TO ∨ c = i1 ∨ c = i2 := by simpa using hc
    rcases e' with q | q | q | q | q
    · rw [q]; exact ⟨_, hz, fun v q => nomatch q⟩
    · rw [q]; exact ⟨_, hTI, fun v q => nomatch q⟩
    · rw [q]; exact ⟨_, hTO, fun v q => nomatch q⟩
    · rw [q]; exact itrB_obj q1
    · rw [q]; exact itrB_obj q2
  keep := fun i h h' st k => by
    obtain ⟨hz, hTI, ⟨x, y, hTO⟩, h1, h2⟩ := st
    exact ⟨k z (by simp) _ hz, k TI (by simp) _ hTI, ⟨x, y, k TO (by simp) _ hTO⟩, itrB_at h1 fun o q => k i1 (by simp) o q, itrB_at h2 fun o q => k i2 (by simp) o q⟩
  item := by
    intro X hP hw hK hc i pins s σ H E I hf st hg
    subst hP hw hK
    obtain ⟨hz, hTI, ⟨x0, y0, hTO⟩, h1, h2⟩ := st
    obtain ⟨xs, ys, ⟨hx, hy⟩, hqx, hqy⟩ := hg
    obtain ⟨its, rv, p⟩ := inv_seqB I hqx
    obtain ⟨its2, rv2, p2⟩ := inv_seqB I hqy
    have hxi : xs[i]? = some xs[i] := List.getElem?_eq_getElem hx
    have hyi : ys[i]? = some ys[i] := List.getElem?_eq_getElem hy
    obtain ⟨v1, hu, ru⟩ := rv.get hxi
    obtain ⟨v2, hu2, ru2⟩ := rv2.get hyi
    have hzl : z < s.heap.objs.size := Heap.lt_size hz
    have l1 := rv.length
    have l2 := rv2.length
    have D1 := drawsB (prog := X.prog) (w := X.w) (A := X.A.in1) t (I.ok.hd hc) i1 a na its.toArray
    have D2 := drawsB (prog := X.prog) (w := X.w) (A := X.A.in1) u (I.ok.hd hc) i2 b nb its2.toArray
    refine wpAny_pyNext_zipD2_item D D1 D2 hz hTI hTO ⟨h1, p⟩ ⟨h2, p2⟩ (by simp; omega) (by simp; omega) fun x1 x2 h' tk hP1 hP2 z' TO' st1' st2' hT hsz hk => ?_
    have e1 : x1 = v1 := Option.some.inj (hP1.symm.trans (show its.toArray[i]? = some v1 by simpa using hu))
    have e2 : x2 = v2 := Option.some.inj (hP2.symm.trans (show its2.toArray[i]? = some v2 by simpa using hu2))
    subst e1 e2
    refine ⟨_, rfl, wpAny_letOwnedTupleGo_zip (s := { s with heap := h', toks := tk }) z' fun h'' z'' sb => ?_⟩
    have hT2 : h''.get? s.heap.objs.size = some { cls := .type "tuple", data := .seq #[x1, x2] } := (sb.2 _ (Nat.ne_of_gt hzl)).trans hT
    have new : ObjOk X.prog X.w (upd H s.heap.objs.size (.tup [xs[i], ys[i]])) h'' s.heap.objs.size (.tup [xs[i], ys[i]]) :=
      ⟨by show 2 ≤ sizeLine; decide, [x1, x2], .cons ru (.cons ru2 .nil), ⟨_, hT2, rfl, _, rfl⟩⟩
    have I1 : Inv X pins σ (upd H s.heap.objs.size (.tup [xs[i], ys[i]])) { s with heap := h'', toks := tk } :=
      I.turnedNew (t' := tk) (ch := [z, TI, TO, i1, i2]) (fun c o hb q => (sb.2 c (fun q' => hb (by simp [q']))).trans (hk c o (fun q' => hb (by simp [q'])) (fun q' => hb (by simp [q'])) (fun q' => hb (by simp [q'])) (fun q' => hb (by simp [q'])) q)) hf (Nat.le_refl _) new
    refine ⟨.ref s.heap.objs.size, _, I1, rfl, ⟨_, xs[i], ys[i], rfl, I.hok.fresh (Nat.le_refl _), rfl, fun zs hz => by rw [inv_injB I hz hqx]; exact hxi, fun zs hz => by rw [inv_injB I hz hqy]; exact hyi⟩, ⟨z'', ?_, ⟨x1, x2, ?_⟩, ?_, ?_⟩, fun c hcm => ?_⟩
    · exact (sb.2 _ D.TIz).trans (hk _ _ D.TIz D.TITO D.TIi1 D.TIi2 hTI)
    · exact (sb.2 _ D.TOz).trans TO'
    · exact itrB_at st1'.1 fun o q => (sb.2 _ (Ne.symm D.zi1)).trans q
    · exact itrB_at st2'.1 fun o q => (sb.2 _ (Ne.symm D.zi2)).trans q
    · have hlt : c < s.heap.objs.size := by
        have e' : c = z ∨ c = TI ∨ c = TO ∨ c = i1 ∨ c = i2 := by simpa using hcm
        rcases e' with q | q | q | q | q
        · rw [q]; exact hzl
        · rw [q]; exact Heap.lt_size hTI
        · rw [q]; exact Heap.lt_size hTO
        · rw [q]; obtain ⟨_, e1, _⟩ := itrB_obj h1; exact Heap.lt_size e1
        · rw [q]; obtain ⟨_, e2, _⟩ := itrB_obj h2; exact Heap.lt_size e2
      rw [upd_ne (Nat.ne_of_lt hlt)]
      exact (hf c hcm).1
  done := by
    intro X hP hw hK hc i pins s σ H E I hf st hg
    subst hP hw hK
    obtain ⟨hz, hTI, ⟨x0, y0, hTO⟩, h1, h2⟩ := st
    obtain ⟨xs, ys, hend, hqx, hqy⟩ := hg
    obtain ⟨its, rv, p⟩ := inv_seqB I hqx
    obtain ⟨its2, rv2, p2⟩ := inv_seqB I hqy
    have l1 := rv.length
    have l2 := rv2.length
    have D1 := drawsB (prog := X.prog) (w := X.w) (A := X.A.in1) t (I.ok.hd hc) i1 a na its.toArray
    have D2 := drawsB (prog := X.prog) (w := X.w) (A := X.A.in1) u (I.ok.hd hc) i2 b nb its2.toArray
    exact wpAny_pyNext_zipD2_end D D1 D2 hz hTI hTO ⟨h1, p⟩ ⟨h2, p2⟩ (by simp; omega) (by simp; omega) (by simp; omega) fun h' tk hk => ⟨rfl, I.turnedL (t' := tk) (ch := [z, TI, TO, i1, i2]) (fun c o hb q =>
      hk c o (fun q' => hb (by simp [q'])) (fun q' => hb (by simp [q'])) (fun q' => hb (by simp [q'])) (fun q' => hb (by simp [q'])) q) hf⟩
  self := fun A i s Q E st h => wpAny_pyIter_zip st.1 h
def iZipB (K : PySem.W.Frag) (ta : TA) : TI := fun σ H R => ta σ H fun vs H1 => ∃ t u a b xs ys, vs = [.ref a, .ref b] ∧ SqB t K H1 a xs ∧ SqB u K H1 b ys ∧ R (ItZ t u K a b) H1
theorem pi_zipB {X : Cx} {e e2 : Expr} {ta : TA} {p pos tpos : Pos} {elts : List Expr} {kk : Nat} (hg : Gl X "zip") (hm : X.mg "zip" = none) (ha : PA X [e, e2] ta)
    (hs : starEach [e, e2] X.env = (false, eval e X.env) :: starEach [e2] X.env := by rfl) (hpl : (backTo pos (starEach [e2] X.env)).any (·.1) = false := by rfl) :
    PI X (.Tuple elts kk tpos) (.Call (.Name "zip" p) [e, e2] [] pos) (iZipB X.K ta) := by
  refine ⟨fun pins s σ H R I h => ?_⟩
  refine Call_ (ld_blt I hg hm PyProof.Rows.boot_zip (PyProof.Rows.callWith_type1 (thn (ha.run pos pins s σ H _ I h) fun us s1 ⟨vs, H1, I1, r1, q1⟩ => ?_) hs hpl))
  obtain ⟨t, u, a, b, xs, ys, ex, hqx, hqy, q⟩ := q1
  subst ex
  cases r1 with
  | cons r rr =>
    cases rr with
    | cons r' rr =>
      cases rr
      cases r
      cases r'
      obtain ⟨its, rv, p1⟩ := inv_seqB I1 hqx
      obtain ⟨its2, rv2, p2⟩ := inv_seqB I1 hqy
      have la := srcB_lt p1
      have lb := srcB_lt p2
      refine zip_begins2 (begB t a its.toArray) (begB u b its2.toArray) p1 p2 fun h' hz hTI hTO h1 h2 hsz hk => wpAny_pyIter_zip hz ?_
      have I2 : Inv X pins σ H1 { s1 with heap := h' } := I1.kept (t' := s1.toks) hk
      have sep := zip_sep2 (N := s1.heap.objs.size) (fp1 := [a]) (fp2 := [b]) (by simpa using la) (by simpa using lb)
      refine ⟨s1.heap.objs.size + 4, [s1.heap.objs.size + 4, s1.heap.objs.size + 2, s1.heap.objs.size + 3, s1.heap.objs.size, s1.heap.objs.size + 1], _, _, H1, rfl, I2, turn_zipB t u sep (Nat.ne_of_lt la) (Nat.ne_of_lt (Nat.lt_succ_of_lt lb)), ⟨hz, hTI, ⟨_, _, hTO⟩, itrB_new h1, itrB_new h2⟩, fun c hcm => ?_, q⟩
      have e' : c = s1.heap.objs.size + 4 ∨ c = s1.heap.objs.size + 2 ∨ c = s1.heap.objs.size + 3 ∨ c = s1.heap.objs.size ∨ c = s1.heap.objs.size + 1 := by simpa using hcm
      have hle : s1.heap.objs.size ≤ c := by
        rcases e' with z | z | z | z | z
        · rw [z]; exact Nat.le_add_right _ _
        · rw [z]; exact Nat.le_add_right _ _
        · rw [z]; exact Nat.le_add_right _ _
        · rw [z]; exact Nat.le_refl _
        · rw [z]; exact Nat.le_add_right _ _
      exact I1.fpOk hle (I1.hok.fresh hle)
/-! over states -/
section
variable {K : PySem.W.Frag} [HasTabs K] {E : XK} {tas : TA} {ρ : Rh} {P : EPost}
/-- a data sequence: its kind, its items -/
def Dat.seq : Dat → Option (Bool × List Dat)
  | .lst ds => some (false, ds)
  | .tup ds => some (true, ds)
  | _ => none
theorem den_seq {D H : Hp} {v : V} {x : Dat} {t : Bool} {ds : List Dat} (e : x.seq = some (t, ds)) (ex : Ex D H) (h : Den K D v x) : ∃ a xs, v = .ref a ∧ SqB t K H a xs ∧ DenAll K D xs ds := by
  cases h with
  | lst g1 g2 =>
    simp [Dat.seq] at e
    obtain ⟨rfl, rfl⟩ := e
    exact ⟨_, _, rfl, SqL.of (ex _ _ g1), g2⟩
  | tup g1 g2 =>
    simp [Dat.seq] at e
    obtain ⟨rfl, rfl⟩ := e
    exact ⟨_, _, rfl, SqT.of (ex _ _ g1), g2⟩
  | _ => cases e
def enumD (ds : List Dat) : List Dat := ds.mapIdx fun i d => .tup [.int (i : Int), d]
theorem enumD_len (ds : List Dat) : (enumD ds).length = ds.length := by unfold enumD; simp
theorem enumD_get {ds : List Dat} {i : Nat} {d : Dat} (h : ds[i]? = some d) : (enumD ds)[i]? = some (.tup [.int (i : Int), d]) := by unfold enumD; simp [h]
theorem iv_enum {Pi : List Dat → List Ow → Rh → Prop} (h : AvP K E tas ρ (fun os ρ1 => ∃ x t ds, os = [.d x] ∧ x.seq = some (t, ds) ∧ Pi (enumD ds) [.d x] ρ1) P) : IvP K E (iEnumB K tas) ρ Pi P := by
  intro D H T σ R s k xo
  refine h D H T σ _ s (fun vs os ρ1 D1 H1 q1 e1 s1 => ?_) (xo.sub0 fun _ _ _ z => z)
  obtain ⟨x, t, ds, rfl, e, q⟩ := q1
  match vs, e1 with
  | [v], _ =>
    have rd : ∀ D2 H2, Ex D2 H2 → DenO K D2 H2 v (.d x) → ∃ a xs, v = .ref a ∧ SqB t K H2 a xs ∧ DenAll K D2 xs ds := fun D2 H2 e2 g => by
      cases g with
      | d g => exact den_seq e e2 g
    obtain ⟨a, xs, rfl, hS, hA⟩ := rd D1 H1 s1.ex (s1.tm (v, _) List.mem_cons_self)
    refine ⟨t, a, xs, rfl, hS, k (ItE t K a) [(.ref a, .d x)] _ ρ1 D1 H1 q (fun D2 H2 e2 g => ?_) s1⟩
    obtain ⟨b, ws, eb, hS2, hA2⟩ := rd D2 H2 e2 (g _ List.mem_cons_self)
    cases eb
    have hl := hA2.length
    rw [enumD_len]
    refine ⟨fun i hi => ⟨ws, by omega, hS2⟩, ⟨ws, hl.symm, hS2⟩, fun i y H' hi hy => ?_⟩
    obtain ⟨T', z, rfl, hT, rfl, hz⟩ := hy
    obtain ⟨d, h1, h2⟩ := hA2.getv (hz ws hS2)
    exact ⟨_, enumD_get h1, .inr ⟨T', _, _, rfl, hT, rfl, rfl, .cons (.int _) (.cons h2 .nil)⟩⟩
def zipD (ds es : List Dat) : List Dat := (ds.zip es).map fun p => .tup [p.1, p.2]
theorem zipD_len (ds es : List Dat) : (zipD ds es).length = min ds.length es.length := by unfold zipD; simp
theorem zipD_get {ds es : List Dat} {i : Nat} {d e : Dat} (h : ds[i]? = some d) (h2 : es[i]? = some e) : (zipD ds es)[i]? = some (.tup [d, e]) := by
  unfold zipD
  obtain ⟨l1, e1⟩ := List.getElem?_eq_some_iff.mp h
  obtain ⟨l2, e2⟩ := List.getElem?_eq_some_iff.mp h2
  have z : (ds.zip es)[i]? = some (d, e) := List.getElem?_zip_eq_some.mpr ⟨h, h2⟩
  rw [List.getElem?_map, z]
  rfl
theorem iv_zip {Pi : List Dat → List Ow → Rh → Prop} (h : AvP K E tas ρ (fun os ρ1 => ∃ x y t u ds es, os = [.d x, .d y] ∧ x.seq = some (t, ds) ∧ y.seq = some (u, es) ∧ Pi (zipD ds es) [.d x, .d y] ρ1) P) : IvP K E (iZipB K tas) ρ Pi P := by
  intro D H T σ R s k xo
  refine h D H T σ _ s (fun vs os ρ1 D1 H1 q1 e1 s1 => ?_) (xo.sub0 fun _ _ _ z => z)
  obtain ⟨x, y, t, u, ds, es, rfl, e, f, q⟩ := q1
  match vs, e1 with
  | [v, w], _ =>
    have rd : ∀ D2 H2, Ex D2 H2 → DenO K D2 H2 v (.d x) → ∃ a xs, v = .ref a ∧ SqB t K H2 a xs ∧ DenAll K D2 xs ds := fun D2 H2 e2 g => by
      cases g with
      | d g => exact den_seq e e2 g
    have rd2 : ∀ D2 H2, Ex D2 H2 → DenO K D2 H2 w (.d y) → ∃ a xs, w = .ref a ∧ SqB u K H2 a xs ∧ DenAll K D2 xs es := fun D2 H2 e2 g => by
      cases g with
      | d g => exact den_seq f e2 g
    obtain ⟨a, xs, rfl, hS, hA⟩ := rd D1 H1 s1.ex (s1.tm (v, _) List.mem_cons_self)
    obtain ⟨b, ys, rfl, hS', hA'⟩ := rd2 D1 H1 s1.ex (s1.tm (w, _) (List.mem_cons_of_mem _ List.mem_cons_self))
    refine ⟨t, u, a, b, xs, ys, rfl, hS, hS', k (ItZ t u K a b) [(.ref a, .d x), (.ref b, .d y)] _ ρ1 D1 H1 q (fun D2 H2 e2 g => ?_) s1⟩
    obtain ⟨c, ws, eb, hS2, hA2⟩ := rd D2 H2 e2 (g _ List.mem_cons_self)
    cases eb
    obtain ⟨c', ws', eb', hS2', hA2'⟩ := rd2 D2 H2 e2 (g _ (List.mem_cons_of_mem _ List.mem_cons_self))
    cases eb'
    have hl := hA2.length
    have hl' := hA2'.length
    rw [zipD_len]
    refine ⟨fun i hi => ⟨ws, ws', by omega, hS2, hS2'⟩, ⟨ws, ws', by omega, hS2, hS2'⟩, fun i y H' hi hy => ?_⟩
    obtain ⟨T', z1, z2, rfl, hT, rfl, hz1, hz2⟩ := hy
    obtain ⟨d1, h1, h2⟩ := hA2.getv (hz1 ws hS2)
    obtain ⟨d2, h3, h4⟩ := hA2'.getv (hz2 ws' hS2')
    exact ⟨_, zipD_get h1 h3, .inr ⟨T', _, _, rfl, hT, rfl, rfl, .cons h2 (.cons h4 .nil)⟩⟩
end
end DL

/-! ### F. built-ins, operators, methods -/
namespace DL
open PySem L2 Evl PySem.Spec PyProof.Rows
/-! data as the library's data -/
mutual
def Dat.py : Dat → PyData
  | .non => .none
  | .bl b => .bool b
  | .int i => .int i
  | .str s => .str s
  | .lst xs => .list (pys xs)
  | .tup xs => .tuple (pys xs)
  | _ => .none
def pys : List Dat → List PyData
  | [] => []
  | x :: xs => x.py :: pys xs
end
mutual
def Dat.pure : Dat → Bool
  | .lst xs => pures xs
  | .tup xs => pures xs
  | .obj _ _ => false
  | .ty _ => false
  | .scr _ => false
  | _ => true
def pures : List Dat → Bool
  | [] => true
  | x :: xs => x.pure && pures xs
end
mutual
theorem Den.dp {K : PySem.W.Frag} [HasTabs K] {H : Hp} : ∀ {v : V} {d : Dat}, Den K H v d → d.pure = true → Dp K H v d.py
  | _, _, .non, _ => .non
  | _, _, .bl b, _ => .bl b
  | _, _, .int i, _ => .int i
  | _, _, .str x, _ => .str x
  | _, _, .lst h r, k => .lst (SqL.of h) (DenAll.dp r (by unfold Dat.pure at k; exact k))
  | _, _, .tup h r, k => .tup (SqT.of h) (DenAll.dp r (by unfold Dat.pure at k; exact k))
  | _, _, .obj _ _, k => by cases k
  | _, _, .ty _, k => by cases k
  | _, _, .scr _, k => by cases k
theorem DenAll.dp {K : PySem.W.Frag} [HasTabs K] {H : Hp} : ∀ {v : List V} {d : List Dat}, DenAll K H v d → pures d = true → DpAll K H v (pys d)
  | _, _, .nil, _ => .nil
  | _, _, .cons h r, k => by
    unfold pures at k
    rw [Bool.and_eq_true] at k
    exact .cons (Den.dp h k.1) (DenAll.dp r k.2)
end
section
variable {K : PySem.W.Frag} [HasTabs K] {E : XK} {te ta tb tj : TE} {tt tu : TT} {tas : TA} {ts tw : TS} {ρ : Rh} {P P' : EPost} {S : SPost} {D D' H H' : Hp} {T : Tm} {σ : L2.St} {v : V} {o : Ow} {i : Nat} {a p : Addr}
/-! types -/
def Dat.tyn : Dat → Option String
  | .non => some "NoneType"
  | .bl _ => some "bool"
  | .int _ => some "int"
  | .str _ => some "str"
  | .lst _ => some "list"
  | .tup _ => some "tuple"
  | _ => none
theorem Den.tyx {x : Dat} {n : String} (h : Den K H v x) (e : x.tyn = some n) : TyX K H v (.type n) := by
  cases h with
  | non => cases e; exact .base .non
  | bl b => cases e; exact .base (.bl b)
  | int i => cases e; exact .base (.int i)
  | str s => cases e; exact .base (.str s)
  | lst h r => cases e; exact .base (.lst h)
  | tup h r => cases e; exact .base (.tup h)
  | obj h r => cases e
  | ty n => cases e
  | scr h => cases e
theorem acb_isi {x : Dat} {n m : String} {r : Bool} (e : x.tyn = some n) (k : kitB n m = some r) : ACb K (rIsi K) [x, .ty m] (.bl r) := ⟨rfl, fun H vs Q h q => by
  cases h with
  | cons h1 h =>
    cases h with
    | cons h2 h =>
      cases h
      cases h2
      exact ⟨_, _, _, _, r, rfl, .ty m, h1.tyx e, kit_ty k, q⟩⟩
theorem acb_isiT {x : Dat} {n m1 m2 : String} {r1 r2 : Bool} (e : x.tyn = some n) (k1 : kitB n m1 = some r1) (k2 : kitB n m2 = some r2) : ACb K (rIsiT K) [x, .tup [.ty m1, .ty m2]] (.bl (r1 || r2)) := ⟨rfl, fun H vs Q h q => by
  cases h with
  | cons h1 h =>
    cases h with
    | cons h2 h =>
      cases h
      cases h2 with
      | tup g1 g2 =>
        cases g2 with
        | cons a1 g2 =>
          cases g2 with
          | cons a2 g2 =>
            cases g2
            cases a1
            cases a2
            refine ⟨_, _, _, _, [.type m1, .type m2], r1 || r2, rfl, g1, .cons (.ty m1) (.cons (.ty m2) .nil), h1.tyx e, ?_, q⟩
            refine kitAny_cons (kit_ty k1) (fun z => ?_) (fun z => by rw [z]; rfl)
            rw [z]
            refine kitAny_cons (kit_ty k2) (fun y => ?_) (fun y => by rw [y]; rfl)
            rw [y]
            exact kitAny_nil⟩
/-! lists and tuples -/
abbrev rLenQ (K : PySem.W.Frag) : List V → Hp → VK → Prop := fun xs H Q => ∃ p ys, xs = [.ref p] ∧ (SqL K H p ys ∨ SqT K H p ys) ∧ Q (.int ys.length) H
theorem acb_len {x : Dat} {t : Bool} {ds : List Dat} (e : x.seq = some (t, ds)) : ACb K (rLenQ K) [x] (.int ds.length) := ⟨rfl, fun H vs Q h q => by
  cases h with
  | cons h1 h =>
    cases h
    obtain ⟨a, xs, rfl, g1, g2⟩ := den_seq e (Ex.refl H) h1
    refine ⟨a, xs, rfl, ?_, by rw [g2.length]; exact q⟩
    cases t
    · exact .inl g1
    · exact .inr g1⟩
theorem acb_lenS {ns : List Int} : ACb K (rLenQ K) [.scr ns] (.int ns.length) := ⟨rfl, fun H vs Q h q => by
  cases h with
  | cons h1 h =>
    cases h
    cases h1 with
    | scr g => exact ⟨_, _, rfl, .inl g, by rw [List.length_map]; exact q⟩⟩
theorem acb_sum {ns : List Int} : ACb K (rSum K) [.lst (ns.map Dat.int)] (.int ns.sum) := ⟨rfl, fun H vs Q h q => by
  cases h with
  | cons h1 h =>
    cases h
    cases h1 with
    | lst g1 g2 =>
      rw [g2.ints] at g1
      exact ⟨_, ns, rfl, SqL.of g1, q⟩⟩
theorem acb_all {bs : List Bool} : ACb K (rAll K) [.lst (bs.map Dat.bl)] (.bl (bs.all id)) := ⟨rfl, fun H vs Q h q => by
  cases h with
  | cons h1 h =>
    cases h
    cases h1 with
    | lst g1 g2 =>
      rw [g2.bools] at g1
      exact ⟨_, bs, rfl, SqL.of g1, q⟩⟩
theorem acb_gcd {a b : Int} : ACb K rGcd [.int a, .int b] (.int ((Nat.gcd a.natAbs b.natAbs : Nat) : Int)) := ⟨rfl, fun H vs Q h q => by
  cases h with
  | cons h1 h =>
    cases h with
    | cons h2 h =>
      cases h; cases h1; cases h2
      exact ⟨a, b, rfl, q⟩⟩
def rLcm : List V → Hp → VK → Prop := fun vs H Q => ∃ a b : Int, vs = [.int a, .int b] ∧ a.natAbs < 2 ^ 64 ∧ b.natAbs < 2 ^ 64 ∧ Q (.int ((Nat.lcm a.natAbs b.natAbs : Nat) : Int)) H
theorem cr_lcm {X : Cx} : CallR X (.builtin "math.lcm") rLcm := by
  intro pins s σ H vs us Q I r h
  obtain ⟨a, b, rfl, ha, hb, q⟩ := h
  obtain ⟨t, u, rfl⟩ := Vals.int2 r
  exact PySem.W.mc_lcm ha hb fun _ => ⟨.int _, H, I.tok _, ⟨_, rfl⟩, q⟩
theorem acb_lcm {a b : Int} (ha : a.natAbs < 2 ^ 64) (hb : b.natAbs < 2 ^ 64) : ACb K rLcm [.int a, .int b] (.int ((Nat.lcm a.natAbs b.natAbs : Nat) : Int)) := ⟨rfl, fun H vs Q h q => by
  cases h with
  | cons h1 h =>
    cases h with
    | cons h2 h =>
      cases h; cases h1; cases h2
      exact ⟨a, b, rfl, ha, hb, q⟩⟩
abbrev rAbs : List V → Hp → VK → Prop := fun xs H Q => ∃ i, xs = [.int i] ∧ Q (.int (if i < 0 then -i else i)) H
theorem acb_abs {i : Int} : ACb K rAbs [.int i] (.int (if i < 0 then -i else i)) := ⟨rfl, fun H vs Q h q => by
  cases h with
  | cons h1 h => cases h; cases h1; exact ⟨i, rfl, q⟩⟩
abbrev rInt1 : List V → Hp → VK → Prop := fun xs H Q => (∃ i, xs = [.int i] ∧ Q (.int i) H) ∨ ∃ k, xs = [.bl k] ∧ Q (.int (if k then 1 else 0)) H
theorem acb_int {i : Int} : ACb K rInt1 [.int i] (.int i) := ⟨rfl, fun H vs Q h q => by
  cases h with
  | cons h1 h => cases h; cases h1; exact .inl ⟨i, rfl, q⟩⟩
/-- list(x): data, or owned -/
abbrev rListO (K : PySem.W.Frag) : List V → Hp → VK → Prop := fun xs H Q => ∃ p ys, xs = [.ref p] ∧ (SqL K H p ys ∨ SqT K H p ys) ∧ ∀ l, H l = none → Q (.ref l) (upd H l (.lst ys))
abbrev rTupO (K : PySem.W.Frag) : List V → Hp → VK → Prop := fun xs H Q => ∃ p ys, xs = [.ref p] ∧ ((SqL K H p ys ∧ ∀ l, H l = none → Q (.ref l) (upd H l (.tup ys))) ∨ (SqT K H p ys ∧ Q (.ref p) H))
/-- what a state tells of a temporary that is a sequence of data, owned or not -/
def Ow.sq : Ow → Option (Bool × List Dat)
  | .d x => x.seq
  | _ => none
inductive SqO : Ow → Bool → List Dat → Prop
  | d {x : Dat} {t : Bool} {ds : List Dat} : x.seq = some (t, ds) → SqO (.d x) t ds
  | l {a : Addr} {ds : List Dat} : SqO (.l a (ds.map Ow.d)) false ds
theorem SqO.rd {t : Bool} {ds : List Dat} (q : SqO o t ds) (ex : Ex D H) (h : DenO K D H v o) : ∃ a xs, v = .ref a ∧ SqB t K H a xs ∧ DenAll K D xs ds := by
  cases q with
  | d e =>
    cases h with
    | d h => exact den_seq e ex h
  | l =>
    cases h with
    | l g1 g2 => exact ⟨_, _, rfl, SqL.of g1, g2.toAll⟩
theorem sqB_or {t : Bool} {xs : List V} (h : SqB t K H a xs) : SqL K H a xs ∨ SqT K H a xs := by
  cases t
  · exact .inl h
  · exact .inr h
theorem ev_list (h : AvP K E tas ρ (fun os ρ1 => ∃ x t ds, os = [x] ∧ SqO x t ds ∧ ds.length ≤ 100000 ∧ (∀ b, P (.ok (.l b (ds.map Ow.d))) (bk x ρ1))) P) : EvP K E (tCB (rListO K) tas) ρ P := by
  intro D H T σ Q s k xo
  refine h D H T σ _ s (fun vs os ρ1 D1 H1 q1 e1 s1 => ?_) (xo.sub0 fun _ _ _ z => z)
  obtain ⟨x, t, ds, rfl, q, hl, hp⟩ := q1
  match vs, e1 with
  | [v], _ =>
    obtain ⟨b, xs, rfl, g1, g2⟩ := q.rd s1.ex (s1.tm (v, _) List.mem_cons_self)
    refine ⟨b, xs, rfl, sqB_or g1, fun l hl => ?_⟩
    have s2 : Sd K D1 H1 T σ (bk x ρ1) := Sd.bk (v := V.ref b) (o := x) s1
    have s3 : Sd K D1 H1 (xs.zip (ds.map Ow.d) ++ T) σ (bk x ρ1) := by
      have fz : fpT (xs.zip (ds.map Ow.d)) = [] := by rw [fpT_zip (by rw [List.length_map]; exact g2.length), fps_map]
      refine ⟨s2.ex, fun p hp => ?_, s2.sl, by rw [fpT_app, fz]; exact s2.nd, by rw [fpT_app, fz]; exact s2.out, s2.tb⟩
      rcases List.mem_append.mp hp with z | z
      · have : ∀ {vs : List V} {ds : List Dat}, DenAll K D1 vs ds → ∀ p ∈ vs.zip (ds.map Ow.d), DenO K D1 H1 p.1 p.2 := by
          intro vs
          induction vs with
          | nil => intro ds g p hp; simp at hp
          | cons w vs ih =>
            intro ds g p hp
            cases g with
            | cons r t =>
              rcases List.mem_cons.mp (show p ∈ (w, Ow.d _) :: vs.zip _ from hp) with z | z
              · subst z; exact .d r
              · exact ih t p z
        exact this g2 p z
      · exact s2.tm p z
    exact k _ _ _ _ _ (hp l) (s3.own (by rw [List.length_map]; exact g2.length) hl)
/-- tuple(x) of data (owned or not) -/
theorem ev_tuple (h : AvP K E tas ρ (fun os ρ1 => ∃ x t ds, os = [x] ∧ SqO x t ds ∧ P (.ok (.d (.tup ds))) (bk x ρ1)) P) : EvP K E (tCB (rTupO K) tas) ρ P := by
  intro D H T σ Q s k xo
  refine h D H T σ _ s (fun vs os ρ1 D1 H1 q1 e1 s1 => ?_) (xo.sub0 fun _ _ _ z => z)
  obtain ⟨x, t, ds, rfl, q, hp⟩ := q1
  match vs, e1 with
  | [v], _ =>
    have hv := s1.tm (v, _) List.mem_cons_self
    obtain ⟨b, xs, rfl, g1, g2⟩ := q.rd s1.ex hv
    have s2 : Sd K D1 H1 T σ (bk x ρ1) := Sd.bk (v := V.ref b) (o := x) s1
    cases t with
    | false => exact ⟨b, xs, rfl, .inl ⟨g1, fun l hl => k _ _ _ _ _ hp ((s2.new hl _).push (.tup upd_same (g2.mono (Ex.new (s2.dnone hl)))))⟩⟩
    | true =>
      refine ⟨b, xs, rfl, .inr ⟨g1, k _ _ _ _ _ hp (s2.push ?_)⟩⟩
      cases q with
      | d e =>
        cases hv with
        | d hv =>
          cases hv with
          | tup a1 a2 => simp [Dat.seq] at e; subst e; exact .tup a1 a2
          | lst a1 a2 => simp [Dat.seq] at e
          | _ => cases e
/-- x[j] of data -/
theorem ev_ixG {r : R2} {t : Bool} (hr : ∀ p xs j (w : V) H (Q : VK), SqB t K H p xs → atI xs j = some w → Q w H → r (.ref p) (.int j) H Q)
    (h : EvP K E ta ρ (bnd (fun x ρ1 => EvP K E tb ρ1 (bnd (fun y ρ2 => ∃ ds j z, SqO x t ds ∧ y = .d (.int j) ∧ atI ds j = some z ∧ P (.ok (.d z)) (bk x ρ2)) P)) P)) : EvP K E (tOp r ta tb) ρ P := by
  intro D H T σ Q s k xo
  refine h D H T σ _ s (fun v x ρ1 D1 H1 q1 s1 => ?_) (xo.sub0 fun _ _ _ z => z)
  refine q1 D1 H1 _ σ _ s1 (fun w y ρ2 D2 H2 q2 s2 => ?_) (xo.sub1 fun _ _ _ z => z)
  obtain ⟨ds, j, z, q, rfl, e, hp⟩ := q2
  obtain ⟨b, xs, rfl, g1, g2⟩ := q.rd s2.ex (s2.tm (v, x) (List.mem_cons_of_mem _ List.mem_cons_self))
  have hy := s2.tm (w, _) List.mem_cons_self
  cases hy with
  | d hy =>
    cases hy
    have e2 : ∃ u, atI xs j = some u ∧ Den K D2 u z := by
      unfold atI at e ⊢
      rw [g2.length]
      cases hj : ixN ds.length j with
      | none => rw [hj] at e; cases e
      | some n =>
        rw [hj] at e
        obtain ⟨u, h1, h2⟩ := g2.get (show ds[n]? = some z from e)
        exact ⟨u, h1, h2⟩
    obtain ⟨u, h1, h2⟩ := e2
    exact hr _ _ _ _ _ _ g1 h1 (k _ _ _ D2 H2 hp ((s2.pop.bk).push h2))
theorem ev_ixL (h : EvP K E ta ρ (bnd (fun x ρ1 => EvP K E tb ρ1 (bnd (fun y ρ2 => ∃ ds j z, SqO x false ds ∧ y = .d (.int j) ∧ atI ds j = some z ∧ P (.ok (.d z)) (bk x ρ2)) P)) P)) : EvP K E (tOp (rIxL K) ta tb) ρ P :=
  ev_ixG (t := false) (fun p xs j w H Q h1 h2 h3 => ⟨p, xs, j, w, rfl, rfl, h1, h2, h3⟩) h
theorem ev_ixT (h : EvP K E ta ρ (bnd (fun x ρ1 => EvP K E tb ρ1 (bnd (fun y ρ2 => ∃ ds j z, SqO x true ds ∧ y = .d (.int j) ∧ atI ds j = some z ∧ P (.ok (.d z)) (bk x ρ2)) P)) P)) : EvP K E (tOp (rIxT K) ta tb) ρ P :=
  ev_ixG (t := true) (fun p xs j w H Q h1 h2 h3 => ⟨p, xs, j, w, rfl, rfl, h1, h2, h3⟩) h
/-- script[j] -/
theorem aop_scr {ns : List Int} {j : Int} {z : Int} (e : atI ns j = some z) : AOp K (rIxL K) (.scr ns) (.int j) (.int z) := ⟨rfl, fun H v w Q h1 h2 q => by
  cases h2
  cases h1 with
  | scr g =>
    refine ⟨_, _, j, .int z, rfl, rfl, g, ?_, q⟩
    unfold atI at e ⊢
    rw [List.length_map]
    cases hj : ixN ns.length j with
    | none => rw [hj] at e; cases e
    | some n =>
      rw [hj] at e
      show (ns.map V.int)[n]? = _
      rw [List.getElem?_map, show ns[n]? = some z from e]
      rfl⟩
/-- a + b of lists of data -/
theorem ev_cat (h : EvP K E ta ρ (bnd (fun x ρ1 => EvP K E tb ρ1 (bnd (fun y ρ2 => ∃ ds es, SqO x false ds ∧ SqO y false es ∧ ds.length + es.length ≤ 100000 ∧ P (.ok (.d (.lst (ds ++ es)))) (bk x (bk y ρ2))) P)) P)) : EvP K E (tOp rCat ta tb) ρ P := by
  intro D H T σ Q s k xo
  refine h D H T σ _ s (fun v x ρ1 D1 H1 q1 s1 => ?_) (xo.sub0 fun _ _ _ z => z)
  refine q1 D1 H1 _ σ _ s1 (fun w y ρ2 D2 H2 q2 s2 => ?_) (xo.sub1 fun _ _ _ z => z)
  obtain ⟨ds, es, qx, qy, hl, hp⟩ := q2
  have rd : ∀ {u : V} {o : Ow} {ds : List Dat}, SqO o false ds → DenO K D2 H2 u o → ∃ a xs, u = .ref a ∧ H2 a = some (.lst xs) ∧ DenAll K D2 xs ds := by
    intro u o ds q h
    cases q with
    | d e =>
      cases h with
      | d h =>
        cases h with
        | lst a1 a2 => simp [Dat.seq] at e; subst e; exact ⟨_, _, rfl, s2.ex _ _ a1, a2⟩
        | tup a1 a2 => simp [Dat.seq] at e
        | _ => cases e
    | l =>
      cases h with
      | l g1 g2 => exact ⟨_, _, rfl, g1, g2.toAll⟩
  obtain ⟨b, xs, rfl, g1, g2⟩ := rd qx (s2.tm (v, x) (List.mem_cons_of_mem _ List.mem_cons_self))
  obtain ⟨c, ys, rfl, g3, g4⟩ := rd qy (s2.tm (w, y) List.mem_cons_self)
  refine ⟨b, c, xs, ys, rfl, rfl, g1, g3, sz_of (by rw [g2.length, g4.length]; exact hl), fun l hl => ?_⟩
  have s3 := s2.bk.bk
  exact k _ _ _ _ _ hp ((s3.new hl _).push (.lst upd_same ((g2.app g4).mono (Ex.new (s3.dnone hl)))))
/-- a + b of tuples of data -/
theorem ev_catT (h : EvP K E ta ρ (bnd (fun x ρ1 => EvP K E tb ρ1 (bnd (fun y ρ2 => ∃ ds es, x = .d (.tup ds) ∧ y = .d (.tup es) ∧ ds.length + es.length ≤ 100000 ∧ P (.ok (.d (.tup (ds ++ es)))) ρ2) P)) P)) : EvP K E (tOp (rCatA K) ta tb) ρ P := by
  intro D H T σ Q s k xo
  refine h D H T σ _ s (fun v x ρ1 D1 H1 q1 s1 => ?_) (xo.sub0 fun _ _ _ z => z)
  refine q1 D1 H1 _ σ _ s1 (fun w y ρ2 D2 H2 q2 s2 => ?_) (xo.sub1 fun _ _ _ z => z)
  obtain ⟨ds, es, rfl, rfl, hl, hp⟩ := q2
  have hx := s2.tm (v, _) (List.mem_cons_of_mem _ List.mem_cons_self)
  have hy := s2.tm (w, _) List.mem_cons_self
  cases hx with
  | d hx =>
    cases hy with
    | d hy =>
      cases hx with
      | tup g1 g2 =>
        cases hy with
        | tup g3 g4 =>
          rename_i a1 xs a2 ys
          have s3 : Sd K D2 H2 T σ ρ2 := s2.pop.pop
          refine ⟨a1, a2, xs, ys, rfl, rfl, st_of (s2.ex _ _ g1), st_of (s2.ex _ _ g3), sz_of (by rw [g2.length, g4.length]; exact hl), fun e => ?_, fun e e2 => ?_, fun _ _ l hl => ?_⟩
          · subst e
            cases g2
            exact k _ _ _ D2 H2 hp (s3.push (.tup g3 g4))
          · subst e2
            cases g4
            exact k _ _ _ D2 H2 hp (s3.push (by rw [List.append_nil]; exact .tup g1 g2))
          · exact k _ _ _ _ _ hp ((s3.new hl _).push (.tup upd_same ((g2.app g4).mono (Ex.new (s3.dnone hl)))))
/-- [x] * n -/
theorem ev_rep (h : EvP K E ta ρ (bnd (fun x ρ1 => EvP K E tb ρ1 (bnd (fun y ρ2 => ∃ d j, x = .d (.lst [d]) ∧ y = .d (.int j) ∧ 0 ≤ j ∧ j ≤ 100000 ∧ P (.ok (.d (.lst (List.replicate j.toNat d)))) ρ2) P)) P)) : EvP K E (tOp rRep ta tb) ρ P := by
  intro D H T σ Q s k xo
  refine h D H T σ _ s (fun v x ρ1 D1 H1 q1 s1 => ?_) (xo.sub0 fun _ _ _ z => z)
  refine q1 D1 H1 _ σ _ s1 (fun w y ρ2 D2 H2 q2 s2 => ?_) (xo.sub1 fun _ _ _ z => z)
  obtain ⟨d, j, rfl, rfl, h0, hj, hp⟩ := q2
  have hx := s2.tm (v, _) (List.mem_cons_of_mem _ List.mem_cons_self)
  have hy := s2.tm (w, _) List.mem_cons_self
  cases hy with
  | d hy =>
    cases hy
    cases hx with
    | d hx =>
      cases hx with
      | lst g1 g2 =>
        cases g2 with
        | cons g2 gn =>
          cases gn
          rename_i a1 u
          have s3 : Sd K D2 H2 T σ ρ2 := s2.pop.pop
          refine ⟨a1, j, [u], rfl, rfl, s2.ex _ _ g1, by omega, by omega, sz_of (by simp; omega), ?_⟩
          intro l hl
          refine k _ _ _ _ _ hp ((s3.new hl _).push (.lst upd_same ?_))
          have e : ∀ n : Nat, DenAll K D2 ((List.replicate n [u]).flatten) (List.replicate n d) := by
            intro n
            induction n with
            | zero => exact .nil
            | succ n ih => exact .cons g2 ih
          exact (e _).mono (Ex.new (s3.dnone hl))
/-! == of data -/
theorem aop_eqD {x y : Dat} (hx : x.pure = true) (hy : y.pure = true) (sx : SeqAt.shaped x.py = true) (sy : SeqAt.shaped y.py = true) : AOp K (rEqD K) x y (.bl (PyData.eqv x.py y.py)) := ⟨rfl, fun H v w Q h1 h2 q =>
  ⟨_, _, h1.dp hx, h2.dp hy, sx, sy, q⟩⟩
theorem aop_neD {x y : Dat} (hx : x.pure = true) (hy : y.pure = true) (sx : SeqAt.shaped x.py = true) (sy : SeqAt.shaped y.py = true) : AOp K (rNeD K) x y (.bl (!PyData.eqv x.py y.py)) := ⟨rfl, fun H v w Q h1 h2 q =>
  ⟨_, _, h1.dp hx, h2.dp hy, sx, sy, q⟩⟩
theorem aop_inD {x : Dat} {ds : List Dat} (hx : x.pure = true) (hy : pures ds = true) (sx : SeqAt.shaped x.py = true) (sy : SeqAt.shaped (Dat.lst ds).py = true) : AOp K (rInD K) x (.lst ds) (.bl ((pys ds).any fun z => PyData.eqv z x.py)) := ⟨rfl, fun H v w Q h1 h2 q =>
  ⟨_, _, h1.dp hx, h2.dp (by unfold Dat.pure; exact hy), sx, sy, q⟩⟩
theorem aop_eqI {i j : Int} : AOp K rEq (.int i) (.int j) (.bl (decide (i = j))) := ⟨rfl, fun H v w Q h1 h2 q => by
  cases h1; cases h2
  refine ⟨rfl, ?_⟩
  have e : decide (V.int i = V.int j) = decide (i = j) := decide_eq_decide.mpr ⟨fun z => V.int.inj z, fun z => by rw [z]⟩
  rw [e]; exact q⟩
theorem aop_neI {i j : Int} : AOp K rNe (.int i) (.int j) (.bl (!decide (i = j))) := ⟨rfl, fun H v w Q h1 h2 q => by
  cases h1; cases h2
  refine ⟨rfl, ?_⟩
  have e : decide (V.int i = V.int j) = decide (i = j) := decide_eq_decide.mpr ⟨fun z => V.int.inj z, fun z => by rw [z]⟩
  rw [e]; exact q⟩
/-! repr -/
def rReprD (K : PySem.W.Frag) : List V → Hp → VK → Prop := fun vs H Q => ∃ v d, vs = [v] ∧ Dp K H v d ∧ d.showable = true ∧ d.hasDict = false ∧ d.shown.length ≤ sizeLine ∧ d.depth ≤ 64 ∧ Q (.str d.shown) H
end
end DL

/-! ### G. what changes owned things -/
namespace DL
open PySem L2 Evl PySem.Spec PyProof.Rows
section
variable {K : PySem.W.Frag} [HasTabs K] {E : XK} {te ta tb tj td ty tv tx : TE} {tt tu : TT} {tas : TA} {ts tw : TS} {ρ : Rh} {P P' : EPost} {S : SPost} {D D' H H' : Hp} {T : Tm} {σ : L2.St} {v : V} {o : Ow} {i : Nat} {a b p : Addr}
theorem fps_mid : ∀ {xs : List Ow} {j : Nat} {x : Ow} (y : Ow), xs[j]? = some x → y.fp = [] → (fps xs).Perm (x.fp ++ fps (xs.set j y))
  | [], _, _, _, e, _ => by simp at e
  | z :: r, 0, x, y, e, hy => by
    simp at e
    subst e
    show (z.fp ++ fps r).Perm (z.fp ++ (y.fp ++ fps r))
    rw [hy]
    exact List.Perm.refl _
  | z :: r, j + 1, x, y, e, hy => by
    have ih := fps_mid (xs := r) (j := j) (x := x) y (by simpa using e) hy
    show (z.fp ++ fps r).Perm (x.fp ++ (z.fp ++ fps (r.set j y)))
    refine (ih.append_left _).trans ?_
    rw [← List.append_assoc, ← List.append_assoc]
    exact List.perm_append_comm.append_right _
/-- an owned item of an owned list steps out .. -/
theorem Sd.focus {xs : List Ow} {j : Nat} (h : Sd K D H ((.ref a, .l a xs) :: T) σ ρ) (e : xs[j]? = some o) (r : o.root = some b) : Sd K D H ((.ref b, o) :: (.ref a, .l a (xs.set j (.m b))) :: T) σ ρ := by
  have hb := h.tm (.ref a, .l a xs) List.mem_cons_self
  cases hb with
  | l g1 g2 =>
    rename_i vs
    obtain ⟨u, hu, qu⟩ := g2.get e
    have hv := root_ref r qu
    subst hv
    have eq : vs.set j (.ref b) = vs := by
      obtain ⟨l, hl⟩ := List.getElem?_eq_some_iff.mp hu
      rw [← hl]
      exact List.set_getElem_self l
    have g3 : DenOs K D H vs (xs.set j (.m b)) := by
      have := g2.set (DenO.m (K := K) (D := D) (H := H) b) j
      rw [eq] at this
      exact this
    have pm : (fpT ((V.ref b, o) :: (V.ref a, Ow.l a (xs.set j (.m b))) :: T) ++ fpR ρ).Perm (fpT ((V.ref a, Ow.l a xs) :: T) ++ fpR ρ) := by
      refine List.Perm.append_right _ ?_
      show (o.fp ++ ((a :: fps (xs.set j (.m b))) ++ fpT T)).Perm ((a :: fps xs) ++ fpT T)
      rw [← List.append_assoc]
      refine List.Perm.append_right _ ?_
      refine List.perm_middle.trans ?_
      exact ((fps_mid (.m b) e rfl).symm).cons a
    refine .mk' h.ex (fun p hp => ?_) h.sl pm h.nd h.out
    rcases List.mem_cons.mp hp with z | z
    · subst z; exact qu
    · rcases List.mem_cons.mp z with z | z
      · subst z; exact .l g1 g3
      · exact h.tm p (List.mem_cons_of_mem _ z)
/-- .. and back -/
theorem Sd.unfocus {xs : List Ow} {j : Nat} {w : V} (h : Sd K D H ((w, o) :: (.ref a, .l a xs) :: T) σ ρ) (e : xs[j]? = some (.m b)) (r : o.root = some b) : Sd K D H ((.ref a, .l a (xs.set j o)) :: T) σ ρ := by
  have hb := h.tm (.ref a, .l a xs) (List.mem_cons_of_mem _ List.mem_cons_self)
  have ho := h.tm (w, o) List.mem_cons_self
  have hw := root_ref r ho
  subst hw
  cases hb with
  | l g1 g2 =>
    rename_i vs
    obtain ⟨u, hu, qu⟩ := g2.get e
    have hv : u = .ref b := by cases qu; rfl
    subst hv
    have eq : vs.set j (.ref b) = vs := by
      obtain ⟨l, hl⟩ := List.getElem?_eq_some_iff.mp hu
      rw [← hl]
      exact List.set_getElem_self l
    have g3 : DenOs K D H vs (xs.set j o) := by
      have := g2.set ho j
      rw [eq] at this
      exact this
    have hj : j < xs.length := (List.getElem?_eq_some_iff.mp e).1
    have e2 : (xs.set j o)[j]? = some o := by rw [List.getElem?_set_self hj]
    have e3 : (xs.set j o).set j (.m b) = xs := by
      rw [List.set_set]
      obtain ⟨l, hl⟩ := List.getElem?_eq_some_iff.mp e
      rw [← hl]
      exact List.set_getElem_self l
    have pm : (fpT ((V.ref a, Ow.l a (xs.set j o)) :: T) ++ fpR ρ).Perm (fpT ((V.ref b, o) :: (V.ref a, Ow.l a xs) :: T) ++ fpR ρ) := by
      refine List.Perm.append_right _ ?_
      show ((a :: fps (xs.set j o)) ++ fpT T).Perm (o.fp ++ ((a :: fps xs) ++ fpT T))
      rw [← List.append_assoc]
      refine List.Perm.append_right _ ?_
      have q := fps_mid (.m b) e2 rfl
      rw [e3] at q
      exact (q.cons a).trans List.perm_middle.symm
    refine .mk' h.ex (fun p hp => ?_) h.sl pm h.nd h.out
    rcases List.mem_cons.mp hp with z | z
    · subst z; exact .l g1 g3
    · exact h.tm p (List.mem_cons_of_mem _ (List.mem_cons_of_mem _ z))
/-- the last item of an owned list that stands as a temporary -/
theorem Sd.popl {ys : List Ow} (h : Sd K D H ((.ref b, .l b (ys ++ [o])) :: T) σ ρ) : ∃ vs y, H b = some (.lst vs) ∧ vs[vs.length - 1]? = some y ∧ Sd K D (upd H b (.lst vs.dropLast)) ((y, o) :: (.ref b, .l b ys) :: T) σ ρ := by
  have hb := h.tm (.ref b, .l b (ys ++ [o])) List.mem_cons_self
  cases hb with
  | l g1 g2 =>
    rename_i vs
    have hl := g2.length
    rw [List.length_append, List.length_singleton] at hl
    have e : (ys ++ [o])[vs.length - 1]? = some o := by rw [hl, Nat.add_sub_cancel, List.getElem?_append_right (Nat.le_refl _), Nat.sub_self]; rfl
    obtain ⟨y, hy, qy⟩ := g2.get e
    refine ⟨vs, y, g1, hy, ?_⟩
    have gt : DenOs K D H vs.dropLast ys := by
      have t := g2.take ys.length
      rw [List.take_left' rfl] at t
      rw [List.dropLast_eq_take, hl, Nat.add_sub_cancel]
      exact t
    have nd : ((b :: fps (ys ++ [o])) ++ fpT T ++ fpR ρ).Nodup := h.nd
    have fb : D b = none := h.out b (by show b ∈ ((b :: fps (ys ++ [o])) ++ fpT T) ++ fpR ρ; simp)
    have pm : (fpT ((y, o) :: (V.ref b, Ow.l b ys) :: T) ++ fpR ρ).Perm (fpT ((V.ref b, Ow.l b (ys ++ [o])) :: T) ++ fpR ρ) := by
      refine List.Perm.append_right _ ?_
      show (o.fp ++ ((b :: fps ys) ++ fpT T)).Perm ((b :: fps (ys ++ [o])) ++ fpT T)
      rw [fps_app]
      show (o.fp ++ ((b :: fps ys) ++ fpT T)).Perm ((b :: (fps ys ++ (o.fp ++ []))) ++ fpT T)
      rw [List.append_nil, ← List.append_assoc]
      refine List.Perm.append_right _ ?_
      exact (List.perm_append_comm (l₁ := o.fp) (l₂ := b :: fps ys))
    have nb : ∀ c ∈ (fps (ys ++ [o]) ++ fpT T) ++ fpR ρ, c ≠ b := fun c hc z => by
      have q : (b :: (fps (ys ++ [o]) ++ fpT T ++ fpR ρ)).Nodup := nd
      rw [List.nodup_cons] at q
      exact q.1 (by rw [← z]; exact hc)
    have mo : ∀ c ∈ o.fp, c ∈ fps (ys ++ [o]) := fun c hc => by rw [fps_app]; exact List.mem_append_right _ (by show c ∈ o.fp ++ []; simpa using hc)
    have my : ∀ c ∈ fps ys, c ∈ fps (ys ++ [o]) := fun c hc => by rw [fps_app]; exact List.mem_append_left _ hc
    refine .mk' (fun c u hc => by rw [upd_ne (fun z => by rw [z, fb] at hc; cases hc)]; exact h.ex c u hc) (fun q hq => ?_)
      (h.sl.keep (Ex.refl D) fun c hc u hu => by rw [upd_ne (nb c (List.mem_append_right _ hc))]; exact hu) pm h.nd h.out
    rcases List.mem_cons.mp hq with z | z
    · subst z; exact qy.keep (Ex.refl D) fun c hc u hu => by rw [upd_ne (nb c (by simp [mo c hc]))]; exact hu
    · rcases List.mem_cons.mp z with z | z
      · subst z
        exact .l upd_same (gt.keep (Ex.refl D) fun c hc u hu => by rw [upd_ne (nb c (by simp [my c hc]))]; exact hu)
      · exact (h.tm q (List.mem_cons_of_mem _ z)).keep (Ex.refl D) fun c hc u hu => by rw [upd_ne (nb c (by simp [mem_fpT z hc]))]; exact hu
theorem set_m {ρ : Rh} {i : Nat} {x : Option Ow} {a : Addr} {o : Ow} (e : ρ[i]? = some x) : (ρ.set i (some (.m a)))[i]? = some (some (.m a)) := by
  rw [List.getElem?_set_self (List.getElem?_eq_some_iff.mp e).1]
theorem tyv {xs : List V} (h : H a = some (.lst xs)) : tyV K "list" (.ref a) H := .inl ⟨rfl, _, sq_of h⟩
/-- xs.append(e) -/
theorem ev_app (h : ∃ a xs, ρ[i]? = some (some (.l a xs)) ∧ EvP K E te ρ (bnd (fun o ρ1 => ∃ xs1, ρ1[i]? = some (some (.l a xs1)) ∧ xs1.length < 100000 ∧ P (.ok (.d .non)) (ρ1.set i (some (.l a (xs1 ++ [o]))))) P)) : EvP K E (tBM K "list" rAppend (tVar i) (tCons te tNil)) ρ P := by
  intro D H T σ Q s k xo
  obtain ⟨a, xs, e, h⟩ := h
  obtain ⟨s1, vs, ha, hv⟩ := s.getl e
  refine ⟨.ref a, s1, tyv ha, ?_⟩
  refine h D H T σ _ s (fun y o ρ1 D1 H1 q1 g => ?_) (xo.sub0 fun _ _ _ z => z)
  obtain ⟨xs1, e1, hl, q⟩ := q1
  obtain ⟨_, g2⟩ := g.move e1 rfl
  obtain ⟨acc, a1, a2, g3⟩ := (g2.perm (List.Perm.swap _ _ _)).app
  have g4 := g3.back rfl (set_m (o := o) e1)
  rw [List.set_set] at g4
  exact ⟨a, acc, y, rfl, rfl, a1, sz_lt (by omega), k _ _ _ _ _ q (g4.push .non)⟩
theorem at_nat {xs : List V} {j : Nat} {w : V} (h : xs[j]? = some w) : atI xs (j : Int) = some w := by
  have hj : j < xs.length := (List.getElem?_eq_some_iff.mp h).1
  unfold atI
  rw [ixN_nat hj]
  exact h
/-- xs[j].pop(), xs and its items owned; j pure (it leaves the state) -/
theorem ev_pop2 (h : EvP K E tj ρ (bnd (fun y ρ1 => ρ1 = ρ ∧ ∃ a xs b ys j o, y = .d (.int ((j : Nat) : Int)) ∧ ρ[i]? = some (some (.l a xs)) ∧ xs[j]? = some (.l b (ys ++ [o])) ∧ P (.ok o) (ρ.set i (some (.l a (xs.set j (.l b ys)))))) P))
    (hi : ∃ a xs, ρ[i]? = some (some (.l a xs))) : EvP K E (tBM0 K "list" rPop (tOp (rIxL K) (tVar i) tj)) ρ P := by
  intro D H T σ Q s k xo
  obtain ⟨a0, xs0, e0⟩ := hi
  obtain ⟨s0, _⟩ := s.getl e0
  refine ⟨.ref a0, s0, ?_⟩
  refine h D H T σ _ s (fun y z ρ1 D1 H1 q1 g => ?_) (xo.sub0 fun _ _ _ z => z)
  obtain ⟨rfl, a, xs, b, ys, j, o, rfl, e, ej, q⟩ := q1
  rw [e0] at e
  cases e
  have hy := g.tm (y, _) List.mem_cons_self
  cases hy with
  | d hy =>
    cases hy
    obtain ⟨_, vs, ha, hv⟩ := g.pop.getl e0
    obtain ⟨_, g2⟩ := g.pop.move e0 rfl
    have g3 := g2.focus ej rfl
    obtain ⟨w, hw, qw⟩ := hv.get ej
    have hwr : w = .ref b := root_ref rfl qw
    subst hwr
    refine ⟨a0, vs, j, .ref b, rfl, rfl, sq_of ha, at_nat hw, ?_⟩
    obtain ⟨ws, y2, b1, b2, g4⟩ := g3.popl
    refine ⟨tyv b1, b, ws, y2, rfl, rfl, b1, b2, ?_⟩
    have hj : j < xs0.length := (List.getElem?_eq_some_iff.mp ej).1
    have g5 := (g4.perm ((List.Perm.swap _ _ _).trans (((List.Perm.swap _ _ _)).cons _))).unfocus (b := b) (j := j) (by rw [List.getElem?_set_self hj]) rfl
    rw [List.set_set] at g5
    have g6 := g5.back rfl (set_m (o := o) e0)
    rw [List.set_set] at g6
    exact k _ _ _ _ _ q g6
/-- xs.pop() -/
theorem ev_pop (h : ∃ a xs o, ρ[i]? = some (some (.l a (xs ++ [o]))) ∧ P (.ok o) (ρ.set i (some (.l a xs)))) : EvP K E (tBM0 K "list" rPop (tVar i)) ρ P := by
  intro D H T σ Q s k xo
  obtain ⟨a, xs, o, e, q⟩ := h
  obtain ⟨s1, vs, ha, hv⟩ := s.getl e
  refine ⟨.ref a, s1, tyv ha, ?_⟩
  obtain ⟨_, g2⟩ := s.move e rfl
  obtain ⟨ws, y2, b1, b2, g4⟩ := g2.popl
  have g5 := (g4.perm (List.Perm.swap _ _ _)).back rfl (set_m (o := o) e)
  rw [List.set_set] at g5
  exact ⟨a, ws, y2, rfl, rfl, b1, b2, k _ _ _ _ _ q g5⟩
/-- xs[j] = e -/
theorem sv_set {ti : TE} (h : EvP K E te ρ (bndS (fun o ρ1 => (∃ a xs, ρ1[i]? = some (some (.l a xs))) ∧ EvP K E ti ρ1 (bndS (fun y ρ2 => ρ2 = ρ1 ∧ ∃ (d : Dat) (a : Addr) (xs : List Dat) (j : Nat), o = .d d ∧ y = .d (.int ((j : Nat) : Int)) ∧ ρ1[i]? = some (some (.l a (xs.map Ow.d))) ∧ j < xs.length ∧ S (.nx (ρ1.set i (some (.l a ((xs.set j d).map Ow.d)))))) S)) S)) : SvP K E (tAsg te (gSub (tVar i) ti rSetL)) ρ S := by
  intro D H T σ En s w
  refine h D H T σ _ s (fun v o ρ1 D1 H1 q1 g => ?_) (.ofWd w fun _ _ _ z => z)
  obtain ⟨⟨a0, xs0, e0⟩, q1⟩ := q1
  obtain ⟨s0, _⟩ := g.getl e0
  refine ⟨.ref a0, s0, ?_⟩
  refine q1 D1 H1 _ σ _ g (fun y z ρ2 D2 H2 q2 g2 => ?_) (XOk.sub1 (XOk.ofWd w fun _ _ _ z => z) fun _ _ _ z => z)
  obtain ⟨rfl, d, a, xs, j, rfl, rfl, e, hj, q⟩ := q2
  rw [e0] at e
  cases e
  have hy := g2.tm (y, _) List.mem_cons_self
  have hd := g2.tm (v, _) (List.mem_cons_of_mem _ List.mem_cons_self)
  cases hy with
  | d hy =>
    cases hy
    cases hd with
    | d hd =>
      have g3 := g2.pop.pop
      obtain ⟨_, vs, ha, hv⟩ := g3.getl e0
      have hlen := hv.toAll.length
      refine ⟨a0, vs, (j : Int), j, rfl, rfl, ha, ixN_nat (by omega), w.nx _ D2 _ σ q ?_⟩
      have gn : DenOs K D2 H2 (vs.set j v) ((xs.set j d).map Ow.d) := DenOs.ofAll (hv.toAll.set hd j)
      have e1 := fpR_none e0
      have hl1 : i < ρ2.length := (List.getElem?_eq_some_iff.mp e0).1
      refine g3.write (L := fpT T) e0 gn (fun p hp => .inl hp) (fun b hb z => ?_) (by rw [fps_map]; exact List.Perm.refl _) ?_ (fun b hb => g3.out b (List.mem_append_left _ hb))
      · rw [fps_map] at hb
        have q3 : (fpT T ++ ((a0 :: fps (xs.map Ow.d)) ++ fpR (ρ2.set i none))).Nodup := (e1.append_left _).nodup_iff.mp g3.nd
        have q4 := (List.nodup_append.mp q3).2.2 b hb a0 (by simp)
        exact q4 z
      · have q3 : (fpT T ++ ((a0 :: fps (xs.map Ow.d)) ++ fpR (ρ2.set i none))).Nodup := (e1.append_left _).nodup_iff.mp g3.nd
        rw [fps_map] at q3
        exact q3
/-! dicts with tuple keys -/
theorem ev_dnewT (h : ∀ b, P (.ok (.t b [])) ρ) : EvP K E tDNewT ρ P := by
  intro D H T σ Q s k xo p hp
  refine k _ _ _ D _ (h p) ?_
  have g := s.newO hp (.dT [])
  refine ⟨g.ex, fun q hq => ?_, g.sl, ?_, fun c hc => ?_, g.tb⟩
  · rcases List.mem_cons.mp hq with z | z
    · subst z; exact .t upd_same .nil
    · exact g.tm q z
  · show (p :: ([] ++ fpT T ++ fpR ρ)).Nodup
    rw [List.nil_append, List.nodup_cons]
    exact ⟨fun z => s.nep hp p z rfl, s.nd⟩
  · rcases List.mem_cons.mp (show c ∈ p :: (fpT T ++ fpR ρ) from hc) with z | z
    · rw [z]; exact s.dnone hp
    · exact s.out c z
def keyD (k : List Key) : Dat := .tup (k.map fun x => match x with | .inl i => .int i | .inr s => .str s)
theorem den_key {k : List Key} (h : Den K D v (keyD k)) : ∃ b, v = .ref b ∧ D b = some (.tup (k.map kV)) := by
  unfold keyD at h
  cases h with
  | tup g1 g2 =>
    rename_i b xs
    refine ⟨b, rfl, ?_⟩
    have : ∀ {xs : List V} {k : List Key}, DenAll K D xs (k.map fun x => match x with | .inl i => Dat.int i | .inr s => Dat.str s) → xs = k.map kV := by
      intro xs k
      induction k generalizing xs with
      | nil => intro h; cases h; rfl
      | cons x k ih =>
        intro h
        cases h with
        | cons r t =>
          rw [ih t]
          cases x with
          | inl i => cases r; rfl
          | inr s => cases r; rfl
    rw [this g2] at g1
    exact g1
def valD (kvs : List (List Key × Dat)) (k : List Key) : Option Dat := (kvs.find? fun kv => decide (kv.1 = k)).map (·.2)
def putK' (kvs : List (List Key × Dat)) (k : List Key) (v : Dat) : List (List Key × Dat) :=
  if (kvs.any fun kv => decide (kv.1 = k)) = true then kvs.map (fun kv => if kv.1 = k then (kv.1, v) else kv) else kvs ++ [(k, v)]
theorem DenK.val {k : List Key} : ∀ {kvs : List (List Key × V)} {kds : List (List Key × Dat)}, DenK K D kvs kds →
    (valD kds k = none → valV kvs k = none) ∧ (∀ d, valD kds k = some d → ∃ v, valV kvs k = some v ∧ Den K D v d)
  | _, _, .nil => ⟨fun _ => rfl, fun d h => by cases h⟩
  | _, _, .cons (k := k0) (kvs := kvs) (kds := kds) r t => by
    obtain ⟨h1, h2⟩ := DenK.val (k := k) t
    by_cases e : k0 = k
    · subst e
      refine ⟨fun z => ?_, fun d z => ?_⟩
      · simp [valD, List.find?_cons] at z
      · simp [valD, List.find?_cons] at z
        subst z
        exact ⟨_, by simp [valV, List.find?_cons], r⟩
    · refine ⟨fun z => ?_, fun d z => ?_⟩
      · have z' : valD kds k = none := by simpa [valD, List.find?_cons, e] using z
        have := h1 z'
        simpa [valV, List.find?_cons, e] using this
      · have z' : valD kds k = some d := by simpa [valD, List.find?_cons, e] using z
        obtain ⟨v, g1, g2⟩ := h2 d z'
        exact ⟨v, by simpa [valV, List.find?_cons, e] using g1, g2⟩
theorem DenK.keys : ∀ {kvs : List (List Key × V)} {kds : List (List Key × Dat)}, DenK K D kvs kds → kvs.map (·.1) = kds.map (·.1)
  | _, _, .nil => rfl
  | _, _, .cons _ t => by rw [List.map_cons, List.map_cons, DenK.keys t]
theorem DenK.length {kvs : List (List Key × V)} {kds : List (List Key × Dat)} (h : DenK K D kvs kds) : kvs.length = kds.length := by
  have := congrArg List.length h.keys
  simpa using this
theorem DenK.put {k : List Key} {x : Dat} (q : Den K D v x) {kvs : List (List Key × V)} {kds : List (List Key × Dat)} (h : DenK K D kvs kds) : DenK K D (putK kvs k v) (putK' kds k x) := by
  have ea : (kvs.any fun kv => decide (kv.1 = k)) = (kds.any fun kv => decide (kv.1 = k)) := by
    have : ∀ {kvs : List (List Key × V)} {kds : List (List Key × Dat)}, DenK K D kvs kds → (kvs.any fun kv => decide (kv.1 = k)) = (kds.any fun kv => decide (kv.1 = k)) := by
      intro kvs kds h
      induction h with
      | nil => rfl
      | cons r t ih => rw [List.any_cons, List.any_cons, ih]
    exact this h
  unfold putK putK'
  rw [ea]
  by_cases c : (kds.any fun kv => decide (kv.1 = k)) = true
  · rw [if_pos c, if_pos c]
    clear ea c
    induction h with
    | nil => exact .nil
    | cons r t ih =>
      rename_i k0 _ _ _ _
      rw [List.map_cons, List.map_cons]
      by_cases e : k0 = k
      · rw [if_pos e, if_pos e]; exact .cons q ih
      · rw [if_neg e, if_neg e]; exact .cons r ih
  · rw [if_neg c, if_neg c]
    clear ea c
    induction h with
    | nil => exact .cons q .nil
    | cons r t ih => exact .cons r ih
/-- d.get(k, x), d in a slot -/
theorem ev_dget2 (hi : ∃ a kds, ρ[i]? = some (some (.t a kds))) (h : EvP K E ty ρ (bnd (fun y ρ1 => EvP K E tx ρ1 (bnd (fun z ρ2 => ∃ a kds k w, ρ[i]? = some (some (.t a kds)) ∧ ρ2[i]? = some (some (.t a kds)) ∧ y = .d (keyD k) ∧ z = .d w ∧ P (.ok (.d ((valD kds k).getD w))) ρ2) P)) P)) : EvP K E (tDGet2 (tVar i) ty tx) ρ P := by
  intro D H T σ Q s k xo
  obtain ⟨a0, kds0, e0⟩ := hi
  obtain ⟨s0, kvs0, h0, _⟩ := s.gett e0
  refine ⟨.ref a0, s0, a0, rfl, .inr ⟨kvs0, .inl h0⟩, ?_⟩
  refine h D H T σ _ s (fun u y ρ1 D1 H1 q1 s1 => ?_) (xo.sub0 fun _ _ _ z => z)
  refine q1 D1 H1 _ σ _ s1 (fun u2 z ρ2 D2 H2 q2 s2 => ?_) (xo.sub1 fun _ _ _ z => z)
  obtain ⟨a, kds, key, w, e1, e2, rfl, rfl, q⟩ := q2
  rw [e0] at e1
  cases e1
  have hy := s2.tm (u, _) (List.mem_cons_of_mem _ List.mem_cons_self)
  have hz := s2.tm (u2, _) List.mem_cons_self
  cases hy with
  | d hy =>
    cases hz with
    | d hz =>
      obtain ⟨b, rfl, hb⟩ := den_key hy
      have s3 := s2.pop.pop
      obtain ⟨_, kvs, hk, dk⟩ := s3.gett e2
      obtain ⟨v1, v2⟩ := dk.val (k := key)
      refine ⟨valV kvs key, DGet.t hk (s3.ex _ _ hb), k _ _ _ D2 H2 q (s3.push ?_)⟩
      cases hc : valD kds0 key with
      | none =>
        rw [v1 hc]
        exact hz
      | some d =>
        obtain ⟨v, g1, g2⟩ := v2 d hc
        rw [g1]
        exact g2
/-- d[k], there -/
theorem ev_dget (hi : ∃ a kds, ρ[i]? = some (some (.t a kds))) (h : EvP K E ty ρ (bnd (fun y ρ1 => ∃ a kds k w, ρ1[i]? = some (some (.t a kds)) ∧ ρ[i]? = some (some (.t a kds)) ∧ y = .d (keyD k) ∧ valD kds k = some w ∧ P (.ok (.d w)) ρ1) P)) : EvP K E (tDGet (tVar i) ty) ρ P := by
  intro D H T σ Q s k xo
  obtain ⟨a0, kds0, e0⟩ := hi
  obtain ⟨s0, kvs0, h0, _⟩ := s.gett e0
  refine ⟨.ref a0, s0, ?_⟩
  refine h D H T σ _ s (fun u y ρ1 D1 H1 q1 s1 => ?_) (xo.sub0 fun _ _ _ z => z)
  obtain ⟨a, kds, key, w, e1, e2, rfl, hw, q⟩ := q1
  rw [e0] at e2
  cases e2
  have hy := s1.tm (u, _) List.mem_cons_self
  cases hy with
  | d hy =>
    obtain ⟨b, rfl, hb⟩ := den_key hy
    have s3 := s1.pop
    obtain ⟨_, kvs, hk, dk⟩ := s3.gett e1
    obtain ⟨v1, v2⟩ := dk.val (k := key)
    obtain ⟨v, g1, g2⟩ := v2 w hw
    exact ⟨a0, v, rfl, by have := DGet.t (k := key) hk (s3.ex _ _ hb); rw [g1] at this; exact this, k _ _ _ D1 H1 q (s3.push g2)⟩
/-- d[k] = x, d in a slot -/
theorem sv_dput (h : EvP K E tv ρ (bndS (fun o ρ1 => (∃ a kds, ρ1[i]? = some (some (.t a kds))) ∧ EvP K E ty ρ1 (bndS (fun y ρ2 => ρ2 = ρ1 ∧ ∃ d a kds k, o = .d d ∧ y = .d (keyD k) ∧ ρ1[i]? = some (some (.t a kds)) ∧ kds.length < 100000 ∧ S (.nx (ρ1.set i (some (.t a (putK' kds k d)))))) S)) S)) : SvP K E (sDPut (tVar i) ty tv) ρ S := by
  intro D H T σ En s w
  refine h D H T σ _ s (fun v o ρ1 D1 H1 q1 g => ?_) (.ofWd w fun _ _ _ z => z)
  obtain ⟨⟨a0, kds0, e0⟩, q1⟩ := q1
  obtain ⟨s0, _⟩ := g.gett e0
  refine ⟨.ref a0, s0, ?_⟩
  refine q1 D1 H1 _ σ _ g (fun u z ρ2 D2 H2 q2 g2 => ?_) (XOk.sub1 (XOk.ofWd w fun _ _ _ z => z) fun _ _ _ z => z)
  obtain ⟨rfl, d, a, kds, key, rfl, rfl, e, hl, q⟩ := q2
  rw [e0] at e
  cases e
  have hy := g2.tm (u, _) List.mem_cons_self
  have hd := g2.tm (v, _) (List.mem_cons_of_mem _ List.mem_cons_self)
  cases hy with
  | d hy =>
    cases hd with
    | d hd =>
      obtain ⟨b, rfl, hb⟩ := den_key hy
      have g3 := g2.pop.pop
      obtain ⟨_, kvs, hk, dk⟩ := g3.gett e0
      refine ⟨a0, _, rfl, DPut.t hk (g3.ex _ _ hb) (sz_lt (by rw [dk.length]; exact hl)), w.nx _ D2 _ σ q ?_⟩
      have e1 := fpR_none e0
      have hl1 : i < ρ2.length := (List.getElem?_eq_some_iff.mp e0).1
      have fa : D2 a0 = none := g3.out a0 (List.mem_append_right _ (e1.mem_iff.mpr (List.mem_append_left _ List.mem_cons_self)))
      have nT : ∀ c ∈ fpT T ++ fpR (ρ2.set i none), c ≠ a0 := fun c hc z => by
        have q : (fpT T ++ (a0 :: fpR (ρ2.set i none))).Nodup := (e1.append_left _).nodup_iff.mp g3.nd
        have q2 : (a0 :: (fpT T ++ fpR (ρ2.set i none))).Nodup := List.perm_middle.nodup_iff.mp q
        rw [List.nodup_cons] at q2
        exact q2.1 (by rw [← z]; exact hc)
      have sl0 : Slots K D2 (upd H2 a0 (.dT (putK kvs key v))) σ (ρ2.set i none) := (g3.sl.none i).keep (Ex.refl D2) fun c hc u hu => by rw [upd_ne (nT c (List.mem_append_right _ hc))]; exact hu
      have sl1 := sl0.put s0 (o := .t a0 (putK' kds0 key d)) (.t upd_same (dk.put hd))
      rw [List.set_set] at sl1
      have pm : (fpT T ++ fpR (ρ2.set i (some (.t a0 (putK' kds0 key d))))).Perm (fpT T ++ fpR ρ2) := by
        refine List.Perm.append_left _ ((fpR_set _ hl1).trans ?_)
        exact e1.symm
      exact .mk' (fun c u hc => by rw [upd_ne (fun z => by rw [z, fa] at hc; cases hc)]; exact g3.ex c u hc)
        (fun p hp => (g3.tm p hp).keep (Ex.refl D2) fun c hc u hu => by rw [upd_ne (nT c (List.mem_append_left _ (mem_fpT hp hc)))]; exact hu) sl1 pm g3.nd g3.out
/-! several names at once -/
def gnames : List Nat → TGs
  | [] => gNil
  | i :: is => gCons (gName i) (gnames is)
def setAll (ρ : Rh) : List Nat → List Ow → Rh
  | i :: is, o :: os => setAll (ρ.set i (some o)) is os
  | _, _ => ρ
theorem gn_run : ∀ (is : List Nat) (vs : List V) (os : List Ow) (ρ : Rh) (σ : L2.St) (Q : L2.St → Hp → Prop), vs.length = os.length → os.length = is.length → (∀ i ∈ is, i < ρ.length) →
    Sd K D H (vs.zip os ++ T) σ ρ → (∀ σ', Sd K D H T σ' (setAll ρ is os) → Q σ' H) → gnames is vs σ H Q := by
  intro is
  induction is with
  | nil =>
    intro vs os ρ σ Q e1 e2 _ s k
    cases os with
    | cons o os => simp at e2
    | nil =>
      cases vs with
      | cons v vs => simp at e1
      | nil => exact ⟨rfl, k σ s⟩
  | cons i is ih =>
    intro vs os ρ σ Q e1 e2 hi s k
    cases os with
    | nil => simp at e2
    | cons o os =>
      cases vs with
      | nil => simp at e1
      | cons v vs =>
        refine ⟨v, vs, rfl, ?_⟩
        have g := Sd.toSlot (T := vs.zip os ++ T) s i (by rw [s.len]; exact hi i List.mem_cons_self)
        exact ih vs os _ _ Q (by simpa using e1) (by simpa using e2) (fun j hj => by rw [List.length_set]; exact hi j (List.mem_cons_of_mem _ hj)) g k
theorem sv_asgT (is : List Nat) {n : Nat} (h : AvP K E tas ρ (fun os ρ1 => os.length = n ∧ n = is.length ∧ (∀ i ∈ is, i < ρ1.length) ∧ n ≤ 1000 ∧ S (.nx (setAll ρ1 is os))) (bndS (fun _ _ => True) S)) : SvP K E (tAsg (tTup tas) (gTup K n (gnames is))) ρ S := by
  intro D H T σ En s w
  refine h D H T σ _ s (fun vs os ρ1 D1 H1 q1 e1 s1 => ?_) (.ofWd w fun _ _ _ z => z)
  obtain ⟨h1, h2, h3, h4, q⟩ := q1
  refine ⟨sz_of (by omega), fun p hp => ⟨p, vs, rfl, st_of upd_same, by omega, ?_⟩⟩
  exact gn_run is vs os ρ1 σ _ e1 (by omega) h3 (s1.newO hp _) fun σ' s2 => w.nx _ D1 _ σ' q s2
theorem sv_par {j : Nat} (h : AvP K E tas ρ (fun os ρ1 => ∃ o1 o2, os = [o1, o2] ∧ i < ρ1.length ∧ j < ρ1.length ∧ S (.nx ((ρ1.set i (some o1)).set j (some o2)))) (bndS (fun _ _ => True) S)) : SvP K E (tPar i j tas) ρ S := by
  intro D H T σ En s w
  refine h D H T σ _ s (fun vs os ρ1 D1 H1 q1 e1 s1 => ?_) (.ofWd w fun _ _ _ z => z)
  obtain ⟨o1, o2, rfl, h1, h2, q⟩ := q1
  match vs, e1 with
  | [v, u], _ =>
    refine ⟨v, u, rfl, w.nx _ D1 H1 _ q ?_⟩
    have g := Sd.toSlot (T := (u, o2) :: T) s1 i (by rw [s1.len]; exact h1)
    exact g.toSlot j (by rw [g.len, List.length_set]; exact h2)
/-- x += e of ints -/
theorem sv_aug {f : Int → Int → Int} (h : EvP K E te ρ (bndS (fun y ρ1 => ∃ m n, ρ[i]? = some (some (.d (.int m))) ∧ y = .d (.int n) ∧ i < ρ1.length ∧ S (.nx (ρ1.set i (some (.d (.int (f m n))))))) S)) (hi : ∃ m, ρ[i]? = some (some (.d (.int m)))) : SvP K E (tAug i te (ipI f)) ρ S := by
  intro D H T σ En s w
  obtain ⟨m0, e0⟩ := hi
  obtain ⟨v, h1, h2⟩ := s.getd e0
  cases h2
  refine ⟨.int m0, h1, ?_⟩
  refine h D H T σ _ s (fun u y ρ1 D1 H1 q1 g => ?_) (.ofWd w fun _ _ _ z => z)
  obtain ⟨m, n, e1, rfl, hl, q⟩ := q1
  rw [e0] at e1
  cases e1
  have hy := g.tm (u, _) List.mem_cons_self
  cases hy with
  | d hy =>
    cases hy
    exact ⟨m0, n, rfl, rfl, w.nx _ D1 H1 _ q ((g.pop.push (.int (f m0 n))).toSlot i (by rw [g.len]; exact hl))⟩
end
end DL

/-! ### H. defs by name -/
namespace DL
open PySem L2 Evl PySem.Spec PyProof.Rows
theorem units65 {A : Around} {k : Nat} (hr : Room k A) : A.units + 65 < cLine := by have := hr.un; omega
theorem units64 {A : Around} {k : Nat} (hr : Room k A) : A.units + 64 < cLine := by have := hr.un; omega
section
variable (P : Program) (w : World) (K : PySem.W.Frag) [HasTabs K] (mg : Str → Option Value) (base : Heap)
/-- a def of the text: its name stands for it, its body is known -/
structure Dfn (x qual : Str) (st : Stmt) (ps : List Str) : Prop where
  ex : ∃ (f : Addr) (fd : FuncData), mg x = some (.ref f) ∧ PySem.W.keepIn K (.ref f) = true ∧ Binds K fd ps [] ∧ Fun K x qual st f fd
/-- .. its promise -/
structure Ok (k : Nat) (x : Str) (ps : List Str) (R : Pr) : Prop where
  ex : ∃ (f : Addr) (fd : FuncData), mg x = some (.ref f) ∧ PySem.W.keepIn K (.ref f) = true ∧ Binds K fd ps [] ∧ FnOk P w K mg base CX0 k f fd ps (spOf K R)
/-- a class by its __init__ -/
structure Cfn (x qual : Str) (st : Stmt) (ps : List Str) (C : Addr) : Prop where
  ex : ∃ (f : Addr) (fd : FuncData), mg x = some (.ref C) ∧ Mk K C f ∧ Binds K fd ps [] ∧ Fun K "__init__" qual st f fd
structure OkC (k : Nat) (x : Str) (ps : List Str) (C : Addr) (R : Pr) : Prop where
  ex : ∃ (f : Addr) (fd : FuncData), mg x = some (.ref C) ∧ Mk K C f ∧ Binds K fd ps [] ∧ FnOk P w K mg base CX0 k f fd ps (spOf K R)
end
section
variable {X : Cx} {k : Nat} {x : Str} {ps : List Str} {R : Pr} {p pos : Pos} {e : Expr} {es : List Expr} {t : TA} {C : Addr}
theorem pe_fn {P : Program} {w : World} {K : PySem.W.Frag} [HasTabs K] {mg : Str → Option Value} {base : Heap} (O : Ok P w K mg base k x ps R) (hX : X.prog = P ∧ X.w = w ∧ X.K = K ∧ X.mg = mg ∧ X.base = base) (hr : Room k X.A) (hg : Gl X x) (ha : PA X (e :: es) t) (hdb : (x == ("__debug__" : Str)) = false := by decide)
    (he : starEach (e :: es) X.env = (false, eval e X.env) :: starEach es X.env := by rfl) (hpl : (backTo pos (starEach es X.env)).any (·.1) = false := by rfl) : PE X (.Call (.Name x p) (e :: es) [] pos) (tCall (spOf K R) [] E0 t) := by
  obtain ⟨f, fd, hm, hk, hb, F⟩ := O.ex
  obtain ⟨rfl, rfl, rfl, rfl, rfl⟩ := hX
  exact pe_call F hr hg hm hk hb .nil pass0 ha hdb he hpl
theorem pe_cls {P : Program} {w : World} {K : PySem.W.Frag} [HasTabs K] {mg : Str → Option Value} {base : Heap} (O : OkC P w K mg base k x ps C R) (hX : X.prog = P ∧ X.w = w ∧ X.K = K ∧ X.mg = mg ∧ X.base = base) (hr : Room (k + 1) X.A) (hg : Gl X x) (ha : PA X (e :: es) t) (hdb : (x == ("__debug__" : Str)) = false := by decide)
    (he : starEach (e :: es) X.env = (false, eval e X.env) :: starEach es X.env := by rfl) (hpl : (backTo pos (starEach es X.env)).any (·.1) = false := by rfl) : PE X (.Call (.Name x p) (e :: es) [] pos) (tMake C (spOf K R) [] E0 t) := by
  obtain ⟨f, fd, hm, hk, hb, F⟩ := O.ex
  obtain ⟨rfl, rfl, rfl, rfl, rfl⟩ := hX
  exact pe_make hk F hr hg hm hb .nil pass0 ha hdb he hpl
theorem pe_fldK {K : PySem.W.Frag} [HasTabs K] {f : Str} {ta : TE} (hK : X.K = K) (he : PE X e ta) (hb : attributeBase e f X.env (eval e X.env) = eval e X.env) : PE X (.Attribute e f pos) (tFld K ta f) := by
  subst hK
  exact pe_fld he hb
theorem ps_fldK {K : PySem.W.Frag} [HasTabs K] {f : Str} {o value : Expr} {ta tv : TE} {pos' : Pos} (hK : X.K = K) (ha : PE X o ta) (hv : PE X value tv) (hs : swapsWith value (some (.Attribute o f pos')) pos.line X.env = pure false) : PS X (.Assign [.Attribute o f pos'] value pos) (sFld K ta tv f) := by
  subst hK
  exact ps_fld ha hv hs
theorem pe_bm0K {K : PySem.W.Frag} [HasTabs K] {o : Expr} {to : TE} {name : Str} {apos cpos : Pos} {T id : String} {r : V → List V → Hp → VK → Prop} (hK : X.K = K) (pa : PlainAttrs T) (slot : Slot T name id) (hty : typeOf (.builtin id) = pure (.type "method_descriptor")) (hm : MtR X id r) (ho : PE X o to)
    (hbase : attributeBase o name X.env (eval o X.env) = eval o X.env := by rfl) (hline : (apos.endLine == cpos.line) = true := by rfl) : PE X (.Call (.Attribute o name apos) [] [] cpos) (tBM0 K T r to) := by
  subst hK
  exact pe_bm0 pa slot hty hm ho hbase hline
theorem pe_bmK {K : PySem.W.Frag} [HasTabs K] {o : Expr} {to : TE} {name : Str} {apos cpos : Pos} {T id : String} {r : V → List V → Hp → VK → Prop} (hK : X.K = K) (pa : PlainAttrs T) (slot : Slot T name id) (hty : typeOf (.builtin id) = pure (.type "method_descriptor")) (hm : MtR X id r) (ho : PE X o to) (ha : PA X (e :: es) t)
    (hbase : attributeBase o name X.env (eval o X.env) = eval o X.env := by rfl)
    (hfew : ((backTo cpos (starEach (e :: es) X.env)).all (fun x => !x.1) && (backToKw cpos (keywordEach [] X.env)).all (fun x => x.1.isSome)
      && decide ((e :: es).length + ([] : List Keyword).length + (if ([] : List Keyword).isEmpty then 0 else 1) < 30)) = true := by rfl)
    (hline : (apos.endLine == cpos.line) = true := by rfl) (hs : starEach (e :: es) X.env = (false, eval e X.env) :: starEach es X.env := by rfl) (hplain : (backTo cpos (starEach es X.env)).any (·.1) = false := by rfl) :
    PE X (.Call (.Attribute o name apos) (e :: es) [] cpos) (tBM K T r to t) := by
  subst hK
  exact pe_bm pa slot hty hm ho ha hbase hfew hline hs hplain
end
section
variable {P : Program} {w : World} {K : PySem.W.Frag} [HasTabs K] {mg : Str → Option Value} {base : Heap}
theorem Dfn.ok {x qual : Str} {st : Stmt} {N ps : List Str} {k : Nat} {R : Pr} (F : Dfn K mg x qual st ps) (S : FnScope N ps (defScope st)) (hl : ps.length ≤ N.length) (len : ∀ os Pp, R os Pp → os.length = ps.length)
    (noex : ∀ os Pp, R os Pp → R os (fun r us => (match r with | .ok _ => True | .ex _ _ => False) ∧ Pp r us))
    (hbody : ∀ (f : Addr) (cdv : Value) (A : Around) (outer : List Env) (s : Shared) (H : Hp) (E : XK), Room k (A.deeper (PyProof.Rows.envOfC qual (defScope st) s.heap.objs.size f cdv)) →
      ∃ t, PSs (cxOf CX0 P w K mg base N qual (defScope st) f cdv A outer s H E).nox (defBody st) t ∧ ∀ os Pp, R os Pp → SvP K E0 t (os.map some ++ List.replicate (N.length - os.length) none) (retS os Pp)) : Ok P w K mg base (k + 1) x ps R := by
  obtain ⟨f, fd, h1, h2, h3, h4⟩ := F.ex
  exact ⟨f, fd, h1, h2, h3, def_ok h4 S hl len (hbody f) noex⟩
theorem Cfn.ok {x qual : Str} {st : Stmt} {N ps : List Str} {k : Nat} {R : Pr} {C : Addr} (F : Cfn K mg x qual st ps C) (S : FnScope N ps (defScope st)) (hl : ps.length ≤ N.length) (len : ∀ os Pp, R os Pp → os.length = ps.length)
    (noex : ∀ os Pp, R os Pp → R os (fun r us => (match r with | .ok _ => True | .ex _ _ => False) ∧ Pp r us))
    (hbody : ∀ (f : Addr) (cdv : Value) (A : Around) (outer : List Env) (s : Shared) (H : Hp) (E : XK), Room k (A.deeper (PyProof.Rows.envOfC qual (defScope st) s.heap.objs.size f cdv)) →
      ∃ t, PSs (cxOf CX0 P w K mg base N qual (defScope st) f cdv A outer s H E).nox (defBody st) t ∧ ∀ os Pp, R os Pp → SvP K E0 t (os.map some ++ List.replicate (N.length - os.length) none) (retS os Pp)) : OkC P w K mg base (k + 1) x ps C R := by
  obtain ⟨f, fd, h1, h2, h3, h4⟩ := F.ex
  exact ⟨f, fd, h1, h2, h3, def_ok h4 S hl len (hbody f) noex⟩
end
/-- a promise told by a function: what is asked of the arguments, what comes, what becomes of them -/
def fnR (A : List Ow → Ow → List Ow → Prop) : Pr := fun os P => ∃ o us, A os o us ∧ P (.ok o) us
theorem fnR_noex {A : List Ow → Ow → List Ow → Prop} (os : List Ow) (Pp : Re → List Ow → Prop) (h : fnR A os Pp) : fnR A os (fun r us => (match r with | .ok _ => True | .ex _ _ => False) ∧ Pp r us) := by
  obtain ⟨o, us, a, q⟩ := h
  exact ⟨o, us, a, trivial, q⟩
/-- a pure def of data: its arguments stay -/
def pureR (A : List Dat → Dat → Prop) : Pr := fun os P => ∃ ds d, os = ds.map Ow.d ∧ A ds d ∧ P (.ok (.d d)) (ds.map Ow.d)
theorem pureR_noex {A : List Dat → Dat → Prop} (os : List Ow) (Pp : Re → List Ow → Prop) (h : pureR A os Pp) : pureR A os (fun r us => (match r with | .ok _ => True | .ex _ _ => False) ∧ Pp r us) := by
  obtain ⟨ds, d, e, a, q⟩ := h
  exact ⟨ds, d, e, a, trivial, q⟩
theorem bks_d : ∀ (ds : List Dat) (ρ : Rh), bks (ds.map Ow.d) ρ = ρ
  | [], _ => rfl
  | _ :: ds, ρ => bks_d ds ρ
/-- a call of a pure def -/
theorem ev_pure {K : PySem.W.Frag} [HasTabs K] {E : XK} {tas : TA} {ρ : Rh} {P : EPost} {A : List Dat → Dat → Prop} (h : AvP K E tas ρ (fun os ρ1 => ∃ ds d, os = ds.map Ow.d ∧ A ds d ∧ P (.ok (.d d)) ρ1) P) : EvP K E (tCall (spOf K (pureR A)) [] E tas) ρ P := by
  refine ev_call ?_
  intro D H T σ Q s k xo
  exact h D H T σ Q s (fun vs os ρ' D' H' q => k vs os ρ' D' H' (by
    obtain ⟨ds, d, e, a, q⟩ := q
    exact ⟨ds, d, e, a, by show P (.ok (.d d)) (bks (ds.map Ow.d) ρ'); rw [bks_d]; exact q⟩)) xo
theorem ev_fnr {K : PySem.W.Frag} [HasTabs K] {E : XK} {tas : TA} {ρ : Rh} {P : EPost} {A : List Ow → Ow → List Ow → Prop} (h : AvP K E tas ρ (fun os ρ1 => ∃ o us, A os o us ∧ P (.ok o) (bks us ρ1)) P) : EvP K E (tCall (spOf K (fnR A)) [] E tas) ρ P := ev_call h
theorem pms_d : ∀ (ds : List Dat) (ρ : Rh), ds.length ≤ ρ.length → Pms (ds.map Ow.d) ρ (ds.map Ow.d)
  | [], _, _ => .nil
  | _ :: ds, [], h => by simp at h
  | _ :: ds, x :: ρ, h => .dat (pms_d ds ρ (by simpa using h))
end DL

/-! ### I. forms that run by themselves -/
namespace DL
open PySem L2 Evl PySem.Spec PyProof.Rows
section
variable {K : PySem.W.Frag} [HasTabs K] {E : XK} {te ta tb tc td ty tv tx : TE} {tt tu : TT} {tas : TA} {ts tw : TS} {ρ : Rh} {P P' : EPost} {S : SPost} {o : Ow} {i : Nat}
theorem bnd_ok {k : Ow → Rh → Prop} (h : k o ρ) : bnd k P (.ok o) ρ := h
theorem bndS_ok {k : Ow → Rh → Prop} (h : k o ρ) : bndS k S (.ok o) ρ := h
theorem onE_ok {k : Ow → Rh → Prop} (h : k o ρ) : onE k (.ok o) ρ := h
theorem seq_nx {k : Rh → Prop} (h : k ρ) : seqS k S (.nx ρ) := h
theorem seq_rt {k : Rh → Prop} (h : S (.rt o ρ)) : seqS k S (.rt o ρ) := h
theorem seq_bk {k : Rh → Prop} (h : S (.bk ρ)) : seqS k S (.bk ρ) := h
theorem seq_ct {k : Rh → Prop} (h : S (.ct ρ)) : seqS k S (.ct ρ) := h
theorem onT_rt {k : Rh → Prop} (h : S (.rt o ρ)) : onT k S (.rt o ρ) := h
theorem onT_bk {k : Rh → Prop} (h : S (.nx ρ)) : onT k S (.bk ρ) := h
theorem onT_nx {k : Rh → Prop} {ρ' : Rh} (w : Wk ρ ρ') (h : k ρ') : onT k S (.nx ρ) := ⟨ρ', w, h⟩
theorem onT_ct {k : Rh → Prop} {ρ' : Rh} (w : Wk ρ ρ') (h : k ρ') : onT k S (.ct ρ) := ⟨ρ', w, h⟩
theorem resS_nx {os : List Ow} (h : S (.nx (bks os ρ))) : resS os S (.nx ρ) := h
theorem resS_rt {os : List Ow} (h : S (.rt o (bks os ρ))) : resS os S (.rt o ρ) := h
theorem ret_rt {os us : List Ow} {Pp : Re → List Ow → Prop} (m : Pms os ρ us) (h : Pp (.ok o) us) : retS os Pp (.rt o ρ) := ⟨us, m, h⟩
theorem ret_nx {os us : List Ow} {Pp : Re → List Ow → Prop} (m : Pms os ρ us) (h : Pp (.ok (.d .non)) us) : retS os Pp (.nx ρ) := ⟨us, m, h⟩
/-- ints in, an int out, a truth out -/
theorem ev_oZ0 {f : Int → Int → Int} (h : EvP K E ta ρ (bnd (fun x ρ1 => EvP K E tb ρ1 (bnd (fun y ρ2 => ∃ i j, x = .d (.int i) ∧ y = .d (.int j) ∧ P (.ok (.d (.int (f i j)))) ρ2) P)) P)) : EvP K E (tOp (rI0 fun i j => V.int (f i j)) ta tb) ρ P := by
  refine ev_op ?_
  refine h.mono fun r ρ1 q => ?_
  cases r with
  | ex C fs => exact q
  | ok x =>
    refine EvP.mono (P := _) q fun r ρ2 q => ?_
    cases r with
    | ex C fs => exact q
    | ok y =>
      obtain ⟨i, j, rfl, rfl, q⟩ := q
      exact ⟨rfl, rfl, _, aop_I0 rfl rfl, q⟩
theorem ev_oB0 {f : Int → Int → Bool} (h : EvP K E ta ρ (bnd (fun x ρ1 => EvP K E tb ρ1 (bnd (fun y ρ2 => ∃ i j, x = .d (.int i) ∧ y = .d (.int j) ∧ P (.ok (.d (.bl (f i j)))) ρ2) P)) P)) : EvP K E (tOp (rI0 fun i j => V.bl (f i j)) ta tb) ρ P := by
  refine ev_op ?_
  refine h.mono fun r ρ1 q => ?_
  cases r with
  | ex C fs => exact q
  | ok x =>
    refine EvP.mono (P := _) q fun r ρ2 q => ?_
    cases r with
    | ex C fs => exact q
    | ok y =>
      obtain ⟨i, j, rfl, rfl, q⟩ := q
      exact ⟨rfl, rfl, _, aop_I0 rfl rfl, q⟩
theorem ev_oZ {C : Int → Int → Prop} {f : Int → Int → Int} (h : EvP K E ta ρ (bnd (fun x ρ1 => EvP K E tb ρ1 (bnd (fun y ρ2 => ∃ i j, x = .d (.int i) ∧ y = .d (.int j) ∧ C i j ∧ P (.ok (.d (.int (f i j)))) ρ2) P)) P)) : EvP K E (tOp (rI C fun i j => V.int (f i j)) ta tb) ρ P := by
  refine ev_op ?_
  refine h.mono fun r ρ1 q => ?_
  cases r with
  | ex C fs => exact q
  | ok x =>
    refine EvP.mono (P := _) q fun r ρ2 q => ?_
    cases r with
    | ex C fs => exact q
    | ok y =>
      obtain ⟨i, j, rfl, rfl, c, q⟩ := q
      exact ⟨rfl, rfl, _, aop_I rfl rfl c, q⟩
theorem ev_neg {f : Int → Int} (h : EvP K E ta ρ (bnd (fun x ρ1 => ∃ i, x = .d (.int i) ∧ P (.ok (.d (.int (f i)))) ρ1) P)) : EvP K E (tUn (rU fun i => V.int (f i)) ta) ρ P := by
  refine ev_un ?_
  refine h.mono fun r ρ1 q => ?_
  cases r with
  | ex C fs => exact q
  | ok x =>
    obtain ⟨i, rfl, q⟩ := q
    exact ⟨rfl, _, ⟨rfl, fun H v Q h q => by cases h; exact ⟨i, rfl, q⟩⟩, q⟩
theorem ev_isN (h : EvP K E ta ρ (bnd (fun x ρ1 => ∃ d b, x = .d d ∧ (match d with | .non => true | _ => false) = b ∧ P (.ok (.d (.bl b))) ρ1) P)) : EvP K E (tOp rIsN ta (tC .non)) ρ P := by
  refine ev_op ?_
  refine h.mono fun r ρ1 q => ?_
  cases r with
  | ex C fs => exact q
  | ok x =>
    obtain ⟨d, b, rfl, e, q⟩ := q
    exact ev_n ⟨rfl, rfl, _, aop_isN e, q⟩
theorem ev_notN (h : EvP K E ta ρ (bnd (fun x ρ1 => ∃ d b, x = .d d ∧ (match d with | .non => false | _ => true) = b ∧ P (.ok (.d (.bl b))) ρ1) P)) : EvP K E (tOp rNotN ta (tC .non)) ρ P := by
  refine ev_op ?_
  refine h.mono fun r ρ1 q => ?_
  cases r with
  | ex C fs => exact q
  | ok x =>
    obtain ⟨d, b, rfl, e, q⟩ := q
    exact ev_n ⟨rfl, rfl, _, aop_notN e, q⟩
theorem ev_neI (h : EvP K E ta ρ (bnd (fun x ρ1 => EvP K E tb ρ1 (bnd (fun y ρ2 => ∃ i j, x = .d (.int i) ∧ y = .d (.int j) ∧ P (.ok (.d (.bl (!decide (i = j))))) ρ2) P)) P)) : EvP K E (tOp rNe ta tb) ρ P := by
  refine ev_op ?_
  refine h.mono fun r ρ1 q => ?_
  cases r with
  | ex C fs => exact q
  | ok x =>
    refine EvP.mono (P := _) q fun r ρ2 q => ?_
    cases r with
    | ex C fs => exact q
    | ok y =>
      obtain ⟨i, j, rfl, rfl, q⟩ := q
      exact ⟨rfl, rfl, _, aop_neI, q⟩
theorem ev_eqI (h : EvP K E ta ρ (bnd (fun x ρ1 => EvP K E tb ρ1 (bnd (fun y ρ2 => ∃ i j, x = .d (.int i) ∧ y = .d (.int j) ∧ P (.ok (.d (.bl (decide (i = j))))) ρ2) P)) P)) : EvP K E (tOp rEq ta tb) ρ P := by
  refine ev_op ?_
  refine h.mono fun r ρ1 q => ?_
  cases r with
  | ex C fs => exact q
  | ok x =>
    refine EvP.mono (P := _) q fun r ρ2 q => ?_
    cases r with
    | ex C fs => exact q
    | ok y =>
      obtain ⟨i, j, rfl, rfl, q⟩ := q
      exact ⟨rfl, rfl, _, aop_eqI, q⟩
/-- two comparisons in a row, of ints -/
theorem ev_chain {f g : Int → Int → Bool} (h : EvP K E ta ρ (bnd (fun x ρ1 => EvP K E tb ρ1 (bnd (fun y ρ2 => ∃ i j, x = .d (.int i) ∧ y = .d (.int j) ∧ (f i j = true → EvP K E tc ρ2 (bnd (fun z ρ3 => ∃ k, z = .d (.int k) ∧ P (.ok (.d (.bl (g j k)))) ρ3) P)) ∧ (f i j = false → P (.ok (.d (.bl false))) ρ2)) P)) P)) :
    EvP K E (tChain (rI0 fun i j => V.bl (f i j)) (rI0 fun i j => V.bl (g i j)) ta tb tc) ρ P := by
  intro D H T σ Q s k xo
  refine h D H T σ _ s (fun v x ρ1 D1 H1 q1 s1 => ?_) (xo.sub0 fun _ _ _ z => z)
  refine q1 D1 H1 _ σ _ s1 (fun w y ρ2 D2 H2 q2 s2 => ?_) (xo.sub1 fun _ _ _ z => z)
  obtain ⟨i, j, rfl, rfl, h1, h2⟩ := q2
  have hx := s2.tm (v, _) (List.mem_cons_of_mem _ List.mem_cons_self)
  have hy := s2.tm (w, _) List.mem_cons_self
  cases hx with
  | d hx =>
    cases hy with
    | d hy =>
      cases hx
      cases hy
      refine ⟨i, j, rfl, rfl, f i j, rfl, ?_⟩
      cases hf : f i j with
      | true =>
        rw [if_pos rfl]
        refine h1 hf D2 H2 _ σ _ s2.pop.pop (fun u z ρ3 D3 H3 q3 s3 => ?_) (xo.sub0 fun _ _ _ z => z)
        obtain ⟨k', rfl, q⟩ := q3
        have hz := s3.tm (u, _) List.mem_cons_self
        cases hz with
        | d hz =>
          cases hz
          exact ⟨j, k', rfl, rfl, k _ _ _ D3 H3 q (s3.pop.push (.bl _))⟩
      | false =>
        rw [if_neg Bool.false_ne_true]
        exact k _ _ _ D2 H2 (h2 hf) (s2.pop.pop.push (.bl _))
theorem tv_yes (q : P (.ok (.d (.bl true))) ρ) : TvP K E tYes ρ P := fun D H T σ Q s k _ => k true ρ D H q s
theorem AvP.mono {Pa Pb : List Ow → Rh → Prop} (h : AvP K E tas ρ Pa P) (m : ∀ os ρ', Pa os ρ' → Pb os ρ') : AvP K E tas ρ Pb P := fun D H T σ Q s k x => h D H T σ Q s (fun vs os ρ' D' H' q => k vs os ρ' D' H' (m _ _ q)) x
theorem ev_isi (h : AvP K E tas ρ (fun os ρ1 => ∃ x n m r, os = [.d x, .d (.ty m)] ∧ x.tyn = some n ∧ kitB n m = some r ∧ P (.ok (.d (.bl r))) ρ1) P) : EvP K E (tCB (rIsi K) tas) ρ P :=
  ev_cb (h.mono fun os ρ1 ⟨x, n, m, r, e, h1, h2, q⟩ => by subst e; exact ⟨rfl, _, acb_isi h1 h2, q⟩)
theorem ev_isiT (h : AvP K E tas ρ (fun os ρ1 => ∃ x n m1 m2 r1 r2, os = [.d x, .d (.tup [.ty m1, .ty m2])] ∧ x.tyn = some n ∧ kitB n m1 = some r1 ∧ kitB n m2 = some r2 ∧ P (.ok (.d (.bl (r1 || r2)))) ρ1) P) : EvP K E (tCB (rIsiT K) tas) ρ P :=
  ev_cb (h.mono fun os ρ1 ⟨x, n, m1, m2, r1, r2, e, h1, h2, h3, q⟩ => by subst e; exact ⟨rfl, _, acb_isiT h1 h2 h3, q⟩)
theorem ev_len (h : AvP K E tas ρ (fun os ρ1 => ∃ x t ds, os = [.d x] ∧ x.seq = some (t, ds) ∧ P (.ok (.d (.int ds.length))) ρ1) P) : EvP K E (tCB (rLenQ K) tas) ρ P :=
  ev_cb (h.mono fun os ρ1 ⟨x, t, ds, e, h1, q⟩ => by subst e; exact ⟨rfl, _, acb_len h1, q⟩)
theorem ev_lenS (h : AvP K E tas ρ (fun os ρ1 => ∃ ns, os = [.d (.scr ns)] ∧ P (.ok (.d (.int ns.length))) ρ1) P) : EvP K E (tCB (rLenQ K) tas) ρ P :=
  ev_cb (h.mono fun os ρ1 ⟨ns, e, q⟩ => by subst e; exact ⟨rfl, _, acb_lenS, q⟩)
theorem dats_len : ∀ os : List Ow, (dats os).length = os.length
  | [] => rfl
  | _ :: os => by
    show (dats os).length + 1 = os.length + 1
    rw [dats_len os]
/-- len of an owned list -/
theorem ev_lenO (h : AvP K E tas ρ (fun os ρ1 => ∃ a xs, os = [.l a xs] ∧ okRs xs = true ∧ P (.ok (.d (.int xs.length))) (bk (.l a xs) ρ1)) P) : EvP K E (tCB (rLenQ K) tas) ρ P :=
  ev_cb (h.mono fun os ρ1 ⟨a, xs, e, h1, q⟩ => by
    subst e
    refine ⟨by show (okRs xs && true) = true; rw [h1]; rfl, .int xs.length, ?_, q⟩
    have := acb_len (K := K) (x := .lst (dats xs)) (t := false) (ds := dats xs) rfl
    rw [dats_len] at this
    exact this)
theorem ev_all (h : AvP K E tas ρ (fun os ρ1 => ∃ bs : List Bool, os = [.d (.lst (bs.map Dat.bl))] ∧ P (.ok (.d (.bl (bs.all id)))) ρ1) P) : EvP K E (tCB (rAll K) tas) ρ P :=
  ev_cb (h.mono fun os ρ1 ⟨bs, e, q⟩ => by subst e; exact ⟨rfl, _, acb_all, q⟩)
theorem ev_sum (h : AvP K E tas ρ (fun os ρ1 => ∃ ns : List Int, os = [.d (.lst (ns.map Dat.int))] ∧ P (.ok (.d (.int ns.sum))) ρ1) P) : EvP K E (tCB (rSum K) tas) ρ P :=
  ev_cb (h.mono fun os ρ1 ⟨bs, e, q⟩ => by subst e; exact ⟨rfl, _, acb_sum, q⟩)
theorem ev_gcd (h : AvP K E tas ρ (fun os ρ1 => ∃ a b : Int, os = [.d (.int a), .d (.int b)] ∧ P (.ok (.d (.int ((Nat.gcd a.natAbs b.natAbs : Nat) : Int)))) ρ1) P) : EvP K E (tCB rGcd tas) ρ P :=
  ev_cb (h.mono fun os ρ1 ⟨a, b, e, q⟩ => by subst e; exact ⟨rfl, _, acb_gcd, q⟩)
theorem ev_lcm (h : AvP K E tas ρ (fun os ρ1 => ∃ a b : Int, os = [.d (.int a), .d (.int b)] ∧ a.natAbs < 2 ^ 64 ∧ b.natAbs < 2 ^ 64 ∧ P (.ok (.d (.int ((Nat.lcm a.natAbs b.natAbs : Nat) : Int)))) ρ1) P) : EvP K E (tCB rLcm tas) ρ P :=
  ev_cb (h.mono fun os ρ1 ⟨a, b, e, h1, h2, q⟩ => by subst e; exact ⟨rfl, _, acb_lcm h1 h2, q⟩)
theorem ev_abs (h : AvP K E tas ρ (fun os ρ1 => ∃ a : Int, os = [.d (.int a)] ∧ P (.ok (.d (.int (if a < 0 then -a else a)))) ρ1) P) : EvP K E (tCB rAbs tas) ρ P :=
  ev_cb (h.mono fun os ρ1 ⟨a, e, q⟩ => by subst e; exact ⟨rfl, _, acb_abs, q⟩)
theorem ev_int1 (h : AvP K E tas ρ (fun os ρ1 => ∃ a : Int, os = [.d (.int a)] ∧ P (.ok (.d (.int a))) ρ1) P) : EvP K E (tCB rInt1 tas) ρ P :=
  ev_cb (h.mono fun os ρ1 ⟨a, e, q⟩ => by subst e; exact ⟨rfl, _, acb_int, q⟩)
theorem ev_tupD (h : AvP K E tas ρ (fun os ρ1 => ∃ x t ds, os = [.d x] ∧ x.seq = some (t, ds) ∧ P (.ok (.d (.tup ds))) ρ1) P) : EvP K E (tCB (rTupO K) tas) ρ P :=
  ev_tuple (h.mono fun os ρ1 ⟨x, t, ds, e, h1, q⟩ => ⟨_, t, ds, e, .d h1, q⟩)
/-- tuple(x), x an owned list of data that a name or an expression hands in -/
theorem ev_tupO (h : AvP K E tas ρ (fun os ρ1 => ∃ (a : Addr) (ds : List Dat), os = [.l a (ds.map Ow.d)] ∧ P (.ok (.d (.tup ds))) (bk (.l a (ds.map Ow.d)) ρ1)) P) : EvP K E (tCB (rTupO K) tas) ρ P :=
  ev_tuple (h.mono fun os ρ1 ⟨a, ds, e, q⟩ => ⟨_, false, ds, e, .l, q⟩)
theorem ev_lstD (h : AvP K E tas ρ (fun os ρ1 => ∃ x t ds, os = [.d x] ∧ x.seq = some (t, ds) ∧ ds.length ≤ 100000 ∧ ∀ b, P (.ok (.l b (ds.map Ow.d))) ρ1) P) : EvP K E (tCB (rListO K) tas) ρ P :=
  ev_list (h.mono fun os ρ1 ⟨x, t, ds, e, h1, h2, q⟩ => ⟨_, t, ds, e, .d h1, h2, q⟩)
/-- a field of data -/
theorem ev_fldD {f : Str} (h : EvP K E ta ρ (bnd (fun o ρ1 => ∃ C gs d, o = .d (.obj C gs) ∧ Cls K C ∧ NoAttr K C f ∧ gs.lookup f = some d ∧ P (.ok (.d d)) ρ1) P)) : EvP K E (tFld K ta f) ρ P := by
  refine ev_fld (h.mono fun r ρ1 q => ?_)
  cases r with
  | ex C fs => exact q
  | ok o =>
    obtain ⟨C, gs, d, rfl, h1, h2, h3, q⟩ := q
    exact ⟨rfl, C, gs, d, rfl, h1, h2, h3, q⟩
/-- x[j], data -/
theorem ev_ixLd (h : EvP K E ta ρ (bnd (fun x ρ1 => EvP K E tb ρ1 (bnd (fun y ρ2 => ∃ ds j z, x = .d (.lst ds) ∧ y = .d (.int j) ∧ atI ds j = some z ∧ P (.ok (.d z)) ρ2) P)) P)) : EvP K E (tOp (rIxL K) ta tb) ρ P := by
  refine ev_ixL (h.mono fun r ρ1 q => ?_)
  cases r with
  | ex C fs => exact q
  | ok x =>
    refine EvP.mono (P := _) q fun r ρ2 q => ?_
    cases r with
    | ex C fs => exact q
    | ok y =>
      obtain ⟨ds, j, z, rfl, e, h1, q⟩ := q
      exact ⟨ds, j, z, .d rfl, e, h1, q⟩
theorem ev_ixTd (h : EvP K E ta ρ (bnd (fun x ρ1 => EvP K E tb ρ1 (bnd (fun y ρ2 => ∃ ds j z, x = .d (.tup ds) ∧ y = .d (.int j) ∧ atI ds j = some z ∧ P (.ok (.d z)) ρ2) P)) P)) : EvP K E (tOp (rIxT K) ta tb) ρ P := by
  refine ev_ixT (h.mono fun r ρ1 q => ?_)
  cases r with
  | ex C fs => exact q
  | ok x =>
    refine EvP.mono (P := _) q fun r ρ2 q => ?_
    cases r with
    | ex C fs => exact q
    | ok y =>
      obtain ⟨ds, j, z, rfl, e, h1, q⟩ := q
      exact ⟨ds, j, z, .d rfl, e, h1, q⟩
/-- x[j], x owned in slot i, its items data -/
theorem ev_ixO (h : EvP K E tb ρ (bnd (fun y ρ1 => ρ1 = ρ ∧ ∃ (a : Addr) (ds : List Dat) (j : Int) (z : Dat), ρ[i]? = some (some (.l a (ds.map Ow.d))) ∧ y = .d (.int j) ∧ atI ds j = some z ∧ P (.ok (.d z)) ρ) P)) (hi : ∃ (a : Addr) (ds : List Dat), ρ[i]? = some (some (.l a (ds.map Ow.d)))) : EvP K E (tOp (rIxL K) (tVar i) tb) ρ P := by
  intro D H T σ Q s k xo
  obtain ⟨a0, ds0, e0⟩ := hi
  obtain ⟨s0, _⟩ := s.getl e0
  refine ⟨.ref a0, s0, ?_⟩
  refine h D H T σ _ s (fun y z ρ1 D1 H1 q1 g => ?_) (xo.sub0 fun _ _ _ z => z)
  obtain ⟨rfl, a, ds, j, z, e, rfl, ha, q⟩ := q1
  have hy := g.tm (y, _) List.mem_cons_self
  cases hy with
  | d hy =>
    cases hy
    obtain ⟨_, vs, h1, h2⟩ := g.pop.getl e
    rw [e0] at e
    have ea : a0 = a := by injection e with e; injection e with e; injection e
    subst ea
    have g2 := h2.toAll
    have e2 : ∃ u, atI vs j = some u ∧ Den K D1 u z := by
      unfold atI at ha ⊢
      rw [g2.length]
      cases hj : ixN ds.length j with
      | none => rw [hj] at ha; cases ha
      | some n =>
        rw [hj] at ha
        obtain ⟨u, h1, h2⟩ := g2.get (show ds[n]? = some z from ha)
        exact ⟨u, h1, h2⟩
    obtain ⟨u, u1, u2⟩ := e2
    exact ⟨a0, vs, j, u, rfl, rfl, sq_of h1, u1, k _ _ _ D1 H1 q (g.pop.push u2)⟩
/-! comprehensions -/
theorem ev_frz (h : EvP K E te ρ (fun r ρ' => match r with | .ok o => ∃ (b : Addr) (ds : List Dat), o = .l b (ds.map Ow.d) ∧ P (.ok (.d (.lst ds))) ρ' | .ex C fs => P (.ex C fs) ρ')) : EvP K E te ρ P := by
  intro D H T σ Q s k xo
  refine h D H T σ _ s (fun v o ρ1 D1 H1 q1 s1 => ?_) (xo.sub0 fun _ _ _ z => z)
  obtain ⟨b, ds, rfl, q⟩ := q1
  have hv := s1.tm (v, _) List.mem_cons_self
  have e := root_ref (a := b) rfl hv
  subst e
  obtain ⟨D2, s2⟩ := s1.frz
  exact k _ _ _ D2 H1 q s2
theorem lcp_filter {α : Type} {g : TG} {ws vs : List Nat} {emb f : α → Dat} {c : α → Bool} {Pl : List Ow → Rh → Prop} : ∀ (xs : List α) (acc : List Ow),
    (∀ a ∈ xs, GvP K g ws ρ (emb a) (fun ρ2 => TvP K E0 tt ρ2 (onE fun o ρ3 => o = .d (.bl (c a)) ∧ wp ρ3 vs = ρ ∧ (c a = true → EvP K E0 te ρ3 (onE fun o ρ4 => o = .d (f a) ∧ wp ρ4 vs = ρ))))) →
    Pl (acc ++ ((xs.filter c).map f).map Ow.d) ρ → LcP K g ws tt te vs (xs.map emb) ρ acc Pl
  | [], acc, _, q => by
    show Pl acc ρ
    simpa using q
  | a :: xs, acc, h, q => by
    have ha := h a List.mem_cons_self
    intro D H T σ x Q s k
    refine ha D H T σ x Q s fun σ' ρ' D' H' z => k σ' ρ' D' H' ?_
    intro D2 H2 T2 σ2 Q2 s2 k2 xo2
    refine z D2 H2 T2 σ2 Q2 s2 (fun b ρ3 D3 H3 z3 => k2 b ρ3 D3 H3 ?_) .no
    obtain ⟨eb, ew, he⟩ := z3
    refine ⟨c a, eb, fun hc => ?_, fun hc => ?_⟩
    · refine EvP.mono (he hc) fun r ρ4 z4 => ?_
      cases r with
      | ex C fs => exact z4
      | ok o =>
        obtain ⟨rfl, ew4⟩ := z4
        show LcP K g ws tt te vs (xs.map emb) (wp ρ4 vs) (acc ++ [.d (f a)]) Pl
        rw [ew4]
        refine lcp_filter xs _ (fun b hb => h b (List.mem_cons_of_mem _ hb)) ?_
        rw [List.filter_cons_of_pos hc] at q
        simpa using q
    · rw [ew]
      refine lcp_filter xs _ (fun b hb => h b (List.mem_cons_of_mem _ hb)) ?_
      rw [List.filter_cons_of_neg (by rw [hc]; exact Bool.false_ne_true)] at q
      exact q
/-- over data that α names: which, and what -/
theorem ev_lcF {α : Type} {wi : TI} {g : TG} {ws vs : List Nat} (emb f : α → Dat) (c : α → Bool) (hws : ∀ j ∈ ws, j ∈ vs) (h : IvP K E wi ρ (fun ds os ρ1 => ∃ xs : List α, ds = xs.map emb ∧ xs.length ≤ 100000 ∧
    (∀ a ∈ xs, GvP K g ws (wp ρ1 vs) (emb a) (fun ρ2 => TvP K E0 tt ρ2 (onE fun o ρ3 => o = .d (.bl (c a)) ∧ wp ρ3 vs = wp ρ1 vs ∧ (c a = true → EvP K E0 te ρ3 (onE fun o ρ4 => o = .d (f a) ∧ wp ρ4 vs = wp ρ1 vs))))) ∧
    P (.ok (.d (.lst ((xs.filter c).map f)))) (bks os (wp ρ1 vs))) P) : EvP K E (tLc wi g tt te vs) ρ P := by
  refine ev_frz (ev_lc hws ?_)
  intro D H T σ R s k xo
  refine h D H T σ R s (fun J A ds ρ' D' H' q => k J A ds ρ' D' H' ?_) xo
  obtain ⟨xs, rfl, hl, hb, q⟩ := q
  refine ⟨by rw [List.length_map]; exact hl, lcp_filter xs [] hb ?_⟩
  intro b
  rw [wp_wp]
  exact ⟨b, _, rfl, q⟩
/-- .. all of them -/
theorem ev_lcM {α : Type} {wi : TI} {g : TG} {ws vs : List Nat} (emb f : α → Dat) (hws : ∀ j ∈ ws, j ∈ vs) (h : IvP K E wi ρ (fun ds os ρ1 => ∃ xs : List α, ds = xs.map emb ∧ xs.length ≤ 100000 ∧
    (∀ a ∈ xs, GvP K g ws (wp ρ1 vs) (emb a) (fun ρ2 => wp ρ2 vs = wp ρ1 vs ∧ EvP K E0 te ρ2 (onE fun o ρ4 => o = .d (f a) ∧ wp ρ4 vs = wp ρ1 vs))) ∧
    P (.ok (.d (.lst (xs.map f)))) (bks os (wp ρ1 vs))) P) : EvP K E (tLc wi g tYes te vs) ρ P := by
  refine ev_lcF emb f (fun _ => true) hws ?_
  intro D H T σ R s k xo
  refine h D H T σ R s (fun J A ds ρ' D' H' q => k J A ds ρ' D' H' ?_) xo
  obtain ⟨xs, e, hl, hb, q⟩ := q
  refine ⟨xs, e, hl, fun a ha => ?_, by rw [List.filter_eq_self.mpr (fun _ _ => rfl)]; exact q⟩
  intro D2 H2 T2 σ2 x Q s2 k2
  exact hb a ha D2 H2 T2 σ2 x Q s2 fun σ' ρ' D' H' z => k2 σ' ρ' D' H' (tv_yes ⟨rfl, z.1, fun _ => z.2⟩)
/-- results told one by one (owned ones too) -/
inductive All2 {α β : Type} (R : α → β → Prop) : List α → List β → Prop
  | nil : All2 R [] []
  | cons {a : α} {b : β} {as : List α} {bs : List β} : R a b → All2 R as bs → All2 R (a :: as) (b :: bs)
theorem lcp_rel {α : Type} {g : TG} {ws vs : List Nat} {emb : α → Dat} {R : α → Ow → Prop} {Pl : List Ow → Rh → Prop} : ∀ (xs : List α) (acc : List Ow),
    (∀ a ∈ xs, GvP K g ws ρ (emb a) (fun ρ2 => EvP K E0 te ρ2 (onE fun o ρ4 => R a o ∧ wp ρ4 vs = ρ))) →
    (∀ os, All2 R xs os → Pl (acc ++ os) ρ) → LcP K g ws tYes te vs (xs.map emb) ρ acc Pl
  | [], acc, _, q => by
    show Pl acc ρ
    simpa using q [] .nil
  | a :: xs, acc, h, q => by
    intro D H T σ x Q s k
    refine h a List.mem_cons_self D H T σ x Q s fun σ' ρ' D' H' z => k σ' ρ' D' H' ?_
    refine tv_yes ⟨true, rfl, fun _ => ?_, fun e => by cases e⟩
    refine EvP.mono z fun r ρ4 z4 => ?_
    cases r with
    | ex C fs => exact z4
    | ok o =>
      obtain ⟨ro, ew4⟩ := z4
      show LcP K g ws tYes te vs (xs.map emb) (wp ρ4 vs) (acc ++ [o]) Pl
      rw [ew4]
      exact lcp_rel xs _ (fun b hb => h b (List.mem_cons_of_mem _ hb)) fun os ho => by
        have := q (o :: os) (.cons ro ho)
        simpa using this
theorem ev_lcR {α : Type} {wi : TI} {g : TG} {ws vs : List Nat} (emb : α → Dat) (R : α → Ow → Prop) (hws : ∀ j ∈ ws, j ∈ vs) (h : IvP K E wi ρ (fun ds os ρ1 => ∃ xs : List α, ds = xs.map emb ∧ xs.length ≤ 100000 ∧
    (∀ a ∈ xs, GvP K g ws (wp ρ1 vs) (emb a) (fun ρ2 => EvP K E0 te ρ2 (onE fun o ρ4 => R a o ∧ wp ρ4 vs = wp ρ1 vs))) ∧
    (∀ rs, All2 R xs rs → ∀ b, P (.ok (.l b rs)) (bks os (wp ρ1 vs)))) P) : EvP K E (tLc wi g tYes te vs) ρ P := by
  refine ev_lc hws ?_
  intro D H T σ R' s k xo
  refine h D H T σ R' s (fun J A ds ρ' D' H' q => k J A ds ρ' D' H' ?_) xo
  obtain ⟨xs, rfl, hl, hb, q⟩ := q
  refine ⟨by rw [List.length_map]; exact hl, lcp_rel xs [] hb fun rs hr b => ?_⟩
  rw [wp_wp]
  exact q rs hr b
theorem iv_listD {tl : TE} {Pi : List Dat → List Ow → Rh → Prop} (h : EvP K E tl ρ (bnd (fun o ρ1 => ∃ ds, o = .d (.lst ds) ∧ Pi ds [o] ρ1) P)) : IvP K E (iList K tl) ρ Pi P := by
  refine iv_list (h.mono fun r ρ1 q => ?_)
  cases r with
  | ex C fs => exact q
  | ok o =>
    obtain ⟨ds, rfl, q⟩ := q
    exact ⟨ds, rfl, rfl, fun x y z => Ow.noConfusion z, trivial, q⟩
end
end DL

/-! ### J. lists or tuples; owned rows -/
namespace DL
open PySem L2 Evl PySem.Spec PyProof.Rows
def iAny (K : PySem.W.Frag) (tl : TE) : TI := fun σ H R => tl σ H fun x H1 => ∃ a, x = .ref a ∧ (((∃ xs, SqL K H1 a xs) ∧ R (Itl K a) H1) ∨ ((∃ xs, SqT K H1 a xs) ∧ R (Itt K a) H1))
theorem pi_any {X : Cx} {tg l : Expr} {tl : TE} (hl : PE X l tl) : PI X tg l (iAny X.K tl) := by
  refine ⟨fun pins s σ H R I h => ?_⟩
  refine thn (hl.run pins s σ H _ I h) fun v s1 ⟨x, H1, I1, r1, q1⟩ => ?_
  obtain ⟨a, e, q1⟩ := q1
  subst e
  cases r1
  have fp : ∀ b ∈ [s1.heap.objs.size], FpOk X pins H1 b := fun b hb => by
    have e : b = s1.heap.objs.size := by simpa using hb
    subst e
    exact I1.fpOk (Nat.le_refl _) (I1.hok.fresh (Nat.le_refl _))
  rcases q1 with ⟨⟨xs, hq⟩, q⟩ | ⟨⟨xs, hq⟩, q⟩
  · obtain ⟨its, rv, p, hz⟩ := I1.list hq
    refine wpAny_pyIter_list p.isList ?_
    exact ⟨s1.heap.objs.size, [s1.heap.objs.size], _, _, H1, rfl, I1.kept (t' := s1.toks) fun b o e => Heap.get?_push_of_some _ e, turn_list a _, ⟨_, Heap.get?_push_size _ rfl, rfl, rfl⟩, fp, q⟩
  · obtain ⟨its, rv, p, hz⟩ := I1.tuple hq
    refine wpAny_pyIter_tuple (show s1.heap.IsTuple a its.toArray from p) ?_
    exact ⟨s1.heap.objs.size, [s1.heap.objs.size], _, _, H1, rfl, I1.kept (t' := s1.toks) fun b o e => Heap.get?_push_of_some _ e, turn_tuple a _, ⟨_, Heap.get?_push_size _ rfl, rfl, rfl⟩, fp, q⟩
theorem pi_anyK {X : Cx} {K : PySem.W.Frag} [HasTabs K] {tg l : Expr} {tl : TE} (hK : X.K = K) (hl : PE X l tl) : PI X tg l (iAny K tl) := by
  subst hK
  exact pi_any hl
theorem pi_enumK {X : Cx} {K : PySem.W.Frag} [HasTabs K] {e : Expr} {ta : TA} {p pos tpos : Pos} {elts : List Expr} {kk : Nat} (hK : X.K = K) (hg : Gl X "enumerate") (hm : X.mg "enumerate" = none) (ha : PA X [e] ta) (hs : starEach [e] X.env = [(false, eval e X.env)] := by rfl) :
    PI X (.Tuple elts kk tpos) (.Call (.Name "enumerate" p) [e] [] pos) (iEnumB K ta) := by
  subst hK
  exact pi_enumB hg hm ha hs
theorem pi_zipK {X : Cx} {K : PySem.W.Frag} [HasTabs K] {e e2 : Expr} {ta : TA} {p pos tpos : Pos} {elts : List Expr} {kk : Nat} (hK : X.K = K) (hg : Gl X "zip") (hm : X.mg "zip" = none) (ha : PA X [e, e2] ta)
    (hs : starEach [e, e2] X.env = (false, eval e X.env) :: starEach [e2] X.env := by rfl) (hpl : (backTo pos (starEach [e2] X.env)).any (·.1) = false := by rfl) :
    PI X (.Tuple elts kk tpos) (.Call (.Name "zip" p) [e, e2] [] pos) (iZipB K ta) := by
  subst hK
  exact pi_zipB hg hm ha hs hpl
theorem pe_const {X : Cx} {x : Str} {n : Int} {pos : Pos} (h : ∃ t, X.mg x = some (.int n t)) (hg : Gl X x) (hdb : (x == ("__debug__" : Str)) = false := by decide) : PE X (.Name x pos) (tC (.int n)) := by
  obtain ⟨t, h⟩ := h
  exact pe_glob hg h ⟨t, rfl⟩ (by exact hdb)
section
variable {K : PySem.W.Frag} [HasTabs K] {E : XK} {te ta tb tc td ty tv tx tj tk tl : TE} {tt tu : TT} {tas : TA} {ts tw : TS} {ρ : Rh} {P P' : EPost} {S : SPost} {o : Ow} {i : Nat}
theorem iv_any {Pi : List Dat → List Ow → Rh → Prop} (h : EvP K E tl ρ (bnd (fun o ρ1 => ∃ x t ds, o = .d x ∧ x.seq = some (t, ds) ∧ Pi ds [o] ρ1) P)) : IvP K E (iAny K tl) ρ Pi P := by
  intro D H T σ R s k xo
  refine h D H T σ _ s (fun v x ρ1 D1 H1 q1 s1 => ?_) (xo.sub0 fun _ _ _ z => z)
  obtain ⟨y, t, ds, rfl, e, q⟩ := q1
  have rd : ∀ D2 H2, Ex D2 H2 → DenO K D2 H2 v (.d y) → ∃ a vs, v = .ref a ∧ SqB t K H2 a vs ∧ DenAll K D2 vs ds := fun D2 H2 e2 g => by
    cases g with
    | d g => exact den_seq e e2 g
  obtain ⟨a, vs, rfl, hS, hA⟩ := rd D1 H1 s1.ex (s1.tm (v, _) List.mem_cons_self)
  refine ⟨a, rfl, ?_⟩
  cases t with
  | false =>
    refine .inl ⟨⟨vs, hS⟩, k (Itl K a) [(.ref a, .d y)] ds ρ1 D1 H1 q (fun D2 H2 e2 g => ?_) s1⟩
    obtain ⟨b, ws, eb, hS2, hA2⟩ := rd D2 H2 e2 (g _ List.mem_cons_self)
    cases eb
    have hl := hA2.length
    refine ⟨fun i hi => ⟨ws, ws[i]'(by omega), hS2, by simp [show i < ws.length by omega]⟩, ⟨ws, hS2, by omega⟩, fun i y H' hi hy => ?_⟩
    obtain ⟨rfl, hy⟩ := hy
    obtain ⟨d, h1, h2⟩ := hA2.getv (hy ws hS2)
    exact ⟨d, h1, .inl ⟨rfl, h2⟩⟩
  | true =>
    refine .inr ⟨⟨vs, hS⟩, k (Itt K a) [(.ref a, .d y)] ds ρ1 D1 H1 q (fun D2 H2 e2 g => ?_) s1⟩
    obtain ⟨b, ws, eb, hS2, hA2⟩ := rd D2 H2 e2 (g _ List.mem_cons_self)
    cases eb
    have hl := hA2.length
    refine ⟨fun i hi => ⟨ws, ws[i]'(by omega), hS2, by simp [show i < ws.length by omega]⟩, ⟨ws, hS2, by omega⟩, fun i y H' hi hy => ?_⟩
    obtain ⟨rfl, hy⟩ := hy
    obtain ⟨d, h1, h2⟩ := hA2.getv (hy ws hS2)
    exact ⟨d, h1, .inl ⟨rfl, h2⟩⟩
/-- x[j] of a sequence of data -/
theorem ev_ixS (h : EvP K E ta ρ (bnd (fun x ρ1 => EvP K E tb ρ1 (bnd (fun y ρ2 => ∃ d t ds j z, x = .d d ∧ y = .d (.int j) ∧ d.seq = some (t, ds) ∧ atI ds j = some z ∧ P (.ok (.d z)) ρ2) P)) P)) : EvP K E (tOp (rIx K) ta tb) ρ P := by
  intro D H T σ Q s k xo
  refine h D H T σ _ s (fun v x ρ1 D1 H1 q1 s1 => ?_) (xo.sub0 fun _ _ _ z => z)
  refine q1 D1 H1 _ σ _ s1 (fun w y ρ2 D2 H2 q2 s2 => ?_) (xo.sub1 fun _ _ _ z => z)
  obtain ⟨d, t, ds, j, z, rfl, rfl, e, ha, q⟩ := q2
  have hx := s2.tm (v, _) (List.mem_cons_of_mem _ List.mem_cons_self)
  have hy := s2.tm (w, _) List.mem_cons_self
  cases hx with
  | d hx =>
    cases hy with
    | d hy =>
      cases hy
      obtain ⟨a, vs, rfl, g1, g2⟩ := den_seq e s2.ex hx
      have e2 : ∃ u, atI vs j = some u ∧ Den K D2 u z := by
        unfold atI at ha ⊢
        rw [g2.length]
        cases hj : ixN ds.length j with
        | none => rw [hj] at ha; cases ha
        | some n =>
          rw [hj] at ha
          obtain ⟨u, h1, h2⟩ := g2.get (show ds[n]? = some z from ha)
          exact ⟨u, h1, h2⟩
      obtain ⟨u, u1, u2⟩ := e2
      have fin := k _ _ _ D2 H2 q (s2.pop.pop.push u2)
      cases t with
      | false => exact .inl ⟨a, vs, j, u, rfl, rfl, g1, u1, fin⟩
      | true => exact .inr (.inl ⟨a, vs, j, u, rfl, rfl, g1, u1, fin⟩)
/-! isinstance by the class's name -/
def Dat.isInt : Dat → Bool
  | .int _ => true
  | .bl _ => true
  | _ => false
def Dat.isBool : Dat → Bool
  | .bl _ => true
  | _ => false
def Dat.isSeq : Dat → Bool
  | .lst _ => true
  | .tup _ => true
  | _ => false
theorem kb {n m : String} {r : Bool} (h : kitB n m = some r) : kitB n m = some r := h
theorem isi_int {x : Dat} (h : x.tyn.isSome = true) : ∃ n, x.tyn = some n ∧ kitB n "int" = some x.isInt := by
  cases x with
  | non => exact ⟨_, rfl, by decide +kernel⟩
  | bl b => exact ⟨_, rfl, by show _ = some true; decide +kernel⟩
  | int i => exact ⟨_, rfl, by show _ = some true; decide +kernel⟩
  | str s => exact ⟨_, rfl, by show _ = some false; decide +kernel⟩
  | lst xs => exact ⟨_, rfl, by show _ = some false; decide +kernel⟩
  | tup xs => exact ⟨_, rfl, by show _ = some false; decide +kernel⟩
  | obj _ _ => cases h
  | ty _ => cases h
  | scr _ => cases h
theorem isi_bool {x : Dat} (h : x.tyn.isSome = true) : ∃ n, x.tyn = some n ∧ kitB n "bool" = some x.isBool := by
  cases x with
  | non => exact ⟨_, rfl, by decide +kernel⟩
  | bl b => exact ⟨_, rfl, by show _ = some true; decide +kernel⟩
  | int i => exact ⟨_, rfl, by show _ = some false; decide +kernel⟩
  | str s => exact ⟨_, rfl, by show _ = some false; decide +kernel⟩
  | lst xs => exact ⟨_, rfl, by show _ = some false; decide +kernel⟩
  | tup xs => exact ⟨_, rfl, by show _ = some false; decide +kernel⟩
  | obj _ _ => cases h
  | ty _ => cases h
  | scr _ => cases h
theorem isi_seq {x : Dat} (h : x.tyn.isSome = true) : ∃ n r1 r2, x.tyn = some n ∧ kitB n "list" = some r1 ∧ kitB n "tuple" = some r2 ∧ (r1 || r2) = x.isSeq := by
  cases x with
  | non => exact ⟨_, false, false, rfl, by decide +kernel, by decide +kernel, rfl⟩
  | bl b => exact ⟨_, false, false, rfl, by decide +kernel, by decide +kernel, rfl⟩
  | int i => exact ⟨_, false, false, rfl, by decide +kernel, by decide +kernel, rfl⟩
  | str s => exact ⟨_, false, false, rfl, by decide +kernel, by decide +kernel, rfl⟩
  | lst xs => exact ⟨_, true, false, rfl, by decide +kernel, by decide +kernel, rfl⟩
  | tup xs => exact ⟨_, false, true, rfl, by decide +kernel, by decide +kernel, rfl⟩
  | obj _ _ => cases h
  | ty _ => cases h
  | scr _ => cases h
theorem ev_isiInt (h : EvP K E ta ρ (bnd (fun o ρ1 => ∃ x, o = .d x ∧ x.tyn.isSome = true ∧ P (.ok (.d (.bl x.isInt))) ρ1) P)) : EvP K E (tCB (rIsi K) (tCons ta (tCons (tC (.ty "int")) tNil))) ρ P := by
  refine ev_isi (av_cons (h.mono fun r ρ1 q => ?_))
  cases r with
  | ex C fs => exact q
  | ok o =>
    obtain ⟨x, rfl, hx, q⟩ := q
    obtain ⟨n, h1, h2⟩ := isi_int hx
    exact av_cons (ev_c (x := .ty _) rfl rfl (av_nil ⟨x, n, _, _, rfl, h1, h2, q⟩))
theorem ev_isiBool (h : EvP K E ta ρ (bnd (fun o ρ1 => ∃ x, o = .d x ∧ x.tyn.isSome = true ∧ P (.ok (.d (.bl x.isBool))) ρ1) P)) : EvP K E (tCB (rIsi K) (tCons ta (tCons (tC (.ty "bool")) tNil))) ρ P := by
  refine ev_isi (av_cons (h.mono fun r ρ1 q => ?_))
  cases r with
  | ex C fs => exact q
  | ok o =>
    obtain ⟨x, rfl, hx, q⟩ := q
    obtain ⟨n, h1, h2⟩ := isi_bool hx
    exact av_cons (ev_c (x := .ty _) rfl rfl (av_nil ⟨x, n, _, _, rfl, h1, h2, q⟩))
theorem ev_isiSeq (h : EvP K E ta ρ (bnd (fun o ρ1 => ∃ x, o = .d x ∧ x.tyn.isSome = true ∧ P (.ok (.d (.bl x.isSeq))) ρ1) P)) : EvP K E (tCB (rIsiT K) (tCons ta (tCons (tTup (tCons (tC (.ty "list")) (tCons (tC (.ty "tuple")) tNil))) tNil))) ρ P := by
  refine ev_isiT (av_cons (h.mono fun r ρ1 q => ?_))
  cases r with
  | ex C fs => exact q
  | ok o =>
    obtain ⟨x, rfl, hx, q⟩ := q
    obtain ⟨n, r1, r2, h1, h2, h3, h4⟩ := isi_seq hx
    refine av_cons (ev_tup (ds := []) (av_cons (ev_c (x := .ty _) rfl rfl (av_cons (ev_c (x := .ty _) rfl rfl (av_nil ⟨[.ty _, .ty _], rfl, by decide, ?_⟩))))))
    exact av_nil ⟨x, n, _, _, r1, r2, rfl, h1, h2, h3, by rw [h4]; exact q⟩
/-! owned rows -/
/-- x[j][k], x owned in slot i, x[j] owned, its items data; j and k leave the state -/
theorem ev_ixO2 (hi : ∃ a xs, ρ[i]? = some (some (.l a xs))) (h : EvP K E tj ρ (bnd (fun y ρ1 => ρ1 = ρ ∧ ∃ (a b : Addr) (xs : List Ow) (ds : List Dat) (j : Nat), y = .d (.int ((j : Nat) : Int)) ∧ ρ[i]? = some (some (.l a xs)) ∧ xs[j]? = some (.l b (ds.map Ow.d)) ∧
    EvP K E tk ρ (bnd (fun z ρ2 => ρ2 = ρ ∧ ∃ (k : Int) (w : Dat), z = .d (.int k) ∧ atI ds k = some w ∧ P (.ok (.d w)) ρ) P)) P)) : EvP K E (tOp (rIxL K) (tOp (rIxL K) (tVar i) tj) tk) ρ P := by
  intro D H T σ Q s k xo
  obtain ⟨a0, xs0, e0⟩ := hi
  obtain ⟨s0, _⟩ := s.getl e0
  refine ⟨.ref a0, s0, ?_⟩
  refine h D H T σ _ s (fun y z ρ1 D1 H1 q1 g => ?_) (xo.sub0 fun _ _ _ z => z)
  obtain ⟨rfl, a, b, xs, ds, j, rfl, e, ej, q⟩ := q1
  rw [e0] at e
  cases e
  have hy := g.tm (y, _) List.mem_cons_self
  cases hy with
  | d hy =>
    cases hy
    obtain ⟨_, vs, ha, hv⟩ := g.pop.getl e0
    obtain ⟨w, hw, qw⟩ := hv.get ej
    have hwr : w = .ref b := root_ref rfl qw
    subst hwr
    refine ⟨a0, vs, j, .ref b, rfl, rfl, sq_of ha, at_nat hw, ?_⟩
    refine q D1 H1 T σ _ g.pop (fun u z ρ2 D2 H2 q2 g2 => ?_) (xo.sub0 fun _ _ _ z => z)
    obtain ⟨rfl, kk, x, rfl, hx, q⟩ := q2
    have hu := g2.tm (u, _) List.mem_cons_self
    cases hu with
    | d hu =>
      cases hu
      obtain ⟨_, vs2, ha2, hv2⟩ := g2.pop.getl e0
      obtain ⟨w2, hw2, qw2⟩ := hv2.get ej
      cases qw2 with
      | l c1 c2 =>
        rename_i us
        have g3 := c2.toAll
        have e2 : ∃ u, atI us kk = some u ∧ Den K D2 u x := by
          unfold atI at hx ⊢
          rw [g3.length]
          cases hj : ixN ds.length kk with
          | none => rw [hj] at hx; cases hx
          | some n =>
            rw [hj] at hx
            obtain ⟨u, h1, h2⟩ := g3.get (show ds[n]? = some x from hx)
            exact ⟨u, h1, h2⟩
        obtain ⟨u3, u1, u2⟩ := e2
        exact ⟨b, us, kk, u3, rfl, rfl, sq_of c1, u1, k _ _ _ D2 H2 q (g2.pop.push u2)⟩
/-- an item of an owned list steps into a slot, and back -/
theorem Sd.inSlot {D H : Hp} {T : Tm} {σ : L2.St} {a b : Addr} {xs ys : List Ow} {j r : Nat} (h : Sd K D H ((.ref a, .l a xs) :: T) σ ρ) (e : xs[j]? = some (.l b ys)) (hr : r < σ.length) :
    Sd K D H ((.ref a, .l a (xs.set j (.m b))) :: T) (σ.set r (some (.ref b))) (ρ.set r (some (.l b ys))) := (h.focus e rfl).toSlot r hr
theorem Sd.outSlot {D H : Hp} {T : Tm} {σ : L2.St} {a b : Addr} {xs ys : List Ow} {j r : Nat} (h : Sd K D H ((.ref a, .l a (xs.set j (.m b))) :: T) σ ρ) (hj : j < xs.length) (e : ρ[r]? = some (some (.l b ys))) :
    Sd K D H ((.ref a, .l a (xs.set j (.l b ys))) :: T) σ (ρ.set r (some (.m b))) := by
  obtain ⟨_, g⟩ := h.move e rfl
  have := g.unfocus (b := b) (j := j) (by rw [List.getElem?_set_self hj]) rfl
  rw [List.set_set] at this
  exact this
theorem ev_lcO2 {r : Nat} {vs : List Nat} {α : Type} (emb : α → List Dat) (f : α → Dat) (hr : r ∈ vs) (hi : ∃ (a : Addr) (xs : List Ow), ρ[i]? = some (some (.l a xs)) ∧ i ∉ vs ∧ r < ρ.length ∧ ∃ zs : List α, zs.length ≤ 100000 ∧ All2 (fun z o => ∃ b, o = Ow.l b ((emb z).map Ow.d)) zs xs ∧
    (∀ z ∈ zs, ∀ b, EvP K E0 te ((wp (ρ.set i (some (.m a))) vs).set r (some (.l b ((emb z).map Ow.d)))) (onE fun o ρ4 => o = .d (f z) ∧ ρ4 = (wp (ρ.set i (some (.m a))) vs).set r (some (.l b ((emb z).map Ow.d))))) ∧
    P (.ok (.d (.lst (zs.map f)))) (bkG (.l a xs) a (wp (ρ.set i (some (.m a))) vs))) : EvP K E (tLc (iAny K (tVar i)) (gName r) tYes te vs) ρ P := by
  refine ev_frz ?_
  intro D H T σ Q s k xo
  obtain ⟨a, xs, e, hiv, hrl, zs, hlen, hall, hbody, q⟩ := hi
  obtain ⟨s0, vs0, ha0, hv0⟩ := s.getl e
  refine ⟨.ref a, s0, a, rfl, .inl ⟨⟨vs0, sq_of ha0⟩, ?_⟩⟩
  intro Dl hD
  obtain ⟨_, s1⟩ := s.move e rfl
  have hlen2 : zs.length = xs.length := by
    have : ∀ {zs : List α} {xs : List Ow}, All2 (fun z o => ∃ b, o = Ow.l b ((emb z).map Ow.d)) zs xs → zs.length = xs.length := by
      intro zs xs h
      induction h with
      | nil => rfl
      | cons _ _ ih => simp [ih]
    exact this hall
  have getA : ∀ {j : Nat} {z : α}, zs[j]? = some z → ∃ b, xs[j]? = some (.l b ((emb z).map Ow.d)) := by
    have : ∀ {zs : List α} {xs : List Ow}, All2 (fun z o => ∃ b, o = Ow.l b ((emb z).map Ow.d)) zs xs → ∀ {j : Nat} {z : α}, zs[j]? = some z → ∃ b, xs[j]? = some (.l b ((emb z).map Ow.d)) := by
      intro zs xs h
      induction h with
      | nil => intro j z hz; simp at hz
      | cons r t ih =>
        intro j z hz
        cases j with
        | zero => simp at hz; subst hz; obtain ⟨b, hb⟩ := r; exact ⟨b, by rw [hb]; rfl⟩
        | succ j => exact ih (by simpa using hz)
    intro j z h
    exact this hall h
  have s2 : Sd K D (upd H Dl (.lst [])) ((.ref Dl, .l Dl []) :: (.ref a, .l a xs) :: T) σ (ρ.set i (some (.m a))) := Sd.own (vs := []) (os := []) s1 rfl hD
  refine ⟨fun j m H' => j + m = zs.length ∧ ∃ D', Sd K D' H' ((.ref Dl, .l Dl (((zs.take j).map f).map Ow.d)) :: (.ref a, .l a xs) :: T) (L2.wipe σ vs) (wp (ρ.set i (some (.m a))) vs), ⟨zs.length, by omega, D, s2.wipe vs⟩, ?_⟩
  rintro j m H' ⟨hm, D', s3⟩
  have hA := s3.tm (.ref a, .l a xs) (List.mem_cons_of_mem _ List.mem_cons_self)
  cases hA with
  | l g1 g2 =>
    rename_i ws
    have hws := g2.length
    by_cases hj : j < zs.length
    · refine .inr ⟨⟨ws, ws[j]'(by omega), sq_of g1, by simp [show j < ws.length by omega]⟩, fun H2 => ∃ D2, Sd K D2 H2 ((.ref Dl, .l Dl (((zs.take (j + 1)).map f).map Ow.d)) :: (.ref a, .l a xs) :: T) (L2.wipe σ vs) (wp (ρ.set i (some (.m a))) vs), fun H2 ⟨D2, z⟩ => ⟨m - 1, by omega, by omega, D2, z⟩, fun x H2 y => ?_⟩
      obtain ⟨rfl, hx⟩ := y
      obtain ⟨b, hb⟩ := getA (List.getElem?_eq_getElem hj)
      have hxj := hx ws (sq_of g1)
      obtain ⟨w, hw, qw⟩ := g2.get hb
      rw [hxj] at hw
      have hwx : x = w := Option.some.inj hw
      have hxr : x = .ref b := by rw [hwx]; exact root_ref rfl qw
      subst hxr
      have hrs : r < (L2.wipe σ vs).length := by rw [wipe_length, s.len]; exact hrl
      have s4 := (s3.perm (List.Perm.swap _ _ _)).inSlot hb hrs
      refine ⟨(wipe_set hr).trans (wipe_wipe vs σ), ?_⟩
      simp only [tYes, if_true]
      have bd := hbody zs[j] (List.getElem_mem hj) b
      refine bd D' H2 _ _ _ s4 (fun y o ρ4 D4 H4 q4 s5 => ?_) .no
      obtain ⟨rfl, rfl⟩ := q4
      have hlr : r < (wp (ρ.set i (some (.m a))) vs).length := by rw [← s3.len]; exact hrs
      have s6 := (s5.perm ((List.Perm.swap _ _ _))).outSlot (by have := (List.getElem?_eq_some_iff.mp hb).1; exact this) (by rw [List.getElem?_set_self hlr])
      have exs : xs.set j (.l b ((emb zs[j]).map Ow.d)) = xs := by
        obtain ⟨l, hl⟩ := List.getElem?_eq_some_iff.mp hb
        rw [← hl]
        exact List.set_getElem_self l
      rw [exs, List.set_set] at s6
      have s7 := s6.forget r
      rw [List.set_set] at s7
      have ewp : (wp (ρ.set i (some (.m a))) vs).set r none = wp (ρ.set i (some (.m a))) vs := by
        have st : ∀ (us : List Nat) (ρ : Rh), r ∈ us → (wp ρ us).set r none = wp ρ us := by
          intro us
          induction us with
          | nil => intro ρ h; simp at h
          | cons u us ih =>
            intro ρ h
            show ((wp ρ us).set u none).set r none = (wp ρ us).set u none
            by_cases e : u = r
            · subst e; rw [List.set_set]
            · rw [List.set_comm _ _ e, ih ρ (by simpa [Ne.symm e] using h)]
        exact st vs _ hr
      rw [ewp] at s7
      have s8 : Sd K D4 H4 ((y, .d (f zs[j])) :: (.ref Dl, .l Dl (((zs.take j).map f).map Ow.d)) :: (.ref a, .l a xs) :: T) (L2.wipe σ vs) (wp (ρ.set i (some (.m a))) vs) := by
        have s9 : Sd K D4 H4 ((.ref a, .l a xs) :: (y, .d (f zs[j])) :: (.ref Dl, .l Dl (((zs.take j).map f).map Ow.d)) :: T) (L2.wipe σ vs) (wp (ρ.set i (some (.m a))) vs) := by
          have sl := s7.sl
          have : Slots K D4 H4 (L2.wipe σ vs) (wp (ρ.set i (some (.m a))) vs) := by
            have w1 := Slots.wipe1 r sl
            rw [ewp, List.set_set] at w1
            have e5 : (L2.wipe σ vs).set r none = L2.wipe σ vs := by
              have st : ∀ (us : List Nat) (σ : L2.St), r ∈ us → (L2.wipe σ us).set r none = L2.wipe σ us := by
                intro us
                induction us with
                | nil => intro σ h; simp at h
                | cons u us ih =>
                  intro σ h
                  show ((L2.wipe σ us).set u none).set r none = (L2.wipe σ us).set u none
                  by_cases e : u = r
                  · subst e; rw [List.set_set]
                  · rw [List.set_comm _ _ e, ih σ (by simpa [Ne.symm e] using h)]
              exact st vs _ hr
            rw [e5] at w1
            exact w1
          exact ⟨s7.ex, s7.tm, this, s7.nd, s7.out, s7.tb⟩
        exact s9.perm ((List.Perm.swap _ _ _).trans ((List.Perm.swap _ _ _).cons _))
      obtain ⟨av, b1, b2, b3⟩ := s8.app
      refine ⟨av, b1, sz_lt (by rw [b2]; simp; omega), D4, ?_⟩
      have et : ((zs.take (j + 1)).map f).map Ow.d = ((zs.take j).map f).map Ow.d ++ [.d (f zs[j])] := by
        rw [List.take_add_one, List.getElem?_eq_getElem hj, List.map_append, List.map_append]
        rfl
      rw [et]
      exact b3
    · have ej : j = zs.length := by omega
      subst ej
      rw [List.take_length] at s3
      refine .inl ⟨⟨ws, sq_of g1, by omega⟩, ?_⟩
      have s4 : Sd K D' H' ((.ref Dl, .l Dl ((zs.map f).map Ow.d)) :: (.ref a, .l a xs) :: T) σ (wp (ρ.set i (some (.m a))) vs) := s3.unwipe
      exact k _ _ _ D' H' ⟨Dl, _, rfl, q⟩ ((Sd.bkG (T := (V.ref Dl, Ow.l Dl ((zs.map f).map Ow.d)) :: T) (s4.perm (List.Perm.swap _ _ _)) rfl))
end
end DL

/-! ### K. loops that fold -/
namespace DL
open PySem L2 Evl
section
variable {K : PySem.W.Frag} [HasTabs K] {E : XK} {ρ : Rh} {S : SPost} {α β : Type}
theorem take_fold {f : β → α → β} {b0 : β} {xs : List α} {i : Nat} {x : α} (h : xs[i]? = some x) : (xs.take (i + 1)).foldl f b0 = f ((xs.take i).foldl f b0) x := by
  rw [List.take_add_one, h, List.foldl_append]
  rfl
theorem loop_fold {g : TG} {ws : List Nat} {tb : TS} (emb : α → Dat) (f : β → α → β) (st : β → Rh) (b0 : β) (xs : List α) (h0 : ρ = st b0)
    (hs : ∀ i x b, xs[i]? = some x → b = (xs.take i).foldl f b0 → GvP K g ws (st b) (emb x) (fun ρ1 => SvP K E tb ρ1 (onT (fun ρ2 => ρ2 = st (f b x)) S)))
    (hd : S (.nx (st (xs.foldl f b0)))) : LoopP K E g ws tb (xs.map emb) ρ S := by
  refine loop_inv (fun i ρ' => ρ' = st ((xs.take i).foldl f b0)) (by rw [h0]; rfl) (fun i d ρ' hi he => ?_) (fun ρ' he => ?_)
  · rw [List.getElem?_map] at hi
    cases hx : xs[i]? with
    | none => rw [hx] at hi; cases hi
    | some x =>
      rw [hx] at hi
      cases hi
      rw [he]
      refine fun D H T σ v Q s k => hs i x _ hx rfl D H T σ v Q s fun σ' ρ2 D' H' q => k σ' ρ2 D' H' (SvP.mono q fun out z => ?_)
      cases out with
      | nx ρ1 => obtain ⟨ρ2, w, z⟩ := z; exact ⟨ρ2, w, by rw [z, take_fold hx]⟩
      | ct ρ1 => obtain ⟨ρ2, w, z⟩ := z; exact ⟨ρ2, w, by rw [z, take_fold hx]⟩
      | bk ρ1 => exact z
      | rt o ρ1 => exact z
      | xc C fs ρ1 => exact z
  · rw [List.length_map, List.take_length] at he
    rw [he]
    exact hd
/-- a loop that goes on while p is false -/
theorem loop_first {g : TG} {ws : List Nat} {tb : TS} (emb : α → Dat) (p : α → Bool) (xs : List α) (ρ0 : Rh) (h0 : ρ = ρ0)
    (hs : ∀ i x, xs[i]? = some x → (∀ y ∈ xs.take i, p y = false) → GvP K g ws ρ0 (emb x) (fun ρ1 => SvP K E tb ρ1 (onT (fun ρ2 => ρ2 = ρ0 ∧ p x = false) S)))
    (hd : (∀ y ∈ xs, p y = false) → S (.nx ρ0)) : LoopP K E g ws tb (xs.map emb) ρ S := by
  refine loop_inv (fun i ρ' => ρ' = ρ0 ∧ ∀ y ∈ xs.take i, p y = false) ⟨h0, by simp⟩ (fun i d ρ' hi he => ?_) (fun ρ' he => ?_)
  · rw [List.getElem?_map] at hi
    cases hx : xs[i]? with
    | none => rw [hx] at hi; cases hi
    | some x =>
      rw [hx] at hi
      cases hi
      rw [he.1]
      refine fun D H T σ v Q s k => hs i x hx he.2 D H T σ v Q s fun σ' ρ2 D' H' q => k σ' ρ2 D' H' (SvP.mono q fun out z => ?_)
      have fin : p x = false → ∀ y ∈ xs.take (i + 1), p y = false := fun hp y hy => by
        rw [List.take_add_one, hx] at hy
        rcases List.mem_append.mp hy with h | h
        · exact he.2 y h
        · simp at h; rw [h]; exact hp
      cases out with
      | nx ρ1 => obtain ⟨ρ2, w, z1, z2⟩ := z; exact ⟨ρ2, w, z1, fin z2⟩
      | ct ρ1 => obtain ⟨ρ2, w, z1, z2⟩ := z; exact ⟨ρ2, w, z1, fin z2⟩
      | bk ρ1 => exact z
      | rt o ρ1 => exact z
      | xc C fs ρ1 => exact z
  · rw [List.length_map, List.take_length] at he
    rw [he.1]
    exact hd he.2
/-- a field of an owned object in a slot -/
theorem ev_fldO {i : Nat} {f : Str} {P : EPost} (hi : ∃ a C gs d, ρ[i]? = some (some (.o a C gs)) ∧ Cls K C ∧ NoAttr K C f ∧ gs.lookup f = some d ∧ P (.ok (.d d)) ρ) : EvP K E (tFld K (tVar i) f) ρ P := by
  intro D H T σ Q s k xo
  obtain ⟨a, C, gs, d, e, hC, hn, hl, q⟩ := hi
  obtain ⟨h1, dx, fs, ha, hf⟩ := s.geto e
  obtain ⟨w, hw, dw⟩ := hf.look hl
  exact ⟨.ref a, h1, a, C, dx, fs, w, rfl, ha, hC, hn, hw, k _ _ _ D H q (s.push dw)⟩
theorem bkG_at {o : Ow} {b : Addr} {r : Rh} : bkG o b (some (.m b) :: r) = some o :: r := by
  show (if b = b then some o :: r else _) = _
  rw [if_pos rfl]
theorem bkG_d {o : Ow} {b : Addr} {x : Dat} {r : Rh} : bkG o b (some (.d x) :: r) = some (.d x) :: bkG o b r := rfl
theorem bkG_n {o : Ow} {b : Addr} {r : Rh} : bkG o b (none :: r) = none :: bkG o b r := rfl
theorem atD_nat {γ : Type} {xs : List γ} {j : Nat} {w : γ} (h : xs[j]? = some w) : atI xs (j : Int) = some w := by
  have hj : j < xs.length := (List.getElem?_eq_some_iff.mp h).1
  unfold atI
  rw [ixN_nat hj]
  exact h
def tupOf (x : Dat) : Dat := match x.seq with
  | some (_, ds) => .tup ds
  | none => .non
end
end DL

/-! ### N. promises that hold where no repr is under way -/
namespace DL
open PySem L2 Evl PySem.Spec PyProof.Rows
section
variable (P : Program) (w : World) (K : PySem.W.Frag) [HasTabs K] (mg : Str → Option Value) (base : Heap)
/-- a function's promise, asked only where nothing is being shown -/
structure FnG (k : Nat) (f : Addr) (fd : FuncData) (ps : List Str) (sp : Sp) : Prop where
  len : ∀ vs H Q E, sp vs H Q E → vs.length = ps.length
  run : ∀ (A : Around) (outer : List Env) (s : Shared) (H : Hp) (args : Args) (us : List Value) (vs : List V) (Q : VK) (E : XK), A.guards = some [] → Room k A → Env0 P w K mg base A outer s H → BindsTo s fd args (ps.zip us) → Vals vs us → sp vs H Q E →
    codeAny (model P w) A (.call (.ref f) args) (CR CX0 outer P w H s Q E) s
structure OkG (k : Nat) (x : Str) (ps : List Str) (R : Pr) : Prop where
  ex : ∃ (f : Addr) (fd : FuncData), mg x = some (.ref f) ∧ PySem.W.keepIn K (.ref f) = true ∧ Binds K fd ps [] ∧ FnG P w K mg base k f fd ps (spOf K R)
end
section
variable {P : Program} {w : World} {K : PySem.W.Frag} [HasTabs K] {mg : Str → Option Value} {base : Heap}
theorem fnG_body {x qual : Str} {st : Stmt} {f : Addr} {fd : FuncData} {N ps : List Str} {k : Nat} {sp : Sp} (F : Fun K x qual st f fd) (S : FnScope N ps (defScope st)) (len : ∀ vs H Q E, sp vs H Q E → vs.length = ps.length)
    (hbody : ∀ (cdv : Value) (A : Around) (outer : List Env) (s : Shared) (H : Hp) (vs : List V) (Q : VK) (E : XK), A.guards = some [] → Room k (A.deeper (envOfC qual (defScope st) s.heap.objs.size f cdv)) → sp vs H Q E →
      ∃ t, PSs (cxOf CX0 P w K mg base N qual (defScope st) f cdv A outer s H E).nox (defBody st) t ∧ t { nx := fun _ H' => Q .non H', rt := Q } (L2.start N vs) H) : FnG P w K mg base (k + 1) f fd ps sp := by
  obtain ⟨oc, od, kV, doc, pm, an, cdv, ct, osl, rfl, lk, hcd⟩ := F.ex
  constructor
  · exact len
  · intro A outer s H args us vs Q E hg hr e0 hb hv h
    obtain ⟨t, ht, hq⟩ := hbody cdv A outer s H vs Q E hg (hr.deeper _) h
    have hl := len _ _ _ _ h
    have hin : K.In s.heap := e0.mod.kin.keeps fun b o e => (e0.bs b o e).1
    refine codeAny_call_function hr.depth (hin _ _ lk) rfl S.co S.gen rfl (PySem.W.codeRec_of hin hcd) (hb _ _ _ _ ?_)
    refine wpAny_newFunctionEnv_cells S.kind (fun y hy => ?_) fun env he s1 x1 => ?_
    · obtain ⟨n, v⟩ := y
      exact (S.par n (List.of_mem_zip hy).1).imp id fun q => ⟨q, PySem.W.cellsFrom_some _ _ _ (.inl q)⟩
    · subst he
      have nl : s.heap.NoLimit := e0.mod.nolimit.keeps fun b o e => (e0.bs b o e).1
      have I := inv_start (CX := CX0) (E := E) S hr.hd e0 hl hv x1
      refine ⟨nl.keeps x1.toInCall.keep, codeAny_func (wpAny_mono (ht.nox.run [] s1 (L2.start N vs) H _ I hq) (fun fl s' z => ?_) fun _ _ z => z)⟩
      cases fl with
      | next =>
        obtain ⟨σ', H', J, z⟩ := z
        exact ⟨V.non, H', J.os, J.bare, J.base, J.hok, rfl, z⟩
      | ret u =>
        obtain ⟨v, σ', H', J, rv, z⟩ := z
        exact ⟨v, H', J.os, J.bare, J.base, J.hok, rv, z⟩
      | brk => exact z.elim fun _ z => z.elim fun _ z => z.2.elim
      | cont => exact z.elim fun _ z => z.elim fun _ z => z.2.elim
theorem Dfn.okG {x qual : Str} {st : Stmt} {N ps : List Str} {k : Nat} {R : Pr} (F : Dfn K mg x qual st ps) (S : FnScope N ps (defScope st)) (hl : ps.length ≤ N.length) (len : ∀ os Pp, R os Pp → os.length = ps.length)
    (noex : ∀ os Pp, R os Pp → R os (fun r us => (match r with | .ok _ => True | .ex _ _ => False) ∧ Pp r us))
    (hbody : ∀ (f : Addr) (cdv : Value) (A : Around) (outer : List Env) (s : Shared) (H : Hp) (E : XK), A.guards = some [] → Room k (A.deeper (PyProof.Rows.envOfC qual (defScope st) s.heap.objs.size f cdv)) →
      ∃ t, PSs (cxOf CX0 P w K mg base N qual (defScope st) f cdv A outer s H E).nox (defBody st) t ∧ ∀ os Pp, R os Pp → SvP K E0 t (os.map some ++ List.replicate (N.length - os.length) none) (retS os Pp)) : OkG P w K mg base (k + 1) x ps R := by
  obtain ⟨f, fd, h1, h2, h3, h4⟩ := F.ex
  refine ⟨f, fd, h1, h2, h3, fnG_body h4 S (fun vs H Q E h => ?_) fun cdv A outer s H vs Q E hg hr h => ?_⟩
  · obtain ⟨D, T, os, Pp, e, _, r, _⟩ := h
    exact e.trans (len os Pp r)
  · obtain ⟨t, ht, hb⟩ := hbody f cdv A outer s H E hg hr
    refine ⟨t, ht, ?_⟩
    obtain ⟨D, T, os, Pp, e, s1, r, k1, k2⟩ := h
    exact run_body (K := K) (E := E0) (R := R) (ps := ps) (by rw [e, len os Pp r]; exact hl) ⟨D, T, os, _, e, s1, noex os Pp r, fun v o us D' H' q => k1 v o us D' H' q.2, fun C fs us D' H' d q => q.1.elim⟩ hb
end
section
variable {X : Cx} {k : Nat} {x : Str} {ps : List Str} {R : Pr} {p pos : Pos} {e : Expr} {es : List Expr} {t : TA}
/-- a call where nothing is being shown -/
theorem pe_fnG {P : Program} {w : World} {K : PySem.W.Frag} [HasTabs K] {mg : Str → Option Value} {base : Heap} (O : OkG P w K mg base k x ps R) (hX : X.prog = P ∧ X.w = w ∧ X.K = K ∧ X.mg = mg ∧ X.base = base) (hgd : X.A.guards = some []) (hr : Room k X.A) (hg : Gl X x) (ha : PA X (e :: es) t) (hdb : (x == ("__debug__" : Str)) = false := by decide)
    (he : starEach (e :: es) X.env = (false, eval e X.env) :: starEach es X.env := by rfl) (hpl : (backTo pos (starEach es X.env)).any (·.1) = false := by rfl) : PE X (.Call (.Name x p) (e :: es) [] pos) (tCall (spOf K R) [] E0 t) := by
  obtain ⟨f, fd, hm, hk, hb, F⟩ := O.ex
  obtain ⟨rfl, rfl, rfl, rfl, rfl⟩ := hX
  constructor
  intro pins s σ H Q I h
  refine wpAny_Call_Name_kw (ld_glob I hg hm ?_ hdb)
  refine PySem.W.callWith_K (h₀ := X.base) I.ok.mod.kin hk ?_ he hpl
  refine wpAny_mono (ha.run pos pins s σ H _ I h) (fun us s1 z => ?_) fun _ _ z => z
  obtain ⟨vs, H1, I1, rv, q⟩ := z
  refine ⟨I1.kIn, ?_⟩
  have r2 := Vals.append rv (.nil : Vals [] [])
  have hl : (us ++ []).length = ps.length := by rw [← r2.length]; exact F.len _ _ _ _ q
  refine wpAny_call (codeAny_mono (F.run X.A X.stack s1 H1 ⟨us, []⟩ (us ++ []) (vs ++ []) Q E0 hgd hr I1.env0 (hb s1 us I1.kIn hl) r2 q) fun r s' z => ?_)
  cases r with
  | error e => exact z.elim
  | ok fl =>
    cases fl with
    | ret u => exact I1.after z
    | _ => exact z.elim
/-! repr of data -/
theorem call_reprD (hgd : X.A.guards = some []) (hu : X.A.units + 65 < cLine) : CallR X (.builtin "repr") (rReprD X.K) := by
  intro pins s σ H xs us Q I r h
  obtain ⟨v, d, rfl, hd, h1, h2, h3, h4, q⟩ := h
  obtain ⟨u, rfl, ru⟩ := r.one
  obtain ⟨as, rd⟩ := Dp.reads I d v u hd ru
  have fin : ∀ (h' : Heap) (u' : Tok) (tk : Nat), (∀ b o, s.heap.get? b = some o → h'.get? b = some o) → EP X pins σ Q (.str d.shown u') { s with heap := h', toks := tk } := fun h' u' tk hk => ⟨.str _, H, I.kept (t' := tk) hk, ⟨_, rfl⟩, q⟩
  have rd0 := rd
  cases rd with
  | none => exact PySem.P.repr_of_none (fin _ _ _ fun _ _ e => e)
  | bool b => exact PySem.P.repr_of_bool (fin _ _ _ fun _ _ e => e)
  | int i t => exact PySem.P.repr_of_int (by simpa [PyData.showable] using h1) (fin _ _ _ fun _ _ e => e)
  | str x t => exact PySem.P.repr_of_str (fin _ _ _ fun _ _ e => e) (by simpa [PyData.shown] using h3)
  | _ => exact repr_of_reads' rd0 h1 (PyData.noDict_hsm h2) hgd (by omega) (fun _ _ e => e) fin h3
end
end DL

/-! ### O. the top of a law, nothing being shown -/
namespace DL
open PySem L2 Evl PySem.Spec PyProof.Rows
/-- a law of a script: true -/
def R_lawS : Pr := fun os Pp => ∃ ns : List Int, os = [.d (.scr ns)] ∧ ns.length ≤ 63 ∧ Pp (.ok (.d (.bl true))) [.d (.scr ns)]
theorem R_lawS_noex (os : List Ow) (Pp : Re → List Ow → Prop) (h : R_lawS os Pp) : R_lawS os (fun r us => (match r with | .ok _ => True | .ex _ _ => False) ∧ Pp r us) := by
  obtain ⟨ns, h1, h2, q⟩ := h
  exact ⟨ns, h1, h2, trivial, q⟩
theorem spOf_law {K : PySem.W.Frag} [HasTabs K] {H : Hp} {a : Addr} {ns : List Int} (hl : ns.length ≤ 63) (hS : SqL K H a (ns.map V.int)) (tb : LamX.Tabs (HasTabs.tt K) H) : spOf K R_lawS [.ref a] H (fun v _ => v = .bl true) fun _ _ _ => False := by
  refine ⟨H, [], [.d (.scr ns)], fun r us => r = .ok (.d (.bl true)) ∧ us = [.d (.scr ns)], rfl, ⟨fun _ _ e => e, fun p hp => ?_,   .nil, List.nodup_nil, (fun b hb => nomatch hb), tb⟩, ⟨ns, rfl, hl, rfl, rfl⟩, ?_, ?_⟩
  · obtain rfl : p = (V.ref a, Ow.d (.scr ns)) := by simpa using hp
    exact .d (.scr hS)
  · rintro v o us D' H' ⟨e1, rfl⟩ _ s
    cases e1
    have hv := s.tm (v, Ow.d (.bl true)) List.mem_cons_self
    cases hv with
    | d hv => cases hv; rfl
  · rintro C fs us D' H' d ⟨e1, _⟩
    cases e1
/-- what is tracked at the entry: the script, if it is no object of the module -/
def scrH (K : PySem.W.Frag) (a : Addr) (o : Obj) (ns : List Int) : Hp := fun b => if b = a ∧ K.lookup a = none then some (.frz o (.lst (ns.map V.int))) else none
theorem topG {P : Program} {w : World} {K : PySem.W.Frag} [HasTabs K] {mg mb : Str → Option Value} {k : Nat} {fa a : Addr} {fd : FuncData} {x : Str} {s₁ : Shared} {vs : List Value} {ns : List Int}
    (KX : K.In s₁.heap) (hns : s₁.heap.Ns mainGlobals mg) (hb : s₁.heap.Ns builtinsNs mb) (hbb : ∀ x : Str, x ≠ "__name__" → mb x = bootBuiltins x) (hlim : s₁.heap.NoLimit) (hg : s₁.gens = #[])
    (ha : s₁.heap.get? a = some { cls := .type "list", data := .seq vs.toArray }) (hi : IntsAre vs ns) (hl : ns.length ≤ 63) (hr : Room k callerA) (ht : HasTabs.tt K = [])
    (F : ∀ base : Heap, K.In base → base.Ns mainGlobals mg → FnG P w K mg base k fa fd [x] (spOf K R_lawS)) (hbind : ∀ (s : Shared) (u : Value), BindsTo s fd ⟨[u], []⟩ [(x, u)]) :
    codeAny (model P w) callerA (.call (.ref fa) ⟨[.ref a], []⟩) (fun r s' => r = .ok (.ret (.bool true)) ∧ PySem.OldK s₁.heap s'.heap ∧ s'.os = s₁.os ∧ AllBare s'.gens) s₁ := by
  have hsz : (ns.map V.int).length ≤ sizeLine := by rw [List.length_map, sizeLine_eq]; omega
  let o : Obj := { cls := .type "list", data := .seq vs.toArray }
  let H := scrH K a o ns
  have hH : ∀ b u, H b = some u → b = a ∧ K.lookup a = none ∧ u = .frz o (.lst (ns.map V.int)) := fun b u z => by
    by_cases c : b = a ∧ K.lookup a = none
    · have z' := (if_pos c).symm.trans z
      exact ⟨c.1, c.2, (Option.some.inj z').symm⟩
    · have z' := (if_neg c).symm.trans z
      cases z'
  have off : ∀ {b : Addr} {ob : Obj}, s₁.heap.get? b = some ob → (∀ n m, ob.data ≠ .seq n m) → H b = none := fun {b ob} e hd => by
    cases q : H b with
    | none => rfl
    | some u =>
      obtain ⟨rfl, _, _⟩ := hH b u q
      rw [ha] at e
      exact absurd (congrArg Obj.data (Option.some.inj e)).symm (hd _ _)
  have ns0 : ∀ {b : Addr} {m : Str → Option Value}, s₁.heap.Ns b m → (hidT s₁.heap H).Ns b m := fun {b m} h => by
    obtain ⟨ob, es, ep, e, d, r⟩ := h
    exact ⟨ob, es, ep, hidT_get e (off e fun n m z => by rw [d] at z; cases z), d, r⟩
  have kin : K.In (hidT s₁.heap H) := fun b ob e => hidT_get (KX b ob e) (by
    cases q : H b with
    | none => rfl
    | some u =>
      obtain ⟨rfl, z, _⟩ := hH b u q
      rw [z] at e; cases e)
  have hM : Mod K mg (hidT s₁.heap H) := ⟨kin, ns0 hns, ⟨mb, ns0 hb, hbb⟩, by
    obtain ⟨mc, h1, h2⟩ := hlim
    exact ⟨mc, ns0 h1, h2⟩⟩
  have hok : HOk P w H s₁.heap := fun b u z => by
    obtain ⟨rfl, _, rfl⟩ := hH b u z
    exact ⟨ha, hsz, vs, _, vals_ints hi, ha⟩
  have e0 : Env0 P w K mg (hidT s₁.heap H) callerA [] s₁ H := ⟨rfl, hM, fun b ob e => of_hidT e, Nat.le_of_eq (hidT_size _ _), trivial, fun b hb => absurd (show b ∈ ([] : List Addr) from hb) (by simp), hok, .of_eq hg⟩
  have hS : SqL K H a (ns.map V.int) := by
    cases hk : K.lookup a with
    | some ok =>
      have e := KX a ok hk
      rw [ha] at e
      cases e
      exact .inr ⟨_, vs.toArray, _, hk, rfl, rfl, rfl, by rw [List.size_toArray, hi.length, sizeLine_eq]; omega, by simpa using vals_ints hi⟩
    | none => exact .inl (.inr ⟨o, if_pos ⟨rfl, hk⟩⟩)
  have run := (F _ kin (ns0 hns)).run callerA [] s₁ H ⟨[.ref a], []⟩ [.ref a] [.ref a] _ _ rfl hr e0 (hbind s₁ (.ref a)) (.cons rfl .nil) (spOf_law hl hS (by rw [ht]; exact fun p hp => nomatch hp))
  refine codeAny_mono run fun r s' z => ?_
  match r, z with
  | .ok (.ret u), z =>
    obtain ⟨v, H', os, bare, un, hok', rv, qv⟩ := z
    have qv : v = .bl true := qv
    subst qv
    obtain rfl : u = Value.bool true := rv
    refine ⟨rfl, PySem.OldK.of_keep fun b ob e => ?_, os, bare⟩
    cases q : H b with
    | none => exact un.keep b ob e q (by intro z; exact absurd (show b ∈ ([] : List Addr) from z) (by simp)) (by simp)
    | some u =>
      obtain ⟨rfl, _, rfl⟩ := hH b u q
      obtain ⟨e2, _⟩ := hok' b _ (un.frzs b o _ q)
      rw [ha] at e
      rw [e2, ← e]
  | .ok .next, z => exact False.elim z
  | .ok .brk, z => exact False.elim z
  | .ok .cont, z => exact False.elim z
  | .error e, z => exact False.elim z
theorem walkG {l : PySem.W.OpenLaw} {k : Nat} {q : Program} {loose : List Str} {XP : (Str → Option Value) → Heap → Prop} {YP : World → Heap → Prop} {d : DefRec} {K : Params → PySem.W.Frag} [i0 : ∀ p, HasTabs (K p)] {x : Str} (ht : ∀ p, HasTabs.tt (K p) = [])
    (hn : l.most = some 63) (hdf : d.params.defaults = []) (hr : Room k callerA) (hY : ∀ (w : World) (h : Heap), YP w h → (K w.params).In h)
    (F : ∀ (w : World) (mg : Str → Option Value) (fa : Addr) (h : Heap), (K w.params).In h → h.Ns mainGlobals mg → mg d.name = some (.ref fa) →
      ∃ fd : FuncData, (∀ (s : Shared) (u : Value), BindsTo s fd ⟨[u], []⟩ [(x, u)]) ∧ ∀ base : Heap, (K w.params).In base → base.Ns mainGlobals mg → FnG l.prog w (K w.params) mg base k fa fd [x] (spOf (K w.params) R_lawS)) :
    PySem.W.WalkO q loose XP YP l.row.toRowW d [] (fun f vs => PySem.call f vs) := by
  refine Att.attach_call hn hdf fun w s₀ s₁ mg mb fa o pm cd doc a vs ns G Y _ _ _ hmg hobj hints hlen hg => ?_
  obtain ⟨fd, hb, hF⟩ := F w mg fa _ (hY w _ Y) G.T.g hmg
  exact topG (hY w _ Y) G.T.g G.T.b G.T.builtins G.T.nolimit hg hobj hints hlen hr (ht _) hF hb
end DL

/-! ### M. walks over a dict's keys, counts, texts of data, lists told backwards -/
namespace DL
open PySem L2 Evl PySem.Spec PyProof.Rows
section
variable {K : PySem.W.Frag} [HasTabs K] {E : XK} {D H : Hp} {T : Tm} {σ : L2.St} {ρ : Rh} {P : EPost} {S : SPost} {te ta tb : TE} {tas : TA} {i : Nat} {a : Addr} {o o' : Ow}
/-- a slot's owned object is told anew -/
theorem Sd.swap {u : HO} (h : Sd K D H T σ ρ) (e : ρ[i]? = some (some o)) (r : o.root = some a) (fo : o.fp = [a]) (fo' : o'.fp = [a]) (q : ∀ H' : Hp, H' a = some u → DenO K D H' (.ref a) o') : Sd K D (upd H a u) T σ (ρ.set i (some o')) := by
  obtain ⟨s0, _⟩ := h.move e r
  have e1 := fpR_none e
  rw [show fpO (some o) = [a] from fo] at e1
  have hl1 : i < ρ.length := (List.getElem?_eq_some_iff.mp e).1
  have fa : D a = none := h.out a (List.mem_append_right _ (e1.mem_iff.mpr (List.mem_append_left _ List.mem_cons_self)))
  have nT : ∀ c ∈ fpT T ++ fpR (ρ.set i none), c ≠ a := fun c hc z => by
    have q : (fpT T ++ (a :: fpR (ρ.set i none))).Nodup := (e1.append_left _).nodup_iff.mp h.nd
    have q2 : (a :: (fpT T ++ fpR (ρ.set i none))).Nodup := List.perm_middle.nodup_iff.mp q
    rw [List.nodup_cons] at q2
    exact q2.1 (by rw [← z]; exact hc)
  have sl0 : Slots K D (upd H a u) σ (ρ.set i none) := (h.sl.none i).keep (Ex.refl D) fun c hc x hx => by rw [upd_ne (nT c (List.mem_append_right _ hc))]; exact hx
  have sl1 := sl0.put s0 (o := o') (q _ upd_same)
  rw [List.set_set] at sl1
  have pm : (fpT T ++ fpR (ρ.set i (some o'))).Perm (fpT T ++ fpR ρ) := by
    refine List.Perm.append_left _ ((fpR_set _ hl1).trans ?_)
    rw [show fpO (some o') = [a] from fo']
    exact e1.symm
  exact .mk' (fun c x hc => by rw [upd_ne (fun z => by rw [z, fa] at hc; cases hc)]; exact h.ex c x hc)
    (fun p hp => (h.tm p hp).keep (Ex.refl D) fun c hc x hx => by rw [upd_ne (nT c (List.mem_append_left _ (mem_fpT hp hc)))]; exact hx) sl1 pm h.nd h.out
/-- a tuple of the heap may be told as data -/
theorem Sd.learn {b : Addr} {vs : List V} {ds : List Dat} (h : Sd K D H T σ ρ) (hb : H b = some (.tup vs)) (q : DenAll K D vs ds) : ∃ D', Sd K D' H ((.ref b, .d (.tup ds)) :: T) σ ρ := by
  cases hD : D b with
  | some u =>
    have := h.ex b u hD
    rw [hb] at this
    cases this
    exact ⟨D, h.push (.tup hD q)⟩
  | none =>
    have nb : ∀ c ∈ fpT T ++ fpR ρ, c ≠ b := fun c hc z => by
      subst z
      have own : ∀ {v : V} {o : Ow}, DenO K D H v o → c ∈ o.fp → False := by
        intro v o hd
        have key : ∀ (n : Nat) {v : V} {o : Ow}, sizeOf o ≤ n → DenO K D H v o → c ∈ o.fp → False := by
          intro n
          induction n with
          | zero => intro v o hs; cases o <;> simp at hs
          | succ n ih =>
            intro v o hs hd hc
            have many : ∀ {vs : List V} {os : List Ow}, sizeOf os ≤ n → DenOs K D H vs os → c ∈ fps os → False := by
              intro vs os
              induction os generalizing vs with
              | nil => intro _ _ hc; unfold fps at hc; exact nomatch hc
              | cons o os ih2 =>
                intro hs hd hc
                cases hd with
                | cons h1 h2 =>
                  unfold fps at hc
                  have hs' : sizeOf o + sizeOf os < n + 1 := by simp at hs; omega
                  rcases List.mem_append.mp hc with z | z
                  · exact ih (by omega) h1 z
                  · exact ih2 (by omega) h2 z
            cases hd with
            | d _ => unfold Ow.fp at hc; exact nomatch hc
            | m _ => unfold Ow.fp at hc; exact nomatch hc
            | l h1 h2 =>
              unfold Ow.fp at hc
              rcases List.mem_cons.mp hc with z | z
              · subst z; rw [hb] at h1; cases h1
              · exact many (by simp at hs; omega) h2 z
            | t h1 _ => unfold Ow.fp at hc; rw [List.mem_singleton] at hc; subst hc; rw [hb] at h1; cases h1
            | z h1 _ => unfold Ow.fp at hc; rw [List.mem_singleton] at hc; subst hc; rw [hb] at h1; cases h1
            | o h1 _ => unfold Ow.fp at hc; rw [List.mem_singleton] at hc; subst hc; rw [hb] at h1; cases h1
        exact key _ (Nat.le_refl _) hd
      rcases List.mem_append.mp hc with z | z
      · have : ∀ (T : Tm), (∀ p ∈ T, DenO K D H p.1 p.2) → c ∈ fpT T → False := by
          intro T
          induction T with
          | nil => intro _ z; exact nomatch (show c ∈ ([] : List Addr) from z)
          | cons x T ih =>
            intro q z
            rcases List.mem_append.mp z with z | z
            · exact own (q x List.mem_cons_self) z
            · exact ih (fun p hp => q p (List.mem_cons_of_mem _ hp)) z
        exact this T h.tm z
      · have : ∀ {σ : L2.St} {ρ : Rh}, Slots K D H σ ρ → c ∈ fpR ρ → False := by
          intro σ ρ s
          induction s with
          | nil => intro z; exact nomatch (show c ∈ ([] : List Addr) from z)
          | skip _ ih => intro z; exact ih (by simpa [fpR, fpO] using z)
          | cons h1 _ ih =>
            intro z
            rcases List.mem_append.mp z with z | z
            · exact own h1 z
            · exact ih z
        exact this h.sl z
    have e1 : Ex D (upd D b (.tup vs)) := Ex.new hD
    refine ⟨upd D b (.tup vs), (h.grow e1 (fun c x hc => ?_) (fun _ _ _ hx => hx) fun c hc => by rw [upd_ne (nb c hc)]; exact h.out c hc).push (.tup upd_same (q.mono e1))⟩
    by_cases z : c = b
    · subst z; rw [upd_same] at hc; cases hc; exact hb
    · rw [upd_ne z] at hc; exact h.ex c x hc
def zS (i : Nat) (a : Addr) (ob : Obj) (kvs : List (List Key × V)) (kds : List (List Key × Dat)) (S : SPost) : SPost := fun out => match out with
  | .nx ρ => ρ[i]? = some (some (.z a ob kvs kds)) ∧ S (.nx (ρ.set i (some (.t a kds))))
  | .rt o ρ => ρ[i]? = some (some (.z a ob kvs kds)) ∧ o.fp = [] ∧ S (.rt o (ρ.set i (some (.t a kds))))
  | .bk ρ => ρ[i]? = some (some (.z a ob kvs kds)) ∧ S (.bk (ρ.set i (some (.t a kds))))
  | .ct ρ => ρ[i]? = some (some (.z a ob kvs kds)) ∧ S (.ct (ρ.set i (some (.t a kds))))
  | .xc _ _ _ => False
theorem key_all (k : List Key) : DenAll K D (k.map kV) (k.map fun x => match x with | .inl i => Dat.int i | .inr s => .str s) := by
  induction k with
  | nil => exact .nil
  | cons x k ih => cases x <;> exact .cons (by constructor) ih
/-- for k in d: d owned in slot i, its keys tuples -/
theorem sv_forK {g : TG} {ws : List Nat} {tb : TS} {kds : List (List Key × Dat)} (e : ρ[i]? = some (some (.t a kds))) (I : Obj → List (List Key × V) → Nat → Rh → Prop)
    (h0 : ∀ ob kvs, I ob kvs 0 (ρ.set i (some (.z a ob kvs kds)))) (hz : ∀ ob kvs n ρ', I ob kvs n ρ' → ρ'[i]? = some (some (.z a ob kvs kds)))
    (hs : ∀ ob kvs n k d ρ', kds[n]? = some (k, d) → I ob kvs n ρ' → GvP K g ws ρ' (keyD k) (fun ρ1 => SvP K E tb ρ1 (onT (I ob kvs (n + 1)) (zS i a ob kvs kds S))))
    (hd : ∀ ob kvs ρ', I ob kvs kds.length ρ' → S (.nx (ρ'.set i (some (.t a kds))))) : SvP K E (tLock (tFor (iKeys (tVar i)) g tb)) ρ S := by
  intro D H T σ En s w
  obtain ⟨s0, kvs, ha, dk⟩ := s.gett e
  refine ⟨a, .dT kvs, ha, trivial, fun ob => ?_⟩
  have s1 : Sd K D (upd H a (.frz ob (.dT kvs))) T σ (ρ.set i (some (.z a ob kvs kds))) := s.swap e rfl rfl rfl fun H' hH' => .z hH' dk
  refine ⟨.ref a, s0, a, ob, rfl, .inr ⟨kvs, upd_same, ?_⟩⟩
  have hlen : kvs.length = kds.length := dk.length
  have back : ∀ {D' H' : Hp} {T' : Tm} {σ' : L2.St} {ρ' : Rh}, Sd K D' H' T' σ' ρ' → ρ'[i]? = some (some (.z a ob kvs kds)) → H' a = some (.frz ob (.dT kvs)) ∧ Sd K D' (upd H' a (.dT kvs)) T' σ' (ρ'.set i (some (.t a kds))) := fun s' e' => by
    obtain ⟨_, h1, h2⟩ := s'.getz e'
    exact ⟨h1, s'.swap e' rfl rfl rfl fun H' hH' => .t hH' h2⟩
  refine ⟨fun n m σ' H' => n + m = kds.length ∧ ∃ D' ρ', Sd K D' H' T σ' ρ' ∧ I ob kvs n ρ', ⟨kds.length, by omega, D, _, s1, h0 ob kvs⟩, ?_⟩
  rintro n m σ' H' ⟨hm, D', ρ', s', q'⟩
  obtain ⟨_, hH', dk'⟩ := s'.getz (hz _ _ _ _ q')
  by_cases hn : n < kds.length
  · refine .inr ⟨⟨hH', by omega⟩, fun σ2 H2 => ∃ D2 ρ2, Sd K D2 H2 T σ2 ρ2 ∧ I ob kvs (n + 1) ρ2, fun σ2 H2 ⟨D2, ρ2, z1, z2⟩ => ⟨m - 1, by omega, by omega, D2, ρ2, z1, z2⟩, fun x H2 y => ?_⟩
    obtain ⟨rfl, k, v, b, hk, rfl, hb⟩ := y
    have hkd : ∃ d, kds[n]? = some (k, d) := by
      have := dk.keys
      have e1 : (kvs.map (·.1))[n]? = some k := by rw [List.getElem?_map, hk]; rfl
      rw [this, List.getElem?_map] at e1
      cases hx : kds[n]? with
      | none => rw [hx] at e1; cases e1
      | some p => rw [hx] at e1; cases e1; exact ⟨p.2, rfl⟩
    obtain ⟨d, hkd⟩ := hkd
    obtain ⟨D2, s2⟩ := s'.learn hb (key_all k)
    refine hs ob kvs n k d ρ' hkd q' D2 H2 T σ' _ _ s2 fun σ3 ρ3 D3 H3 q3 s3 _ => ?_
    refine q3 D3 H3 T σ3 _ s3 ⟨?_, ?_, ?_, ?_, ?_⟩
    · rintro ρ4 D4 H4 σ4 ⟨ρ5, w5, q5⟩ s4
      exact ⟨D4, ρ5, s4.wk w5, q5⟩
    · rintro v o ρ4 D4 H4 σ4 ⟨z1, z2, z3⟩ s4
      obtain ⟨g1, g2⟩ := back s4 z1
      exact ⟨g1, w.rt v o _ D4 _ σ4 z3 g2⟩
    · rintro ρ4 D4 H4 σ4 ⟨z1, z3⟩ s4
      obtain ⟨g1, g2⟩ := back s4 z1
      exact ⟨g1, w.nx _ D4 _ σ4 z3 g2⟩
    · rintro ρ4 D4 H4 σ4 ⟨ρ5, w5, q5⟩ s4
      exact ⟨D4, ρ5, s4.wk w5, q5⟩
    · intro C fs ρ4 D4 H4 σ4 d4 q4 s4 x4
      exact q4.elim
  · have e2 : n = kds.length := by omega
    subst e2
    refine .inl ⟨⟨hH', by omega⟩, ?_⟩
    obtain ⟨g1, g2⟩ := back s' (hz _ _ _ _ q')
    exact ⟨g1, w.nx _ D' _ σ' (hd _ _ _ q') g2⟩
/-- d[y], d frozen in a slot -/
theorem ev_dgetZ (hi : ∃ a ob kvs kds, ρ[i]? = some (some (.z a ob kvs kds))) (h : EvP K E te ρ (bnd (fun y ρ1 => ρ1 = ρ ∧ ∃ a ob kvs kds k w, ρ[i]? = some (some (.z a ob kvs kds)) ∧ y = .d (keyD k) ∧ valD kds k = some w ∧ P (.ok (.d w)) ρ1) P)) : EvP K E (tDGet (tVar i) te) ρ P := by
  intro D H T σ Q s k xo
  obtain ⟨a0, ob0, kvs0, kds0, e0⟩ := hi
  obtain ⟨s0, h0, _⟩ := s.getz e0
  refine ⟨.ref a0, s0, ?_⟩
  refine h D H T σ _ s (fun u y ρ1 D1 H1 q1 s1 => ?_) (xo.sub0 fun _ _ _ z => z)
  obtain ⟨rfl, a, ob, kvs, kds, key, w, e2, rfl, hw, q⟩ := q1
  rw [e0] at e2
  cases e2
  have hy := s1.tm (u, _) List.mem_cons_self
  cases hy with
  | d hy =>
    obtain ⟨b, rfl, hb⟩ := den_key hy
    have s3 := s1.pop
    obtain ⟨_, hk, dk⟩ := s3.getz e0
    obtain ⟨v1, v2⟩ := dk.val (k := key)
    obtain ⟨v, g1, g2⟩ := v2 w hw
    exact ⟨a0, v, rfl, .inr ⟨_, key, b, .inr ⟨_, hk⟩, rfl, s3.ex _ _ hb, g1.symm⟩, k _ _ _ D1 H1 q (s3.push g2)⟩
/-- found is None, found owned -/
theorem ev_isNt (h : ∃ a kds, ρ[i]? = some (some (.t a kds)) ∧ P (.ok (.d (.bl false))) ρ) : EvP K E (tOp rIsN (tVar i) (tC .non)) ρ P := by
  intro D H T σ Q s k xo
  obtain ⟨a, kds, e, q⟩ := h
  obtain ⟨s0, _⟩ := s.gett e
  refine ⟨.ref a, s0, rfl, ?_⟩
  exact k _ _ _ D H q (s.push (.bl false))
/-- xs[::-1] -/
theorem ev_rev (h : EvP K E te ρ (bnd (fun x ρ1 => ∃ ds, SqO x false ds ∧ P (.ok (.d (.lst ds.reverse))) (bk x ρ1)) P)) : EvP K E (tRevL K te) ρ P := by
  intro D H T σ Q s k xo
  refine h D H T σ _ s (fun v x ρ1 D1 H1 q1 s1 => ?_) (xo.sub0 fun _ _ _ z => z)
  obtain ⟨ds, q, hp⟩ := q1
  obtain ⟨b, xs, rfl, g1, g2⟩ := q.rd s1.ex (s1.tm (v, _) List.mem_cons_self)
  have s2 : Sd K D1 H1 T σ (bk x ρ1) := Sd.bk (v := V.ref b) (o := x) s1
  exact ⟨b, xs, rfl, g1, fun l hl => k _ _ _ _ _ hp ((s2.new hl _).push (.lst upd_same (g2.rev.mono (Ex.new (s2.dnone hl)))))⟩
/-- repr(x) -/
theorem acb_repr {x : Dat} (hp : x.pure = true) (h1 : x.py.showable = true) (h2 : x.py.hasDict = false) (h3 : x.py.shown.length ≤ sizeLine) (h4 : x.py.depth ≤ 64) : ACb K (rReprD K) [x] (.str x.py.shown) := ⟨rfl, fun H vs Q h q => by
  cases h with
  | cons hv ht =>
    cases ht
    exact ⟨_, _, rfl, hv.dp hp, h1, h2, h3, h4, q⟩⟩
theorem ev_repr (h : AvP K E tas ρ (fun os ρ1 => ∃ x, os = [.d x] ∧ (x.pure = true ∧ x.py.showable = true ∧ x.py.hasDict = false ∧ x.py.shown.length ≤ sizeLine ∧ x.py.depth ≤ 64) ∧ P (.ok (.d (.str x.py.shown))) ρ1) P) : EvP K E (tCB (rReprD K) tas) ρ P :=
  ev_cb (h.mono fun os ρ1 q => by
    obtain ⟨x, rfl, ⟨g1, g2, g3, g4, g5⟩, q⟩ := q
    exact ⟨rfl, _, acb_repr g1 g2 g3 g4 g5, q⟩)
theorem aop_neS {x y : Str} : AOp K rNe (.str x) (.str y) (.bl (!decide (x = y))) := ⟨rfl, fun H v w Q h1 h2 q => by
  cases h1; cases h2
  refine ⟨rfl, ?_⟩
  have e : decide (V.str x = V.str y) = decide (x = y) := decide_eq_decide.mpr ⟨fun z => V.str.inj z, fun z => by rw [z]⟩
  rw [e]; exact q⟩
theorem ev_neS (h : EvP K E ta ρ (bnd (fun x ρ1 => EvP K E tb ρ1 (bnd (fun y ρ2 => ∃ i j, x = .d (.str i) ∧ y = .d (.str j) ∧ P (.ok (.d (.bl (!decide (i = j))))) ρ2) P)) P)) : EvP K E (tOp rNe ta tb) ρ P := by
  refine ev_op (h.mono fun r ρ1 z => ?_)
  cases r with
  | ex C fs => exact z
  | ok x =>
    refine EvP.mono z fun r ρ2 z2 => ?_
    cases r with
    | ex C fs => exact z2
    | ok y =>
      obtain ⟨i, j, rfl, rfl, q⟩ := z2
      exact ⟨rfl, rfl, _, aop_neS, q⟩
/-! tuple.count -/
def rTCount (K : PySem.W.Frag) : V → List V → Hp → VK → Prop := fun x xs H Q => ∃ (a : Addr) (y : V) (ds : List PyData) (d : PyData), x = .ref a ∧ xs = [y] ∧ Dp K H x (.tuple ds) ∧ Dp K H y d ∧ PyData.plainAll ds = true ∧ d.plain = true ∧ d.depth ≤ 60 ∧ Q (.int ((ds.countP fun z => PyData.eqv z d : Nat) : Int)) H
theorem mt_tcount {X : Cx} (hu : X.A.units + 65 < cLine) : MtR X "tuple.count" (rTCount X.K) := by
  intro pins s σ H x xs v us Q I rx rxs h
  obtain ⟨a, y, ds, d, rfl, rfl, hl, hy, sl, sd, hz, q⟩ := h
  obtain ⟨uy, rfl, ry⟩ := rxs.one
  cases rx
  obtain ⟨bs, r1⟩ := Dp.reads I d y uy hy ry
  obtain ⟨as, r2⟩ := Dp.reads I (.tuple ds) (.ref a) (.ref a) hl rfl
  cases r2 with
  | tuple h1 h2 h3 h4 =>
    rename_i ob vs n
    exact PySem.SeqAt.count_tuple_data (vs := vs) ⟨ob, h1, h2, n, h3⟩ h4 r1 sl sd (by omega) ⟨.int _, H, I.tok _, ⟨_, rfl⟩, q⟩
/-! deep == of data -/
theorem ev_eqD (h : EvP K E ta ρ (bnd (fun x ρ1 => EvP K E tb ρ1 (bnd (fun y ρ2 => ∃ x' y' b, x = .d x' ∧ y = .d y' ∧ (x'.pure = true ∧ y'.pure = true ∧ SeqAt.shaped x'.py = true ∧ SeqAt.shaped y'.py = true) ∧ PyData.eqv x'.py y'.py = b ∧ P (.ok (.d (.bl b))) ρ2) P)) P)) : EvP K E (tOp (rEqD K) ta tb) ρ P := by
  refine ev_op (h.mono fun r ρ1 z => ?_)
  cases r with
  | ex C fs => exact z
  | ok x =>
    refine EvP.mono z fun r ρ2 z2 => ?_
    cases r with
    | ex C fs => exact z2
    | ok y =>
      obtain ⟨x', y', b, rfl, rfl, ⟨g1, g2, g3, g4⟩, rfl, q⟩ := z2
      exact ⟨rfl, rfl, _, aop_eqD g1 g2 g3 g4, q⟩
theorem ev_neD (h : EvP K E ta ρ (bnd (fun x ρ1 => EvP K E tb ρ1 (bnd (fun y ρ2 => ∃ x' y' b, x = .d x' ∧ y = .d y' ∧ (x'.pure = true ∧ y'.pure = true ∧ SeqAt.shaped x'.py = true ∧ SeqAt.shaped y'.py = true) ∧ PyData.eqv x'.py y'.py = b ∧ P (.ok (.d (.bl (!b)))) ρ2) P)) P)) : EvP K E (tOp (rNeD K) ta tb) ρ P := by
  refine ev_op (h.mono fun r ρ1 z => ?_)
  cases r with
  | ex C fs => exact z
  | ok x =>
    refine EvP.mono z fun r ρ2 z2 => ?_
    cases r with
    | ex C fs => exact z2
    | ok y =>
      obtain ⟨x', y', b, rfl, rfl, ⟨g1, g2, g3, g4⟩, rfl, q⟩ := z2
      exact ⟨rfl, rfl, _, aop_neD g1 g2 g3 g4, q⟩
end
end DL

/-! ### P. defaults and keywords -/
namespace DL
open PySem L2 Evl PySem.Spec PyProof.Rows
section
variable (P : Program) (w : World) (K : PySem.W.Frag) [HasTabs K] (mg : Str → Option Value) (base : Heap)
/-- a def with a default behind: how it may be called -/
structure DfnD (x qual : Str) (st : Stmt) (ps : List Str) (dv : V) : Prop where
  ex : ∃ (f : Addr) (fd : FuncData), mg x = some (.ref f) ∧ PySem.W.keepIn K (.ref f) = true ∧ FunD K x qual (defArgs st) (defBody st) (defScope st) [dv] [] f fd ∧ Binds K fd ps [] ∧ (∃ u, Vals [dv] [u] ∧ Binds K fd ps [u]) ∧ KBn K fd ps 0 ps.reverse (fun _ ws => ws.reverse) (fun _ zs => zs.reverse)
structure CfnD (x qual : Str) (st : Stmt) (ps : List Str) (C : Addr) (dv : V) : Prop where
  ex : ∃ (f : Addr) (fd : FuncData), mg x = some (.ref C) ∧ Mk K C f ∧ FunD K "__init__" qual (defArgs st) (defBody st) (defScope st) [dv] [] f fd ∧ Binds K fd ps []
/-- called with its default -/
structure OkF (k : Nat) (x : Str) (ps : List Str) (R : Pr) (dv : V) : Prop where
  ex : ∃ (f : Addr) (fd : FuncData) (u : Value), mg x = some (.ref f) ∧ PySem.W.keepIn K (.ref f) = true ∧ Vals [dv] [u] ∧ Binds K fd ps [u] ∧ FnOk P w K mg base CX0 k f fd ps (spOf K R)
/-- called by keywords, the parameters told from the last one to the first -/
structure OkK (k : Nat) (x : Str) (ps : List Str) (R : Pr) : Prop where
  ex : ∃ (f : Addr) (fd : FuncData), mg x = some (.ref f) ∧ PySem.W.keepIn K (.ref f) = true ∧ KBn K fd ps 0 ps.reverse (fun _ ws => ws.reverse) (fun _ zs => zs.reverse) ∧ FnOk P w K mg base CX0 k f fd ps (spOf K R)
/-- a def without defaults that is called by keywords, too -/
structure DfnK (x qual : Str) (st : Stmt) (ps : List Str) : Prop where
  ex : ∃ (f : Addr) (fd : FuncData), mg x = some (.ref f) ∧ PySem.W.keepIn K (.ref f) = true ∧ Binds K fd ps [] ∧ KBn K fd ps 0 ps.reverse (fun _ ws => ws.reverse) (fun _ zs => zs.reverse) ∧ Fun K x qual st f fd
end
section
variable {P : Program} {w : World} {K : PySem.W.Frag} [HasTabs K] {mg : Str → Option Value} {base : Heap}
theorem def_okD {x qual : Str} {st : Stmt} {f : Addr} {fd : FuncData} {N ps : List Str} {k : Nat} {R : Pr} {dvs : List V} (F : FunD K x qual (defArgs st) (defBody st) (defScope st) dvs [] f fd) (S : FnScope N ps (defScope st)) (hl : ps.length ≤ N.length) (len : ∀ os Pp, R os Pp → os.length = ps.length)
    (hbody : ∀ (cdv : Value) (A : Around) (outer : List Env) (s : Shared) (H : Hp) (E : XK), Room k (A.deeper (PyProof.Rows.envOfC qual (defScope st) s.heap.objs.size f cdv)) →
      ∃ t, PSs (cxOf CX0 P w K mg base N qual (defScope st) f cdv A outer s H E).nox (defBody st) t ∧ ∀ os Pp, R os Pp → SvP K E0 t (os.map some ++ List.replicate (N.length - os.length) none) (retS os Pp))
    (noex : ∀ os Pp, R os Pp → R os (fun r us => (match r with | .ok _ => True | .ex _ _ => False) ∧ Pp r us)) : FnOk P w K mg base CX0 (k + 1) f fd ps (spOf K R) := by
  refine F.ok S (fun vs H Q E h => ?_) (fun cdv A outer s H vs Q E hr h => ?_)
  · obtain ⟨D, T, os, Pp, e, _, r, _⟩ := h
    exact e.trans (len os Pp r)
  · obtain ⟨t, ht, hb⟩ := hbody cdv A outer s H E hr
    refine ⟨t, ht.nox, ?_⟩
    obtain ⟨D, T, os, Pp, e, s1, r, k1, k2⟩ := h
    exact run_body (K := K) (E := E0) (R := R) (ps := ps) (by rw [e, len os Pp r]; exact hl) ⟨D, T, os, _, e, s1, noex os Pp r, fun v o us D' H' q => k1 v o us D' H' q.2, fun C fs us D' H' d q => q.1.elim⟩ hb
theorem DfnD.ok {x qual : Str} {st : Stmt} {N ps : List Str} {k : Nat} {R : Pr} {dv : V} (F : DfnD K mg x qual st ps dv) (S : FnScope N ps (defScope st)) (hl : ps.length ≤ N.length) (len : ∀ os Pp, R os Pp → os.length = ps.length)
    (noex : ∀ os Pp, R os Pp → R os (fun r us => (match r with | .ok _ => True | .ex _ _ => False) ∧ Pp r us))
    (hbody : ∀ (f : Addr) (cdv : Value) (A : Around) (outer : List Env) (s : Shared) (H : Hp) (E : XK), Room k (A.deeper (PyProof.Rows.envOfC qual (defScope st) s.heap.objs.size f cdv)) →
      ∃ t, PSs (cxOf CX0 P w K mg base N qual (defScope st) f cdv A outer s H E).nox (defBody st) t ∧ ∀ os Pp, R os Pp → SvP K E0 t (os.map some ++ List.replicate (N.length - os.length) none) (retS os Pp)) :
    Ok P w K mg base (k + 1) x ps R ∧ OkF P w K mg base (k + 1) x ps R dv ∧ OkK P w K mg base (k + 1) x ps R := by
  obtain ⟨f, fd, h1, h2, h3, h4, ⟨u, h5, h6⟩, h7⟩ := F.ex
  have G := def_okD h3 S hl len (hbody f) noex
  exact ⟨⟨f, fd, h1, h2, h4, G⟩, ⟨f, fd, u, h1, h2, h5, h6, G⟩, ⟨f, fd, h1, h2, h7, G⟩⟩
theorem CfnD.ok {x qual : Str} {st : Stmt} {N ps : List Str} {k : Nat} {R : Pr} {C : Addr} {dv : V} (F : CfnD K mg x qual st ps C dv) (S : FnScope N ps (defScope st)) (hl : ps.length ≤ N.length) (len : ∀ os Pp, R os Pp → os.length = ps.length)
    (noex : ∀ os Pp, R os Pp → R os (fun r us => (match r with | .ok _ => True | .ex _ _ => False) ∧ Pp r us))
    (hbody : ∀ (f : Addr) (cdv : Value) (A : Around) (outer : List Env) (s : Shared) (H : Hp) (E : XK), Room k (A.deeper (PyProof.Rows.envOfC qual (defScope st) s.heap.objs.size f cdv)) →
      ∃ t, PSs (cxOf CX0 P w K mg base N qual (defScope st) f cdv A outer s H E).nox (defBody st) t ∧ ∀ os Pp, R os Pp → SvP K E0 t (os.map some ++ List.replicate (N.length - os.length) none) (retS os Pp)) : OkC P w K mg base (k + 1) x ps C R := by
  obtain ⟨f, fd, h1, h2, h3, h4⟩ := F.ex
  exact ⟨f, fd, h1, h2, h4, def_okD h3 S hl len (hbody f) noex⟩
theorem DfnK.ok {x qual : Str} {st : Stmt} {N ps : List Str} {k : Nat} {R : Pr} (F : DfnK K mg x qual st ps) (S : FnScope N ps (defScope st)) (hl : ps.length ≤ N.length) (len : ∀ os Pp, R os Pp → os.length = ps.length)
    (noex : ∀ os Pp, R os Pp → R os (fun r us => (match r with | .ok _ => True | .ex _ _ => False) ∧ Pp r us))
    (hbody : ∀ (f : Addr) (cdv : Value) (A : Around) (outer : List Env) (s : Shared) (H : Hp) (E : XK), Room k (A.deeper (PyProof.Rows.envOfC qual (defScope st) s.heap.objs.size f cdv)) →
      ∃ t, PSs (cxOf CX0 P w K mg base N qual (defScope st) f cdv A outer s H E).nox (defBody st) t ∧ ∀ os Pp, R os Pp → SvP K E0 t (os.map some ++ List.replicate (N.length - os.length) none) (retS os Pp)) :
    Ok P w K mg base (k + 1) x ps R ∧ OkK P w K mg base (k + 1) x ps R := by
  obtain ⟨f, fd, h1, h2, h3, h4, h5⟩ := F.ex
  have G := def_ok h5 S hl len (hbody f) noex
  exact ⟨⟨f, fd, h1, h2, h3, G⟩, ⟨f, fd, h1, h2, h4, G⟩⟩
end
section
variable {X : Cx} {k : Nat} {x : Str} {ps : List Str} {R : Pr} {p pos : Pos} {e : Expr} {es : List Expr} {t tk : TA} {dv : V} {kws : List Keyword}
theorem pe_fnF {P : Program} {w : World} {K : PySem.W.Frag} [HasTabs K] {mg : Str → Option Value} {base : Heap} (O : OkF P w K mg base k x ps R dv) (hX : X.prog = P ∧ X.w = w ∧ X.K = K ∧ X.mg = mg ∧ X.base = base) (hr : Room k X.A) (hg : Gl X x) (ha : PA X (e :: es) t) (hdb : (x == ("__debug__" : Str)) = false := by decide)
    (he : starEach (e :: es) X.env = (false, eval e X.env) :: starEach es X.env := by rfl) (hpl : (backTo pos (starEach es X.env)).any (·.1) = false := by rfl) : PE X (.Call (.Name x p) (e :: es) [] pos) (tCall (spOf K R) [dv] E0 t) := by
  obtain ⟨f, fd, u, hm, hk, hv, hb, F⟩ := O.ex
  obtain ⟨rfl, rfl, rfl, rfl, rfl⟩ := hX
  exact pe_call F hr hg hm hk hb hv pass0 ha hdb he hpl
/-- a def run by names alone, the parameters told from the last one to the first -/
theorem run_byname [HasTabs X.K] {fd : FuncData} {f : Addr} {pins : List (Addr × Obj)} {σ : L2.St} {H : Hp} {s : Shared} {Q : VK} {ws : List Value} {zs : List V} (F : FnOk X.prog X.w X.K X.mg X.base CX0 k f fd ps (spOf X.K R)) (hr : Room k X.A)
    (hb : KBn X.K fd ps 0 ps.reverse (fun _ ws => ws.reverse) (fun _ zs => zs.reverse)) (I : Inv X pins σ H s) (rz : Vals zs ws) (h : spOf X.K R zs.reverse H Q E0) :
    wpAny (model X.prog X.w) X.A (call (.ref f) [] (ps.reverse.zip ws)) (EP X pins σ Q) X.xe s := by
  have rv : Vals zs.reverse ws.reverse := hb.rel .nil rz
  have en : zs.reverse.length = ps.length := F.len _ _ _ _ h
  have ew : ws.length = ps.reverse.length := by
    have := rz.length
    rw [List.length_reverse] at en ⊢
    omega
  refine wpAny_call (codeAny_mono (F.run X.A X.stack s H _ _ _ Q E0 hr I.env0 (hb.to s [] ws I.kIn rfl ew) rv h) ?_)
  intro r s2 z
  match r, z with
  | .ok (.ret u), z => exact I.after z
  | .error e, z => exact pass0 pins σ H s e s2 I z
  | .ok .next, z => exact z.elim
  | .ok .brk, z => exact z.elim
  | .ok .cont, z => exact z.elim
/-- keywords alone -/
theorem pe_fnK {P : Program} {w : World} {K : PySem.W.Frag} [HasTabs K] {mg : Str → Option Value} {base : Heap} (O : OkK P w K mg base k x ps R) (hX : X.prog = P ∧ X.w = w ∧ X.K = K ∧ X.mg = mg ∧ X.base = base) (hr : Room k X.A) (hg : Gl X x) (hkw : PK X kws tk) (hks : (backToKw pos (keywordEach kws X.env)).filterMap (·.1) = ps.reverse := by rfl) (hdb : (x == ("__debug__" : Str)) = false := by decide)
    (hall : (backToKw pos (keywordEach kws X.env)).all (·.1.isSome) = true := by rfl) (hpl : (backToKw pos (keywordEach kws X.env)).any (·.1.isNone) = false := by rfl) : PE X (.Call (.Name x p) [] kws pos) (tCallK (spOf K R) (fun _ zs => zs.reverse) E0 tNil tk) := by
  obtain ⟨f, fd, hm, hk, hb, F⟩ := O.ex
  obtain ⟨rfl, rfl, rfl, rfl, rfl⟩ := hX
  constructor
  intro pins s σ H Q I h
  refine wpAny_Call_Name_kw (ld_glob I hg hm ?_ hdb)
  refine PySem.W.callWith_KW0 (h₀ := X.base) I.ok.mod.kin hk hall ?_ hpl
  refine wpAny_mono (hkw.run pos pins s σ H _ I h) (fun ws s2 z => ?_) fun _ _ z => z
  obtain ⟨zs, H2, I2, rz, q2⟩ := z
  refine ⟨I2.kIn, ?_⟩
  rw [hks]
  exact run_byname F hr hb I2 rz q2
end
section
variable {K : PySem.W.Frag} [HasTabs K] {E : XK} {ρ : Rh} {P : EPost} {tas : TA}
theorem zip_rev {α β : Type} : ∀ {vs : List α} {os : List β}, vs.length = os.length → vs.reverse.zip os.reverse = (vs.zip os).reverse
  | [], [], _ => rfl
  | v :: vs, o :: os, e => by
    have e' : vs.length = os.length := by simpa using e
    rw [List.reverse_cons, List.reverse_cons, List.zip_append (by rw [List.length_reverse, List.length_reverse, e']), zip_rev e']
    show _ = ((v, o) :: vs.zip os).reverse
    rw [List.reverse_cons]
    rfl
/-- a call by keywords, the parameters told from the last one to the first -/
theorem ev_callK {R : Pr} (h : AvP K E tas ρ (fun os ρ1 => R os.reverse (fun r os' => P r (bks os' ρ1))) P) : EvP K E (tCallK (spOf K R) (fun _ zs => zs.reverse) E tNil tas) ρ P := by
  have g : EvP K E (tCall (fun vs => spOf K R vs.reverse) [] E tas) ρ P := by
    intro D H T σ Q s k xo
    refine h D H T σ _ s (fun vs os ρ1 D1 H1 q1 e1 s1 => ?_) xo
    rw [List.append_nil]
    have e2 : vs.reverse.length = os.reverse.length := by rw [List.length_reverse, List.length_reverse, e1]
    refine ⟨D1, T ++ toTm σ ρ1, os.reverse, fun r us => P r (bks us ρ1), e2, ?_, q1, ?_, ?_⟩
    · rw [zip_rev e1]
      have s2 := s1.out'
      rw [List.append_assoc] at s2
      exact s2.perm ((List.reverse_perm _).symm.append_right _)
    · intro v o us D' H' hp e3 s3
      have s4 : Sd K D' H' ((v, o) :: (vs.reverse.zip us ++ T) ++ toTm σ ρ1) [] [] := by
        rw [List.cons_append, List.append_assoc]
        exact s3
      have s5 := Sd.inn s1.sl s4
      exact k v o _ D' H' hp (Sd.bks2 e3 s5)
    · intro C fs us D' H' d hp e3 s3 x3
      rw [← List.append_assoc] at s3
      have s5 := Sd.inn s1.sl s3
      exact xo C fs _ D' H' d hp (Sd.bks e3 s5) x3
  intro D H T σ Q s k xo
  have := g D H T σ Q s k xo
  show tas σ H fun zs H2 => spOf K R zs.reverse H2 Q E
  refine cast ?_ this
  show (tas σ H fun vs H1 => spOf K R (vs ++ []).reverse H1 Q E) = _
  simp only [List.append_nil]
end
end DL

/-! ### Q. rows of rows: appended to, asked whether empty, told as data -/
namespace DL
open PySem L2 Evl PySem.Spec PyProof.Rows
def tTru (K : PySem.W.Frag) (ta : TE) : TT := fun σ H Q => ta σ H fun x H' => ∃ k, TruV K x H' k ∧ Q k H'
theorem pt_truK {X : Cx} {K : PySem.W.Frag} [HasTabs K] {a : Expr} {ta : TE} (hK : X.K = K) (ha : PE X a ta) (he : ∀ whole, isTrue a X.env whole = (do let v ← whole; standAt a.pos; holding [v] (truthy v))) : PT X a (tTru K ta) := by
  subst hK
  exact pt_truth ha he
section
variable {K : PySem.W.Frag} [HasTabs K] {E : XK} {D H : Hp} {T : Tm} {σ : L2.St} {ρ : Rh} {P : EPost} {S : SPost} {te ta tb tj : TE} {tas : TA} {i : Nat} {a b : Addr} {o o' : Ow} {v : V}
/-- xs[j] as a test, xs and its items owned -/
theorem tv_truO2 (hi : ∃ a xs, ρ[i]? = some (some (.l a xs))) (h : EvP K E tj ρ (bnd (fun y ρ1 => ρ1 = ρ ∧ ∃ (a b : Addr) (xs ys : List Ow) (j : Nat), y = .d (.int ((j : Nat) : Int)) ∧ ρ[i]? = some (some (.l a xs)) ∧ xs[j]? = some (.l b ys) ∧ P (.ok (.d (.bl (!ys.isEmpty)))) ρ) P)) : TvP K E (tTru K (tOp (rIxL K) (tVar i) tj)) ρ P := by
  intro D H T σ Q s k xo
  obtain ⟨a0, xs0, e0⟩ := hi
  obtain ⟨s0, _⟩ := s.getl e0
  refine ⟨.ref a0, s0, ?_⟩
  refine h D H T σ _ s (fun y z ρ1 D1 H1 q1 g => ?_) (xo.sub0 fun _ _ _ z => z)
  obtain ⟨rfl, a, b, xs, ys, j, rfl, e, ej, q⟩ := q1
  rw [e0] at e
  cases e
  have hy := g.tm (y, _) List.mem_cons_self
  cases hy with
  | d hy =>
    cases hy
    obtain ⟨_, vs, ha, hv⟩ := g.pop.getl e0
    obtain ⟨w, hw, qw⟩ := hv.get ej
    cases qw with
    | l c1 c2 =>
      rename_i us
      refine ⟨a0, vs, j, .ref b, rfl, rfl, sq_of ha, at_nat hw, !ys.isEmpty, .inl ⟨us, sq_of c1, ?_⟩, k _ _ D1 H1 q g.pop⟩
      have hl := c2.length
      cases us <;> cases ys <;> simp at hl ⊢
/-- an item goes to the end of an owned list that stands as a temporary -/
theorem ev_app2 (hi : ∃ a xs, ρ[i]? = some (some (.l a xs))) (h : EvP K E tj ρ (bnd (fun y ρ1 => ρ1 = ρ ∧ ∃ (a b : Addr) (xs ys : List Ow) (j : Nat), y = .d (.int ((j : Nat) : Int)) ∧ ρ[i]? = some (some (.l a xs)) ∧ xs[j]? = some (.l b ys) ∧ ys.length < 100000 ∧
    EvP K E te ρ (bnd (fun z ρ2 => ρ2 = ρ ∧ ∃ d, z = .d d ∧ P (.ok (.d .non)) (ρ.set i (some (.l a (xs.set j (.l b (ys ++ [.d d]))))))) P)) P)) : EvP K E (tBM K "list" rAppend (tOp (rIxL K) (tVar i) tj) (tCons te tNil)) ρ P := by
  intro D H T σ Q s k xo
  obtain ⟨a0, xs0, e0⟩ := hi
  obtain ⟨s0, _⟩ := s.getl e0
  refine ⟨.ref a0, s0, ?_⟩
  refine h D H T σ _ s (fun y z ρ1 D1 H1 q1 g => ?_) (xo.sub0 fun _ _ _ z => z)
  obtain ⟨rfl, a, b, xs, ys, j, rfl, e, ej, hly, q⟩ := q1
  rw [e0] at e
  cases e
  have hy := g.tm (y, _) List.mem_cons_self
  cases hy with
  | d hy =>
    cases hy
    obtain ⟨_, vs, ha, hv⟩ := g.pop.getl e0
    obtain ⟨w, hw, qw⟩ := hv.get ej
    have hwr : w = .ref b := root_ref rfl qw
    subst hwr
    have hb1 : ∃ us, H1 b = some (.lst us) := by
      cases qw with
      | l c1 _ => exact ⟨_, c1⟩
    obtain ⟨us1, hb1⟩ := hb1
    refine ⟨a0, vs, j, .ref b, rfl, rfl, sq_of ha, at_nat hw, tyv hb1, ?_⟩
    refine q D1 H1 T σ _ g.pop (fun u z ρ2 D2 H2 q2 g2 => ?_) (xo.sub0 fun _ _ _ z => z)
    obtain ⟨rfl, d, rfl, q⟩ := q2
    obtain ⟨_, g3⟩ := (g2.pop).move e0 rfl
    have gu := g2.tm (u, _) List.mem_cons_self
    cases gu with
    | d gu =>
      have g4 := (g3.focus ej rfl).push gu
      obtain ⟨acc, hacc, hlen, g5⟩ := g4.app
      refine ⟨b, acc, u, rfl, rfl, hacc, sz_lt (by rw [hlen]; exact hly), ?_⟩
      have hj : j < xs0.length := (List.getElem?_eq_some_iff.mp ej).1
      have g6 := g5.unfocus (b := b) (j := j) (by rw [List.getElem?_set_self hj]) rfl
      rw [List.set_set] at g6
      have g7 := g6.back rfl (set_m (o := .l a0 xs0) e0)
      rw [List.set_set] at g7
      exact k _ _ _ _ _ q (g7.push .non)
/-! owned things become data -/
def inD (D H : Hp) (L : List Addr) : Hp := fun b => if b ∈ L then H b else D b
theorem inD_ex {L : List Addr} (h : ∀ b ∈ L, D b = none) : Ex D (inD D H L) := fun b u e => by
  show (if b ∈ L then H b else D b) = some u
  rw [if_neg (fun z => by rw [h b z] at e; cases e)]
  exact e
mutual
theorem DenO.dataIn {L : List Addr} (hL : ∀ b ∈ L, D b = none) : ∀ {v : V} {o : Ow}, DenO K D H v o → o.okR = true → (∀ b ∈ o.fp, b ∈ L) → Den K (inD D H L) v o.dat
  | _, _, .d h, _, _ => h.mono (inD_ex hL)
  | _, _, .m a, k, _ => by cases k
  | _, _, .l h r, k, m => .lst (by show (if _ ∈ L then H _ else D _) = _; rw [if_pos (m _ (by unfold Ow.fp; exact List.mem_cons_self))]; exact h) (DenOs.dataIn hL r (by unfold Ow.okR at k; exact k) fun b hb => m b (by unfold Ow.fp; exact List.mem_cons_of_mem _ hb))
  | _, _, .t h r, k, _ => by cases k
  | _, _, .z h r, k, _ => by cases k
  | _, _, .o h r, _, m => .obj (by show (if _ ∈ L then H _ else D _) = _; rw [if_pos (m _ (by unfold Ow.fp; exact List.mem_cons_self))]; exact h) (r.mono (inD_ex hL))
theorem DenOs.dataIn {L : List Addr} (hL : ∀ b ∈ L, D b = none) : ∀ {v : List V} {o : List Ow}, DenOs K D H v o → okRs o = true → (∀ b ∈ fps o, b ∈ L) → DenAll K (inD D H L) v (dats o)
  | _, _, .nil, _, _ => .nil
  | _, _, .cons h r, k, m => by
    unfold okRs at k
    rw [Bool.and_eq_true] at k
    exact .cons (DenO.dataIn hL h k.1 fun b hb => m b (by unfold fps; exact List.mem_append_left _ hb)) (DenOs.dataIn hL r k.2 fun b hb => m b (by unfold fps; exact List.mem_append_right _ hb))
end
theorem Sd.frzD (h : Sd K D H ((v, o) :: T) σ ρ) (k : o.okR = true) : ∃ D', Sd K D' H ((v, .d o.dat) :: T) σ ρ := by
  have ho := h.tm (v, o) List.mem_cons_self
  have hL : ∀ b ∈ o.fp, D b = none := fun b hb => h.out b (List.mem_append_left _ (List.mem_append_left _ hb))
  have nd : (o.fp ++ (fpT T ++ fpR ρ)).Nodup := by
    have := h.nd
    rw [show fpT ((v, o) :: T) = o.fp ++ fpT T from rfl, List.append_assoc] at this
    exact this
  have nb : ∀ c ∈ fpT T ++ fpR ρ, c ∉ o.fp := fun c hc z => (List.nodup_append.mp nd).2.2 c z c hc rfl
  refine ⟨inD D H o.fp, (h.pop.grow (inD_ex hL) (fun b u e => ?_) (fun _ _ _ hu => hu) fun c hc => ?_).push (ho.dataIn hL k fun b hb => hb)⟩
  · have e' : (if b ∈ o.fp then H b else D b) = some u := e
    by_cases z : b ∈ o.fp
    · rw [if_pos z] at e'; exact e'
    · rw [if_neg z] at e'; exact h.ex b u e'
  · show (if c ∈ o.fp then H c else D c) = none
    rw [if_neg (nb c hc)]
    exact h.out c (by
      rcases List.mem_append.mp hc with z | z
      · exact List.mem_append_left _ (List.mem_append_right _ z)
      · exact List.mem_append_right _ z)
/-- an owned slot is read as data from now on -/
theorem ev_lF {xs : List Ow} (e : ρ[i]? = some (some (.l a xs))) (k : okRs xs = true) (q : P (.ok (.d (.lst (dats xs)))) (ρ.set i (some (.d (.lst (dats xs)))))) : EvP K E (tVar i) ρ P := by
  intro D H T σ Q s kk xo
  obtain ⟨h1, g⟩ := s.move e rfl
  obtain ⟨D', g2⟩ := g.frzD (by unfold Ow.okR; exact k)
  have hd := g2.tm (.ref a, _) List.mem_cons_self
  cases hd with
  | d hd =>
    refine ⟨.ref a, h1, kk _ _ _ D' H q ?_⟩
    have hi : i < σ.length := (List.getElem?_eq_some_iff.mp h1).1
    have g3 := (g2.push hd).toSlot i hi
    rw [List.set_set] at g3
    have es : σ.set i (some (.ref a)) = σ := by
      obtain ⟨l, hl⟩ := List.getElem?_eq_some_iff.mp h1
      rw [← hl]
      exact List.set_getElem_self l
    rw [es] at g3
    exact g3
/-- a new owned thing as data -/
theorem ev_frzD (h : EvP K E te ρ (fun r ρ' => match r with | .ok o => o.okR = true ∧ P (.ok (.d o.dat)) ρ' | .ex C fs => P (.ex C fs) ρ')) : EvP K E te ρ P := by
  intro D H T σ Q s k xo
  refine h D H T σ Q s (fun v o ρ' D' H' q g => ?_) xo
  obtain ⟨D2, g2⟩ := g.frzD q.1
  exact k v _ ρ' D2 H' q.2 g2
/-- script[j] -/
theorem ev_ixScr (h : EvP K E ta ρ (bnd (fun x ρ1 => EvP K E tb ρ1 (bnd (fun y ρ2 => ∃ ns j z, x = .d (.scr ns) ∧ y = .d (.int j) ∧ atI ns j = some z ∧ P (.ok (.d (.int z))) ρ2) P)) P)) : EvP K E (tOp (rIxL K) ta tb) ρ P := by
  refine ev_op (h.mono fun r ρ1 z => ?_)
  cases r with
  | ex C fs => exact z
  | ok x =>
    refine EvP.mono z fun r ρ2 z2 => ?_
    cases r with
    | ex C fs => exact z2
    | ok y =>
      obtain ⟨ns, j, z, rfl, rfl, e, q⟩ := z2
      exact ⟨rfl, rfl, _, aop_scr e, q⟩
theorem bkG_l {o : Ow} {b c : Addr} {x : List Ow} {r : Rh} : bkG o b (some (.l c x) :: r) = some (.l c x) :: bkG o b r := rfl
/-! a comprehension whose items change the state: J is kept -/
theorem lcp_J {α β : Type} {g : TG} {ws vs : List Nat} {emb : α → Dat} (f : β → Dat) (Rz : β → Prop) (J : Rh → Prop) {Pl : List Ow → Rh → Prop} : ∀ (xs : List α) (acc : List Ow) (ρ : Rh), J ρ →
    (∀ a ∈ xs, ∀ ρ, J ρ → GvP K g ws ρ (emb a) (fun ρ2 => EvP K E0 te ρ2 (onE fun o ρ4 => (∃ z, o = .d (f z) ∧ Rz z) ∧ J (wp ρ4 vs)))) →
    (∀ (zs : List β) (ρ' : Rh), zs.length = xs.length → (∀ z ∈ zs, Rz z) → J ρ' → Pl (acc ++ (zs.map f).map Ow.d) ρ') → LcP K g ws tYes te vs (xs.map emb) ρ acc Pl
  | [], acc, ρ, hj, _, q => by
    have := q [] ρ rfl (fun _ h => nomatch h) hj
    simpa [LcP] using this
  | a :: xs, acc, ρ, hj, h, q => by
    intro D H T σ x Q s k
    refine h a List.mem_cons_self ρ hj D H T σ x Q s fun σ' ρ' D' H' z => k σ' ρ' D' H' ?_
    refine tv_yes ⟨true, rfl, fun _ => ?_, fun e => by cases e⟩
    refine EvP.mono z fun r ρ4 z4 => ?_
    cases r with
    | ex C fs => exact z4
    | ok o =>
      obtain ⟨⟨z, rfl, hz⟩, hj4⟩ := z4
      exact lcp_J f Rz J xs _ _ hj4 (fun b hb => h b (List.mem_cons_of_mem _ hb)) fun zs ρ' hl hr hj' => by
        have := q (z :: zs) ρ' (by simp [hl]) (fun y hy => by rcases List.mem_cons.mp hy with e | e; (· subst e; exact hz); exact hr y e) hj'
        simpa using this
theorem ev_lcJ {α β : Type} {wi : TI} {g : TG} {ws vs : List Nat} (emb : α → Dat) (f : β → Dat) (Rz : β → Prop) (J : Rh → Prop) (hws : ∀ j ∈ ws, j ∈ vs) (h : IvP K E wi ρ (fun ds os ρ1 => ∃ xs : List α, ds = xs.map emb ∧ xs.length ≤ 100000 ∧ J (wp ρ1 vs) ∧
    (∀ a ∈ xs, ∀ ρ, J ρ → GvP K g ws ρ (emb a) (fun ρ2 => EvP K E0 te ρ2 (onE fun o ρ4 => (∃ z, o = .d (f z) ∧ Rz z) ∧ J (wp ρ4 vs)))) ∧
    (∀ (zs : List β) (ρ' : Rh), zs.length = xs.length → (∀ z ∈ zs, Rz z) → J ρ' → P (.ok (.d (.lst (zs.map f)))) (bks os (wp ρ' vs)))) P) : EvP K E (tLc wi g tYes te vs) ρ P := by
  refine ev_frz (ev_lc hws ?_)
  intro D H T σ R' s k xo
  refine h D H T σ R' s (fun J' A ds ρ' D' H' q => k J' A ds ρ' D' H' ?_) xo
  obtain ⟨xs, rfl, hl, hj, hb, q⟩ := q
  refine ⟨by rw [List.length_map]; exact hl, lcp_J f Rz J xs [] _ hj hb fun zs ρ2 e1 e2 e3 b => ?_⟩
  exact ⟨b, zs.map f, rfl, q zs ρ2 e1 e2 e3⟩
theorem ev_tup2 (h : EvP K E ta ρ (bnd (fun x ρ1 => ∃ d, x = .d d ∧ EvP K E tb ρ1 (bnd (fun y ρ2 => ∃ e, y = .d e ∧ P (.ok (.d (.tup [d, e]))) ρ2) P)) P)) : EvP K E (tTup (tCons ta (tCons tb tNil))) ρ P := by
  refine ev_tup (ds := []) (av_cons (h.mono fun r ρ1 z => ?_))
  cases r with
  | ex C fs => exact z
  | ok x =>
    obtain ⟨d, rfl, z⟩ := z
    refine av_cons (z.mono fun r ρ2 z2 => ?_)
    cases r with
    | ex C fs => exact z2
    | ok y =>
      obtain ⟨e, rfl, z2⟩ := z2
      exact av_nil ⟨[d, e], rfl, Nat.le_of_ble_eq_true rfl, z2⟩
theorem ev_tup3 (h : EvP K E ta ρ (bnd (fun x ρ1 => ∃ d, x = .d d ∧ EvP K E tb ρ1 (bnd (fun y ρ2 => ∃ e, y = .d e ∧ EvP K E tj ρ2 (bnd (fun z ρ3 => ∃ f, z = .d f ∧ P (.ok (.d (.tup [d, e, f]))) ρ3) P)) P)) P)) : EvP K E (tTup (tCons ta (tCons tb (tCons tj tNil)))) ρ P := by
  refine ev_tup (ds := []) (av_cons (h.mono fun r ρ1 z => ?_))
  cases r with
  | ex C fs => exact z
  | ok x =>
    obtain ⟨d, rfl, z⟩ := z
    refine av_cons (z.mono fun r ρ2 z2 => ?_)
    cases r with
    | ex C fs => exact z2
    | ok y =>
      obtain ⟨e, rfl, z2⟩ := z2
      refine av_cons (z2.mono fun r ρ3 z3 => ?_)
      cases r with
      | ex C fs => exact z3
      | ok u =>
        obtain ⟨f, rfl, z3⟩ := z3
        exact av_nil ⟨[d, e, f], rfl, Nat.le_of_ble_eq_true rfl, z3⟩
end
end DL

/-! ### R. a list told backwards by a computed step; an owned row asked whether it is [] -/
namespace DL
open PySem L2 Evl PySem.Spec PyProof.Rows
section
variable {X : Cx}
/-- xs[::0 - 1] -/
theorem pe_rev0 {K : PySem.W.Frag} [HasTabs K] {e : Expr} {te : TE} {k1 k2 : Nat} {p1 p2 p3 p4 pos : Pos} (hK : X.K = K) (he : PE X e te) : PE X (.Subscript e (.Slice none none (some (.BinOp (.Constant (.int 0) k1 p1) .Sub (.Constant (.int 1) k2 p2) p3)) p4) pos) (tRevL K te) := by
  subst hK
  have hst : PO X (some (.BinOp (.Constant (.int 0) k1 p1) .Sub (.Constant (.int 1) k2 p2) p3)) (tPart (tOp (rI0 fun i j => .int (i - j)) (tC (.int 0)) (tC (.int 1)))) := po_some (pe_op op_sub pe_int pe_int)
  constructor
  intro pins s σ H Q I h
  refine Subscript_ (wpAny_mono (he.run pins s σ H _ I h) (fun v s1 z => ?_) fun _ _ z => z)
  obtain ⟨x, H1, I1, rv, a, xs, rfl, hx, q⟩ := z
  obtain rfl : v = Value.ref a := rv
  refine wpAny_Slice (wpAny_mono (po_none.run pins s1 σ H1 (fun o H2 => o = none ∧ H2 = H1) I1 ⟨rfl, rfl⟩) (fun vl s2 z => ?_) fun _ _ z => z)
  obtain ⟨l, H2, I2, pl, rfl, rfl⟩ := z
  refine wpAny_mono (po_none.run pins s2 σ H2 (fun o H3 => o = none ∧ H3 = H2) I2 ⟨rfl, rfl⟩) (fun vu s3 z => ?_) fun _ _ z => z
  obtain ⟨u, H3, I3, pu, rfl, rfl⟩ := z
  refine wpAny_mono (hst.run pins s3 σ H3 (fun o H4 => o = some (-1) ∧ H4 = H3) I3 ⟨0, 1, rfl, rfl, -1, rfl, rfl, rfl⟩) (fun vs s4 z => ?_) fun _ _ z => z
  obtain ⟨o, H4, I4, ps, rfl, rfl⟩ := z
  have I5 : Inv X pins σ H4 { s4 with heap := s4.heap.push { cls := .type "slice", data := .fields #[vl, vu, vs] } } := I4.kept (t' := s4.toks) fun b ob z => Heap.get?_push_of_some _ z
  obtain ⟨its, r, ht, hz⟩ := I5.list hx
  have hlen := r.length
  refine tail_any (ops := [.ref a, .ref s4.heap.objs.size]) ht.isList.typeIs (PySem.slot_list_getitem.lookup) ?_ (by with_unfolding_all rfl)
  refine wpAny_getItem_list_slice ht.isList (Heap.IsSliceOf.new _ vl vu vs) pl pu ps (by decide) ?_ (by rw [List.size_toArray]; omega)
  rw [PySem.W.krv_pick]
  refine ⟨.ref _, _, I5.laid (t' := s4.toks) (o := .lst xs.reverse) (fun b ob z => Heap.get?_push_of_some _ z) (Nat.le_refl _) ⟨by rw [List.length_reverse]; exact hz, _, 0, r.reverse, Heap.get?_push_size _ rfl⟩, rfl, q _ (I5.hok.fresh (Nat.le_refl _))⟩
end
section
variable {K : PySem.W.Frag} [HasTabs K] {E : XK} {ρ : Rh} {P : EPost} {tj : TE} {i : Nat}
/-- xs[j] != [], xs and its items owned, the items' items data -/
theorem ev_neNil (hi : ∃ a xs, ρ[i]? = some (some (.l a xs))) (h : EvP K E tj ρ (bnd (fun y ρ1 => ρ1 = ρ ∧ ∃ (a b : Addr) (xs : List Ow) (ds : List Dat) (j : Nat), y = .d (.int ((j : Nat) : Int)) ∧ ρ[i]? = some (some (.l a xs)) ∧ xs[j]? = some (.l b (ds.map Ow.d)) ∧ pures ds = true ∧ SeqAt.shaped (Dat.lst ds).py = true ∧ P (.ok (.d (.bl (!ds.isEmpty)))) ρ) P)) :
    EvP K E (tOp (rNeD K) (tOp (rIxL K) (tVar i) tj) (tLst tNil)) ρ P := by
  intro D H T σ Q s k xo
  obtain ⟨a0, xs0, e0⟩ := hi
  obtain ⟨s0, _⟩ := s.getl e0
  refine ⟨.ref a0, s0, ?_⟩
  refine h D H T σ _ s (fun y z ρ1 D1 H1 q1 g => ?_) (xo.sub0 fun _ _ _ z => z)
  obtain ⟨rfl, a, b, xs, ds, j, rfl, e, ej, hp, hs, q⟩ := q1
  rw [e0] at e
  cases e
  have hy := g.tm (y, _) List.mem_cons_self
  cases hy with
  | d hy =>
    cases hy
    obtain ⟨_, vs, ha, hv⟩ := g.pop.getl e0
    obtain ⟨w, hw, qw⟩ := hv.get ej
    cases qw with
    | l c1 c2 =>
      refine ⟨a0, vs, j, .ref b, rfl, rfl, sq_of ha, at_nat hw, ?_⟩
      refine ev_lst (E := E0) (P := onE fun o ρ' => o = .d (.lst []) ∧ ρ' = ρ1) (av_nil ⟨[], rfl, Nat.le_of_ble_eq_true rfl, onE_ok ⟨rfl, rfl⟩⟩) D1 H1 T σ _ g.pop (fun u o ρ2 D2 H2 z g2 => ?_) .no
      obtain ⟨rfl, rfl⟩ := z
      have hu := g2.tm (u, _) List.mem_cons_self
      cases hu with
      | d hu =>
        have s3 := g2.pop
        obtain ⟨_, vs2, ha2, hv2⟩ := s3.getl e0
        obtain ⟨w2, hw2, qw2⟩ := hv2.get ej
        have hwr : w2 = .ref b := root_ref rfl qw2
        subst hwr
        have hd := DenO.read s3.ex qw2 (by unfold Ow.okR; exact okRs_map ds)
        have hdat : (Ow.l b (ds.map Ow.d)).dat = Dat.lst ds := by unfold Ow.dat; rw [dats_map]
        rw [hdat] at hd
        refine ⟨_, _, hd.dp (show pures ds = true from hp), (hu.mono s3.ex).dp rfl, hs, rfl, ?_⟩
        have ee : PyData.eqv (Dat.lst ds).py (Dat.lst []).py = ds.isEmpty := by cases ds <;> rfl
        rw [ee]
        exact k _ _ _ D2 H2 q (s3.push (.bl _))
end
end DL

/-! ### S. data that can be compared -/
namespace DL
open PySem L2 Evl PySem.Spec PyProof.Rows
def Nice (n : Nat) (d : Dat) : Prop := d.pure = true ∧ d.py.canLay0 = true ∧ d.py.depth ≤ n
theorem nice_int {n : Nat} (i : Int) : Nice n (.int i) := ⟨rfl, rfl, Nat.zero_le _⟩
theorem nice_bl {n : Nat} (b : Bool) : Nice n (.bl b) := ⟨rfl, rfl, Nat.zero_le _⟩
theorem nice_non {n : Nat} : Nice n .non := ⟨rfl, rfl, Nat.zero_le _⟩
theorem nices {n : Nat} : ∀ {xs : List Dat}, (∀ x ∈ xs, Nice n x) → pures xs = true ∧ PyData.canLayAll0 (pys xs) = true ∧ PyData.depthAll (pys xs) ≤ n
  | [], _ => ⟨rfl, rfl, Nat.zero_le _⟩
  | x :: xs, h => by
    obtain ⟨a1, a2, a3⟩ := h x List.mem_cons_self
    obtain ⟨b1, b2, b3⟩ := nices (xs := xs) fun y hy => h y (List.mem_cons_of_mem _ hy)
    refine ⟨?_, ?_, ?_⟩
    · show (x.pure && pures xs) = true
      rw [a1, b1]; rfl
    · show (x.py.canLay0 && PyData.canLayAll0 (pys xs)) = true
      rw [a2, b2]; rfl
    · show max x.py.depth (PyData.depthAll (pys xs)) ≤ n
      omega
theorem nice_lst {n : Nat} {xs : List Dat} (h : ∀ x ∈ xs, Nice n x) : Nice (n + 1) (.lst xs) := by
  obtain ⟨a, b, c⟩ := nices h
  exact ⟨a, b, by show PyData.depthAll (pys xs) + 1 ≤ _; omega⟩
theorem nice_tup {n : Nat} {xs : List Dat} (h : ∀ x ∈ xs, Nice n x) : Nice (n + 1) (.tup xs) := by
  obtain ⟨a, b, c⟩ := nices h
  exact ⟨a, b, by show PyData.depthAll (pys xs) + 1 ≤ _; omega⟩
theorem nice_map {α : Type} {n : Nat} {f : α → Dat} {xs : List α} (h : ∀ x ∈ xs, Nice n (f x)) : ∀ d ∈ xs.map f, Nice n d := fun d hd => by
  obtain ⟨x, hx, rfl⟩ := List.mem_map.mp hd
  exact h x hx
theorem Nice.shaped {n : Nat} {d : Dat} (h : Nice n d) (hn : n ≤ 64) : SeqAt.shaped d.py = true := by
  unfold SeqAt.shaped
  rw [h.2.1, decide_eq_true (show d.py.depth ≤ 64 by have := h.2.2; omega)]
  rfl
theorem Nice.same {n : Nat} {d : Dat} (h : Nice n d) : PyData.eqv d.py d.py = true := SeqAt.eqv_refl _ h.2.1
/-- both sides of a comparison -/
theorem Nice.two {n m : Nat} {d e : Dat} (h : Nice n d) (k : Nice m e) (hn : n ≤ 64) (hm : m ≤ 64) : d.pure = true ∧ e.pure = true ∧ SeqAt.shaped d.py = true ∧ SeqAt.shaped e.py = true := ⟨h.1, k.1, h.shaped hn, k.shaped hm⟩
end DL

/-! ### T. slices of data lists, tuples repeated, max and min of two -/
namespace DL
open PySem L2 Evl PySem.Spec PyProof.Rows
section
variable {K : PySem.W.Frag} [HasTabs K] {E : XK} {ρ : Rh} {P : EPost} {ta tb te : TE} {tas : TA}
def cutD (xs : List Dat) (lo hi : Option Int) : List Dat := (xs.drop (HT.sIx xs.length 0 lo)).take (HT.sIx xs.length xs.length hi - HT.sIx xs.length 0 lo)
theorem cutD_mem {xs : List Dat} {lo hi : Option Int} {x : Dat} (h : x ∈ cutD xs lo hi) : x ∈ xs := List.mem_of_mem_drop (List.mem_of_mem_take h)
theorem cutD_len (xs : List Dat) (lo hi : Option Int) : (cutD xs lo hi).length ≤ xs.length := by
  unfold cutD
  rw [List.length_take, List.length_drop]
  omega
theorem cut_den {D : Hp} {vs : List V} {xs : List Dat} (h : DenAll K D vs xs) (lo hi : Option Int) : DenAll K D (cutV vs lo hi) (cutD xs lo hi) := by
  unfold cutV cutD
  rw [h.length]
  exact (h.drop _).take _
/-- xs[:b] -/
theorem ev_slU (h : EvP K E te ρ (bnd (fun x ρ1 => ∃ ds, x = .d (.lst ds) ∧ EvP K E tb ρ1 (bnd (fun y ρ2 => ∃ j, y = .d (.int j) ∧ P (.ok (.d (.lst (cutD ds none (some j))))) ρ2) P)) P)) : EvP K E (tSl (rSlL K) te tNoPart (tPart tb)) ρ P := by
  intro D H T σ Q s k xo
  refine h D H T σ _ s (fun v x ρ1 D1 H1 q1 s1 => ?_) (xo.sub0 fun _ _ _ z => z)
  obtain ⟨ds, rfl, q1⟩ := q1
  refine q1 D1 H1 _ σ _ s1 (fun w y ρ2 D2 H2 q2 s2 => ?_) (xo.sub1 fun _ _ _ z => z)
  obtain ⟨j, rfl, hp⟩ := q2
  have hx := s2.tm (v, _) (List.mem_cons_of_mem _ List.mem_cons_self)
  have hy := s2.tm (w, _) List.mem_cons_self
  cases hy with
  | d hy =>
    cases hy
    cases hx with
    | d hx =>
      cases hx with
      | lst g1 g2 =>
        have s3 : Sd K D2 H2 T σ ρ2 := s2.pop.pop
        exact ⟨j, rfl, _, _, rfl, SqL.of (s2.ex _ _ g1), fun l hl => k _ _ _ _ _ hp ((s3.new hl _).push (.lst upd_same ((cut_den g2 none (some j)).mono (Ex.new (s3.dnone hl)))))⟩
/-- xs[a:] -/
theorem ev_slL (h : EvP K E te ρ (bnd (fun x ρ1 => ∃ ds, x = .d (.lst ds) ∧ EvP K E ta ρ1 (bnd (fun y ρ2 => ∃ j, y = .d (.int j) ∧ P (.ok (.d (.lst (cutD ds (some j) none)))) ρ2) P)) P)) : EvP K E (tSl (rSlL K) te (tPart ta) tNoPart) ρ P := by
  intro D H T σ Q s k xo
  refine h D H T σ _ s (fun v x ρ1 D1 H1 q1 s1 => ?_) (xo.sub0 fun _ _ _ z => z)
  obtain ⟨ds, rfl, q1⟩ := q1
  refine q1 D1 H1 _ σ _ s1 (fun w y ρ2 D2 H2 q2 s2 => ?_) (xo.sub1 fun _ _ _ z => z)
  obtain ⟨j, rfl, hp⟩ := q2
  have hx := s2.tm (v, _) (List.mem_cons_of_mem _ List.mem_cons_self)
  have hy := s2.tm (w, _) List.mem_cons_self
  cases hy with
  | d hy =>
    cases hy
    cases hx with
    | d hx =>
      cases hx with
      | lst g1 g2 =>
        have s3 : Sd K D2 H2 T σ ρ2 := s2.pop.pop
        exact ⟨j, rfl, _, _, rfl, SqL.of (s2.ex _ _ g1), fun l hl => k _ _ _ _ _ hp ((s3.new hl _).push (.lst upd_same ((cut_den g2 (some j) none).mono (Ex.new (s3.dnone hl)))))⟩
/-- (x,) * n -/
theorem ev_repT (h : EvP K E ta ρ (bnd (fun x ρ1 => EvP K E tb ρ1 (bnd (fun y ρ2 => ∃ d j, x = .d (.tup [d]) ∧ y = .d (.int j) ∧ 2 ≤ j ∧ j ≤ 1000 ∧ P (.ok (.d (.tup (List.replicate j.toNat d)))) ρ2) P)) P)) : EvP K E (tOp (rRepT K) ta tb) ρ P := by
  intro D H T σ Q s k xo
  refine h D H T σ _ s (fun v x ρ1 D1 H1 q1 s1 => ?_) (xo.sub0 fun _ _ _ z => z)
  refine q1 D1 H1 _ σ _ s1 (fun w y ρ2 D2 H2 q2 s2 => ?_) (xo.sub1 fun _ _ _ z => z)
  obtain ⟨d, j, rfl, rfl, h0, hj, hp⟩ := q2
  have hx := s2.tm (v, _) (List.mem_cons_of_mem _ List.mem_cons_self)
  have hy := s2.tm (w, _) List.mem_cons_self
  cases hy with
  | d hy =>
    cases hy
    cases hx with
    | d hx =>
      cases hx with
      | tup g1 g2 =>
        cases g2 with
        | cons g2 gn =>
          cases gn
          rename_i a1 u
          have s3 : Sd K D2 H2 T σ ρ2 := s2.pop.pop
          refine ⟨a1, j, [u], rfl, rfl, ?_, by simp, h0, hj, by simp, ?_⟩
          · exact SqT.of (s2.ex _ _ g1)
          intro l hl
          refine k _ _ _ _ _ hp ((s3.new hl _).push (.tup upd_same ?_))
          have e : ∀ n : Nat, DenAll K D2 ((List.replicate n [u]).flatten) (List.replicate n d) := by
            intro n
            induction n with
            | zero => exact .nil
            | succ n ih => exact .cons g2 ih
          exact (e _).mono (Ex.new (s3.dnone hl))
theorem TvP.mono {P' : EPost} {tt : TT} (h : TvP K E tt ρ P) (m : ∀ r ρ', P r ρ' → P' r ρ') : TvP K E tt ρ P' := fun D H T σ Q s k x => h D H T σ Q s (fun v ρ' D' H' q => k v ρ' D' H' (m _ _ q)) fun C fs ρ' D' H' d q => x C fs ρ' D' H' d (m _ _ q)
/-- a test that comes to c and leaves the state -/
theorem tv_dec {tt : TT} (c : Bool) (h : TvP K E tt ρ (fun r ρ' => r = .ok (.d (.bl c)) ∧ ρ' = ρ)) (q : P (.ok (.d (.bl c))) ρ) : TvP K E tt ρ P := h.mono fun r ρ' z => by rw [z.1, z.2]; exact q
/-! a comprehension whose items change the state: J is kept, each item is told by the one it is made of -/
theorem lcp_J2 {α β : Type} {g : TG} {ws vs : List Nat} {emb : α → Dat} (f : β → Dat) (R : α → β → Prop) (J : Rh → Prop) {Pl : List Ow → Rh → Prop} : ∀ (xs : List α) (acc : List Ow) (ρ : Rh), J ρ →
    (∀ a ∈ xs, ∀ ρ, J ρ → GvP K g ws ρ (emb a) (fun ρ2 => EvP K E0 te ρ2 (onE fun o ρ4 => (∃ z, o = .d (f z) ∧ R a z) ∧ J (wp ρ4 vs)))) →
    (∀ (zs : List β) (ρ' : Rh), All2 R xs zs → J ρ' → Pl (acc ++ (zs.map f).map Ow.d) ρ') → LcP K g ws tYes te vs (xs.map emb) ρ acc Pl
  | [], acc, ρ, hj, _, q => by
    have := q [] ρ .nil hj
    simpa [LcP] using this
  | a :: xs, acc, ρ, hj, h, q => by
    intro D H T σ x Q s k
    refine h a List.mem_cons_self ρ hj D H T σ x Q s fun σ' ρ' D' H' z => k σ' ρ' D' H' ?_
    refine tv_yes ⟨true, rfl, fun _ => ?_, fun e => by cases e⟩
    refine EvP.mono z fun r ρ4 z4 => ?_
    cases r with
    | ex C fs => exact z4
    | ok o =>
      obtain ⟨⟨z, rfl, hz⟩, hj4⟩ := z4
      exact lcp_J2 f R J xs _ _ hj4 (fun b hb => h b (List.mem_cons_of_mem _ hb)) fun zs ρ' hr hj' => by
        have := q (z :: zs) ρ' (.cons hz hr) hj'
        simpa using this
theorem ev_lcJ2 {α β : Type} {wi : TI} {g : TG} {ws vs : List Nat} (emb : α → Dat) (f : β → Dat) (R : α → β → Prop) (J : Rh → Prop) (hws : ∀ j ∈ ws, j ∈ vs) (h : IvP K E wi ρ (fun ds os ρ1 => ∃ xs : List α, ds = xs.map emb ∧ xs.length ≤ 100000 ∧ J (wp ρ1 vs) ∧
    (∀ a ∈ xs, ∀ ρ, J ρ → GvP K g ws ρ (emb a) (fun ρ2 => EvP K E0 te ρ2 (onE fun o ρ4 => (∃ z, o = .d (f z) ∧ R a z) ∧ J (wp ρ4 vs)))) ∧
    (∀ (zs : List β) (ρ' : Rh), All2 R xs zs → J ρ' → P (.ok (.d (.lst (zs.map f)))) (bks os (wp ρ' vs)))) P) : EvP K E (tLc wi g tYes te vs) ρ P := by
  refine ev_frz (ev_lc hws ?_)
  intro D H T σ R' s k xo
  refine h D H T σ R' s (fun J' A ds ρ' D' H' q => k J' A ds ρ' D' H' ?_) xo
  obtain ⟨xs, rfl, hl, hj, hb, q⟩ := q
  refine ⟨by rw [List.length_map]; exact hl, lcp_J2 f R J xs [] _ hj hb fun zs ρ2 e1 e3 b => ?_⟩
  exact ⟨b, zs.map f, rfl, q zs ρ2 e1 e3⟩
theorem All2.back {α β : Type} {R : α → β → Prop} {xs : List α} {ys : List β} (h : All2 R xs ys) : ∀ {j : Nat} {y : β}, ys[j]? = some y → ∃ x, xs[j]? = some x ∧ R x y := by
  induction h with
  | nil => intro j y e; simp at e
  | cons q t ih =>
    intro j y e
    cases j with
    | zero => simp at e; subst e; exact ⟨_, rfl, q⟩
    | succ j => exact ih (by simpa using e)
theorem All2.len {α β : Type} {R : α → β → Prop} {xs : List α} {ys : List β} (h : All2 R xs ys) : ys.length = xs.length := by
  induction h with
  | nil => rfl
  | cons q t ih => simp [ih]
def rMin2 : List V → Hp → VK → Prop := fun xs H Q => ∃ i j, xs = [.int i, .int j] ∧ Q (.int (if j < i then j else i)) H
theorem acb_max2 {i j : Int} : ACb K rMax2 [.int i, .int j] (.int (if j > i then j else i)) := ⟨rfl, fun H vs Q h q => by
  cases h with
  | cons h1 h2 =>
    cases h2 with
    | cons h2 h3 =>
      cases h3
      cases h1
      cases h2
      exact ⟨i, j, rfl, q⟩⟩
theorem acb_min2 {i j : Int} : ACb K rMin2 [.int i, .int j] (.int (if j < i then j else i)) := ⟨rfl, fun H vs Q h q => by
  cases h with
  | cons h1 h2 =>
    cases h2 with
    | cons h2 h3 =>
      cases h3
      cases h1
      cases h2
      exact ⟨i, j, rfl, q⟩⟩
theorem ev_max2 (h : AvP K E tas ρ (fun os ρ1 => ∃ a b : Int, os = [.d (.int a), .d (.int b)] ∧ P (.ok (.d (.int (if b > a then b else a)))) ρ1) P) : EvP K E (tCB rMax2 tas) ρ P :=
  ev_cb (h.mono fun os ρ1 ⟨a, b, e, q⟩ => by subst e; exact ⟨rfl, _, acb_max2, q⟩)
theorem ev_min2 (h : AvP K E tas ρ (fun os ρ1 => ∃ a b : Int, os = [.d (.int a), .d (.int b)] ∧ P (.ok (.d (.int (if b < a then b else a)))) ρ1) P) : EvP K E (tCB rMin2 tas) ρ P :=
  ev_cb (h.mono fun os ρ1 ⟨a, b, e, q⟩ => by subst e; exact ⟨rfl, _, acb_min2, q⟩)
end
end DL

/-! ### U. data that can be shown -/
namespace DL
open PySem L2 Evl PySem.Spec PyProof.Rows
/-- depth at most n, text at most c -/
def Shw (n c : Nat) (d : Dat) : Prop := Nice n d ∧ d.py.showable = true ∧ d.py.shown.length ≤ c
theorem shw_int {n : Nat} {i : Int} (h : i.natAbs < 10000000000) : Shw n 11 (.int i) := by
  refine ⟨nice_int i, ?_, ?_⟩
  · show decide (i.natAbs.log2 < 1920) = true
    refine decide_eq_true ?_
    by_cases z : i.natAbs = 0
    · rw [z]; decide
    · have : i.natAbs.log2 < 34 := (Nat.log2_lt z).mpr (Nat.lt_of_lt_of_le h (by decide))
      omega
  · show (Str.ofString (toString i)).length ≤ 11
    have := int_text_length_le10 (a := i) (k := 10) (by decide) (Nat.lt_of_lt_of_le h (by decide))
    rw [PySem.ofString_length]
    exact this
theorem shws {n c : Nat} : ∀ {xs : List Dat}, (∀ x ∈ xs, Shw n c x) → PyData.showableAll (pys xs) = true ∧ ((PyData.shownAll (pys xs)).map (·.length)).sum ≤ xs.length * c ∧ (PyData.shownAll (pys xs)).length = xs.length
  | [], _ => ⟨rfl, Nat.zero_le _, rfl⟩
  | x :: xs, h => by
    obtain ⟨_, a2, a3⟩ := h x List.mem_cons_self
    obtain ⟨b1, b2, b3⟩ := shws (xs := xs) fun y hy => h y (List.mem_cons_of_mem _ hy)
    refine ⟨?_, ?_, ?_⟩
    · show (x.py.showable && PyData.showableAll (pys xs)) = true
      rw [a2, b1]; rfl
    · show x.py.shown.length + ((PyData.shownAll (pys xs)).map (·.length)).sum ≤ (xs.length + 1) * c
      rw [Nat.succ_mul]
      omega
    · show (PyData.shownAll (pys xs)).length + 1 = xs.length + 1
      rw [b3]
theorem shw_lst {n c m : Nat} {xs : List Dat} (h : ∀ x ∈ xs, Shw n c x) (hm : xs.length * c + 2 * xs.length + 3 ≤ m) : Shw (n + 1) m (.lst xs) := by
  obtain ⟨a, b, e⟩ := shws h
  refine ⟨nice_lst fun x hx => (h x hx).1, a, ?_⟩
  show (listText (PyData.shownAll (pys xs))).length ≤ m
  have := listText_len_le (PyData.shownAll (pys xs))
  rw [e] at this
  omega
theorem shw_tup {n c m : Nat} {xs : List Dat} (h : ∀ x ∈ xs, Shw n c x) (hm : xs.length * c + 2 * xs.length + 3 ≤ m) : Shw (n + 1) m (.tup xs) := by
  obtain ⟨a, b, e⟩ := shws h
  refine ⟨nice_tup fun x hx => (h x hx).1, a, ?_⟩
  show (tupleText (PyData.shownAll (pys xs))).length ≤ m
  have := tupleText_len_le (PyData.shownAll (pys xs))
  rw [e] at this
  omega
theorem shw_map {α : Type} {n c : Nat} {f : α → Dat} {xs : List α} (h : ∀ x ∈ xs, Shw n c (f x)) : ∀ d ∈ xs.map f, Shw n c d := fun d hd => by
  obtain ⟨x, hx, rfl⟩ := List.mem_map.mp hd
  exact h x hx
theorem Shw.le {n c m : Nat} {d : Dat} (h : Shw n c d) (k : c ≤ m) : Shw n m d := ⟨h.1, h.2.1, Nat.le_trans h.2.2 k⟩
theorem Shw.up {n m c : Nat} {d : Dat} (h : Shw n c d) (k : n ≤ m) : Shw m c d := ⟨⟨h.1.1, h.1.2.1, Nat.le_trans h.1.2.2 k⟩, h.2⟩
theorem Shw.ok {n c : Nat} {d : Dat} (h : Shw n c d) (hn : n ≤ 64) (hc : c ≤ 16000000) : d.pure = true ∧ d.py.showable = true ∧ d.py.hasDict = false ∧ d.py.shown.length ≤ sizeLine ∧ d.py.depth ≤ 64 :=
  ⟨h.1.1, h.2.1, PyData.hasDict_of_canLay _ h.1.2.1, by have := h.2.2; rw [sizeLine_eq]; omega, by have := h.1.2.2; omega⟩
theorem shw_two {n c m : Nat} {x y : Dat} (h : Shw n c x) (k : Shw n c y) (hm : 2 * c + 7 ≤ m) : Shw (n + 1) m (.tup [x, y]) := shw_tup (fun z hz => by
  rcases List.mem_cons.mp hz with rfl | hz
  · exact h
  · rcases List.mem_cons.mp hz with rfl | hz
    · exact k
    · exact absurd hz List.not_mem_nil) (by show 2 * c + 2 * 2 + 3 ≤ m; omega)
section
variable {K : PySem.W.Frag} [HasTabs K] {E : XK} {ρ : Rh} {X : EPost} {te : TE} {i : Nat} {a : Addr}
/-- f(x, e), x an owned list that e may change -/
theorem av_box {P2 : List Ow → Rh → Prop} {xs : List Ow} (e : ρ[i]? = some (some (.l a xs))) (h : EvP K E te ρ (bnd (fun o ρ1 => ∃ xs1, ρ1[i]? = some (some (.l a xs1)) ∧ P2 [.l a xs1, o] (ρ1.set i (some (.m a)))) X)) : AvP K E (tCons (tVar i) (tCons te tNil)) ρ P2 X := by
  intro D H T σ Q s k xo
  obtain ⟨s0, _⟩ := s.getl e
  refine ⟨.ref a, s0, ?_⟩
  refine h D H T σ _ s (fun v o ρ1 D1 H1 q1 s1 => ?_) (xo.sub0 fun _ _ _ z => z)
  obtain ⟨xs1, e1, q⟩ := q1
  obtain ⟨_, s2⟩ := s1.move e1 rfl
  exact k [.ref a, v] [.l a xs1, o] _ D1 H1 q rfl s2
end
end DL

/-! ### V. what the top has left: defs and classes -/
namespace DL
open PySem L2 Evl PySem.Spec PyProof.Rows
section
variable {P : Program} {w : World} {K : PySem.W.Frag} [HasTabs K] {mg : Str → Option Value} {base h : Heap}
theorem fnG_of {x qual : Str} {st : Stmt} {f : Addr} {fd : FuncData} {N ps : List Str} {k : Nat} {R : Pr} (F : Fun K x qual st f fd) (S : FnScope N ps (defScope st)) (hl : ps.length ≤ N.length) (len : ∀ os Pp, R os Pp → os.length = ps.length)
    (noex : ∀ os Pp, R os Pp → R os (fun r us => (match r with | .ok _ => True | .ex _ _ => False) ∧ Pp r us))
    (hb : ∀ (f : Addr) (cdv : Value) (A : Around) (outer : List Env) (s : Shared) (H : Hp) (E : XK), A.guards = some [] → Room k (A.deeper (PyProof.Rows.envOfC qual (defScope st) s.heap.objs.size f cdv)) →
      ∃ t, PSs (cxOf CX0 P w K mg base N qual (defScope st) f cdv A outer s H E).nox (defBody st) t ∧ ∀ os Pp, R os Pp → SvP K E0 t (os.map some ++ List.replicate (N.length - os.length) none) (retS os Pp)) : FnG P w K mg base (k + 1) f fd ps (spOf K R) :=
  fnG_body F S (fun vs H Q E h => by obtain ⟨D, T, os, Pp, e, _, r, _⟩ := h; exact e.trans (len os Pp r)) fun cdv A outer s H vs Q E hg hr h => by
    obtain ⟨t, ht, hb⟩ := hb f cdv A outer s H E hg hr
    refine ⟨t, ht, ?_⟩
    obtain ⟨D, T, os, Pp, e, s1, r, k1, k2⟩ := h
    exact run_body (K := K) (E := E0) (R := R) (ps := ps) (by rw [e, len os Pp r]; exact hl) ⟨D, T, os, _, e, s1, noex os Pp r, fun v o us D' H' q => k1 v o us D' H' q.2, fun C fs us D' H' d q => q.1.elim⟩ hb
section
variable {x qual : Str} {st : Stmt} {ps : List Str} {f C T : Addr} {oc kV doc pm cdv ct u tc : Value} {od an td : Option Addr} {osl tsl : Array (Option Value)} {n : Nat} {dv : V}
/-- the binding of a def without defaults -/
abbrev BindN (x qual : Str) (st : Stmt) (ps : List Str) : Prop := ∀ (kV doc pm : Value) (an : Option Addr) (cdv ct : Value) (us : List Value), us.length = ps.length → bindArgs (PySem.W.fnOf x qual (defArgs st) (defBody st) (defScope st) .none kV doc pm an cdv ct) ⟨us, []⟩ = pure (ps.zip us)
abbrev BindK (x qual : Str) (st : Stmt) (ps : List Str) : Prop := ∀ (kV doc pm : Value) (an : Option Addr) (cdv ct : Value) (ws : List Value), ws.length = ps.length → bindArgs (PySem.W.fnOf x qual (defArgs st) (defBody st) (defScope st) .none kV doc pm an cdv ct) ⟨[], ps.reverse.zip ws⟩ = pure (ps.zip ws.reverse)
theorem dfn_mk (X : K.In h) (G : h.Ns mainGlobals mg) (a : PySem.W.nsIn K mainGlobals x = some (some (.ref f)))
    (l : K.lookup f = some ⟨oc, od, .func (PySem.W.fnOf x qual (defArgs st) (defBody st) (defScope st) .none kV doc pm an cdv ct), osl⟩) (c : PySem.W.codeIn K cdv qual = true) (k : PySem.W.keepIn K (.ref f) = true) (b : BindN x qual st ps) : Dfn K mg x qual st ps :=
  ⟨f, _, PySem.W.mg_of X G a, k, (fun_mk l c k).binds b, fun_mk l c k⟩
theorem dfnK_mk (X : K.In h) (G : h.Ns mainGlobals mg) (a : PySem.W.nsIn K mainGlobals x = some (some (.ref f)))
    (l : K.lookup f = some ⟨oc, od, .func (PySem.W.fnOf x qual (defArgs st) (defBody st) (defScope st) .none kV doc pm an cdv ct), osl⟩) (c : PySem.W.codeIn K cdv qual = true) (k : PySem.W.keepIn K (.ref f) = true) (b : BindN x qual st ps) (bk : BindK x qual st ps) : DfnK K mg x qual st ps :=
  ⟨f, _, PySem.W.mg_of X G a, k, (fun_mk l c k).binds b, ⟨fun s us ws _ l1 l2 => by
    cases List.eq_nil_of_length_eq_zero l1
    exact .of_eq (bk kV doc pm an cdv ct ws (by rw [l2, List.length_reverse])), fun _ r2 => r2.reverse⟩, fun_mk l c k⟩
theorem funD_of (l : K.lookup f = some ⟨oc, od, .func (PySem.W.fnOf x qual (defArgs st) (defBody st) (defScope st) (.ref T) kV doc pm an cdv ct), osl⟩) (lt : K.lookup T = some ⟨tc, td, .seq #[u] n, tsl⟩) (r : RelV dv u) (c : PySem.W.codeIn K cdv qual = true) (k : PySem.W.keepIn K (.ref f) = true) :
    FunD K x qual (defArgs st) (defBody st) (defScope st) [dv] [] f (PySem.W.fnOf x qual (defArgs st) (defBody st) (defScope st) (.ref T) kV doc pm an cdv ct) :=
  ⟨⟨oc, od, .ref T, kV, doc, pm, an, cdv, ct, osl, rfl, l, c, .inr ⟨by simp, T, _, [u], n, rfl, lt, rfl, .cons r .nil⟩, .inl rfl⟩, k⟩
abbrev BindD (x qual : Str) (st : Stmt) (ps : List Str) : Prop := ∀ (T : Addr) (kV doc pm : Value) (an : Option Addr) (cdv ct : Value) (us its : List Value), us.length = ps.length → its.length = 1 →
  ∃ k, bindArgs (PySem.W.fnOf x qual (defArgs st) (defBody st) (defScope st) (.ref T) kV doc pm an cdv ct) ⟨us, []⟩ = seqItems? (.ref T) >>= k ∧ k (some its.toArray) = pure (ps.zip us)
abbrev BindF (x qual : Str) (st : Stmt) (ps : List Str) : Prop := ∀ (T : Addr) (kV doc pm : Value) (an : Option Addr) (cdv ct : Value) (us its : List Value), us.length + 1 = ps.length → its.length = 1 →
  ∃ k, bindArgs (PySem.W.fnOf x qual (defArgs st) (defBody st) (defScope st) (.ref T) kV doc pm an cdv ct) ⟨us, []⟩ = seqItems? (.ref T) >>= k ∧ k (some its.toArray) = pure (ps.zip (us ++ its))
abbrev BindDK (x qual : Str) (st : Stmt) (ps : List Str) : Prop := ∀ (T : Addr) (kV doc pm : Value) (an : Option Addr) (cdv ct : Value) (its ws : List Value), its.length = 1 → ws.length = ps.length →
  ∃ k, bindArgs (PySem.W.fnOf x qual (defArgs st) (defBody st) (defScope st) (.ref T) kV doc pm an cdv ct) ⟨[], ps.reverse.zip ws⟩ = seqItems? (.ref T) >>= k ∧ k (some its.toArray) = pure (ps.zip ws.reverse)
theorem FunD.all {fd : FuncData} (F : FunD K x qual (defArgs st) (defBody st) (defScope st) [dv] [] f fd) (b : BindD x qual st ps) : Binds K fd ps [] := by
  obtain ⟨ds, r, z⟩ := L2.FunD.binds1 (ps := ps) F ps.length 1 (by simp) (by simp) fun T kV doc pm an cdv ct us its l1 l2 => by
    obtain ⟨k, e1, e2⟩ := b T kV doc pm an cdv ct us its l1 l2
    refine ⟨k, e1, ?_⟩
    rw [e2, List.drop_of_length_le (by rw [l2]; exact Nat.le_refl 1), List.append_nil]
  cases r
  exact z
theorem dfnD_mk (X : K.In h) (G : h.Ns mainGlobals mg) (a : PySem.W.nsIn K mainGlobals x = some (some (.ref f)))
    (l : K.lookup f = some ⟨oc, od, .func (PySem.W.fnOf x qual (defArgs st) (defBody st) (defScope st) (.ref T) kV doc pm an cdv ct), osl⟩) (lt : K.lookup T = some ⟨tc, td, .seq #[u] n, tsl⟩) (r : RelV dv u) (c : PySem.W.codeIn K cdv qual = true) (k : PySem.W.keepIn K (.ref f) = true)
    (hp : 1 ≤ ps.length) (b : BindD x qual st ps) (bf : BindF x qual st ps) (bk : BindDK x qual st ps) : DfnD K mg x qual st ps dv := by
  have F := funD_of l lt r c k
  refine ⟨f, _, PySem.W.mg_of X G a, k, F, FunD.all F b, ?_, ?_⟩
  · obtain ⟨ds, r, z⟩ := L2.FunD.binds1 (ps := ps) F (ps.length - 1) 0 (by simp) (by simp; omega) fun T kV doc pm an cdv ct us its l1 l2 => bf T kV doc pm an cdv ct us its (by omega) l2
    obtain ⟨v, rfl, _⟩ := r.one
    exact ⟨v, r, z⟩
  · obtain ⟨its, z⟩ := L2.FunD.kbindsD (ps := ps) F 0 ps.reverse (fun _ _ ws => ws.reverse) (by simp) (fun _ _ r => r.reverse) fun T kV doc pm an cdv ct us its ws l1 l2 l3 => by
      cases List.eq_nil_of_length_eq_zero l1
      exact bk T kV doc pm an cdv ct its ws l2 (by rw [l3, List.length_reverse])
    exact z
theorem const_mk {v : Value} {n : Int} (X : K.In h) (G : h.Ns mainGlobals mg) (z : PySem.W.nsIn K mainGlobals x = some (some v)) (e : ∃ t, v = .int n t) : ∃ t, mg x = some (.int n t) := by
  obtain ⟨t, rfl⟩ := e
  exact ⟨t, PySem.W.mg_of X G z⟩
theorem no_attr {y : Str} (z : PySem.W.findIn K (.ref C) y = some none) : NoAttr K C y := z
theorem cfn_mk (X : K.In h) (G : h.Ns mainGlobals mg) (a : PySem.W.nsIn K mainGlobals x = some (some (.ref C))) (m : Mk K C f)
    (l : K.lookup f = some ⟨oc, od, .func (PySem.W.fnOf "__init__" qual (defArgs st) (defBody st) (defScope st) .none kV doc pm an cdv ct), osl⟩) (c : PySem.W.codeIn K cdv qual = true) (k : PySem.W.keepIn K (.ref f) = true) (b : BindN "__init__" qual st ps) : Cfn K mg x qual st ps C :=
  ⟨f, _, PySem.W.mg_of X G a, m, (fun_mk l c k).binds b, fun_mk l c k⟩
theorem cfnD_mk (X : K.In h) (G : h.Ns mainGlobals mg) (a : PySem.W.nsIn K mainGlobals x = some (some (.ref C))) (m : Mk K C f)
    (l : K.lookup f = some ⟨oc, od, .func (PySem.W.fnOf "__init__" qual (defArgs st) (defBody st) (defScope st) (.ref T) kV doc pm an cdv ct), osl⟩) (lt : K.lookup T = some ⟨tc, td, .seq #[u] n, tsl⟩) (r : RelV dv u) (c : PySem.W.codeIn K cdv qual = true) (k : PySem.W.keepIn K (.ref f) = true)
    (b : BindD "__init__" qual st ps) : CfnD K mg x qual st ps C dv := by
  have F := funD_of l lt r c k
  exact ⟨f, _, PySem.W.mg_of X G a, m, F, FunD.all F b⟩
end
end
end DL

/-! ### X. lambdas: the tables of code objects change, all else stays -/
namespace DL
open PySem L2 Evl PySem.Spec PyProof.Rows
def plainO : HO → Bool
  | .tbl _ => false
  | .ext _ => false
  | _ => true
/-- what is plain stays -/
def ExP (D D' : Hp) : Prop := ∀ b u, D b = some u → plainO u = true → D' b = some u
theorem sq_plain {K : PySem.W.Frag} {D D' : Hp} {a : Addr} {xs : List V} (e : ExP D D') (h : SqL K D a xs) : SqL K D' a xs := by
  rcases h with (h | ⟨o, h⟩) | h
  · exact .inl (.inl (e _ _ h rfl))
  · exact .inl (.inr ⟨o, e _ _ h rfl⟩)
  · exact .inr h
mutual
theorem Den.plain {K : PySem.W.Frag} {D D' : Hp} (e : ExP D D') : ∀ {v : V} {d : Dat}, Den K D v d → Den K D' v d
  | _, _, .non => .non
  | _, _, .bl b => .bl b
  | _, _, .int i => .int i
  | _, _, .str x => .str x
  | _, _, .lst h r => .lst (e _ _ h rfl) (DenAll.plain e r)
  | _, _, .tup h r => .tup (e _ _ h rfl) (DenAll.plain e r)
  | _, _, .obj h r => .obj (e _ _ h rfl) (DenF.plain e r)
  | _, _, .ty n => .ty n
  | _, _, .scr h => .scr (sq_plain e h)
theorem DenAll.plain {K : PySem.W.Frag} {D D' : Hp} (e : ExP D D') : ∀ {v : List V} {d : List Dat}, DenAll K D v d → DenAll K D' v d
  | _, _, .nil => .nil
  | _, _, .cons h r => .cons (Den.plain e h) (DenAll.plain e r)
theorem DenF.plain {K : PySem.W.Frag} {D D' : Hp} (e : ExP D D') : ∀ {v : List (Str × V)} {d : List (Str × Dat)}, DenF K D v d → DenF K D' v d
  | _, _, .nil => .nil
  | _, _, .cons h r => .cons (Den.plain e h) (DenF.plain e r)
end
theorem DenK.plain {K : PySem.W.Frag} {D D' : Hp} (e : ExP D D') : ∀ {kvs : List (List Key × V)} {kds : List (List Key × Dat)}, DenK K D kvs kds → DenK K D' kvs kds
  | _, _, .nil => .nil
  | _, _, .cons r t => .cons (r.plain e) (DenK.plain e t)
mutual
theorem DenO.plain {K : PySem.W.Frag} {D D' H H' : Hp} (e : ExP D D') (k : ExP H H') : ∀ {v : V} {o : Ow}, DenO K D H v o → DenO K D' H' v o
  | _, _, .d h => .d (h.plain e)
  | _, _, .m a => .m a
  | _, _, .l h r => .l (k _ _ h rfl) (DenOs.plain e k r)
  | _, _, .t h r => .t (k _ _ h rfl) (r.plain e)
  | _, _, .z h r => .z (k _ _ h rfl) (r.plain e)
  | _, _, .o h r => .o (k _ _ h rfl) (r.plain e)
theorem DenOs.plain {K : PySem.W.Frag} {D D' H H' : Hp} (e : ExP D D') (k : ExP H H') : ∀ {v : List V} {o : List Ow}, DenOs K D H v o → DenOs K D' H' v o
  | _, _, .nil => .nil
  | _, _, .cons h r => .cons (DenO.plain e k h) (DenOs.plain e k r)
end
theorem Slots.plain {K : PySem.W.Frag} {D D' H H' : Hp} (e : ExP D D') (k : ExP H H') : ∀ {σ : L2.St} {ρ : Rh}, Slots K D H σ ρ → Slots K D' H' σ ρ
  | _, _, .nil => .nil
  | _, _, .skip r => .skip (Slots.plain e k r)
  | _, _, .cons h r => .cons (h.plain e k) (Slots.plain e k r)
/-- owned addresses hold plain things -/
theorem DenO.holds {K : PySem.W.Frag} {D H : Hp} {v : V} {o : Ow} (h : DenO K D H v o) : ∀ a ∈ o.fp, ∃ u, H a = some u ∧ plainO u = true := by
  have key : (∀ {v : V} {o : Ow}, DenO K D H v o → ∀ a ∈ o.fp, ∃ u, H a = some u ∧ plainO u = true) := by
    intro v o h
    exact DenO.rec (motive_1 := fun v o _ => ∀ a ∈ o.fp, ∃ u, H a = some u ∧ plainO u = true) (motive_2 := fun v os _ => ∀ a ∈ fps os, ∃ u, H a = some u ∧ plainO u = true)
      (fun _ a ha => by unfold Ow.fp at ha; exact absurd ha (by simp)) (fun _ a ha => by unfold Ow.fp at ha; exact absurd ha (by simp))
      (fun h _ ih a ha => by
        unfold Ow.fp at ha
        rcases List.mem_cons.mp ha with e | e
        · exact ⟨_, by rw [e]; exact h, rfl⟩
        · exact ih a e)
      (fun h _ a ha => by unfold Ow.fp at ha; rw [List.mem_singleton] at ha; exact ⟨_, by rw [ha]; exact h, rfl⟩)
      (fun h _ a ha => by unfold Ow.fp at ha; rw [List.mem_singleton] at ha; exact ⟨_, by rw [ha]; exact h, rfl⟩)
      (fun h _ a ha => by unfold Ow.fp at ha; rw [List.mem_singleton] at ha; exact ⟨_, by rw [ha]; exact h, rfl⟩)
      (fun a ha => by unfold fps at ha; exact absurd ha (by simp))
      (fun _ _ ih1 ih2 a ha => by
        unfold fps at ha
        rcases List.mem_append.mp ha with e | e
        · exact ih1 a e
        · exact ih2 a e) h
  exact key h
/-- what stands plain in D, and the tables and code objects of H -/
def withTabs (D H : Hp) : Hp := fun b => match H b with
  | some (.tbl ps) => some (.tbl ps)
  | some (.ext φ) => some (.ext φ)
  | _ => match D b with
    | some u => if plainO u = true then some u else none
    | none => none
theorem withTabs_of {D H : Hp} {b : Addr} {u : HO} (e : withTabs D H b = some u) : (H b = some u ∧ plainO u = false) ∨ (D b = some u ∧ plainO u = true) := by
  unfold withTabs at e
  split at e
  · rename_i ps h; cases e; exact .inl ⟨h, rfl⟩
  · rename_i φ h; cases e; exact .inl ⟨h, rfl⟩
  · split at e
    · rename_i v h
      split at e
      · rename_i hp; cases e; exact .inr ⟨h, hp⟩
      · exact nomatch e
    · exact nomatch e
theorem withTabs_odd {D H : Hp} {b : Addr} {u : HO} (h : H b = some u) (k : plainO u = false) : withTabs D H b = some u := by
  unfold withTabs
  rw [h]
  cases u <;> first | rfl | exact absurd (show true = false from k) (by decide)
theorem withTabs_plain {D H : Hp} {b : Addr} {u : HO} (hd : D b = some u) (hh : H b = some u) (k : plainO u = true) : withTabs D H b = some u := by
  unfold withTabs
  rw [hh, hd]
  cases u <;> first | exact absurd (show false = true from k) (by decide) | exact if_pos k
theorem extN_plain {H H1 : Hp} (n : LamX.ExtN H H1) : ExP H H1 := fun b u h k => n b u h fun ps e => by rw [e] at k; exact nomatch k
section
variable {K : PySem.W.Frag} [HasTabs K] {D H H1 : Hp} {T : Tm} {σ : L2.St} {ρ : Rh}
/-- the tables are written on: the state is told over the new heap -/
theorem Sd.tabs (h : Sd K D H T σ ρ) (n : LamX.ExtN H H1) (t : LamX.Tabs (HasTabs.tt K) H1) : ∃ D1, Sd K D1 H1 T σ ρ := by
  have eP := extN_plain n
  have eD : ExP D (withTabs D H1) := fun b u hd k => withTabs_plain hd (eP b u (h.ex b u hd) k) k
  refine ⟨withTabs D H1, fun b u e => ?_, fun p hp => (h.tm p hp).plain eD eP, h.sl.plain eD eP, h.nd, fun a ha => ?_, fun p hp => ?_⟩
  · rcases withTabs_of e with ⟨h1, _⟩ | ⟨h1, k⟩
    · exact h1
    · exact eP b u (h.ex b u h1) k
  · have hu : ∃ u, H a = some u ∧ plainO u = true := by
      rcases List.mem_append.mp ha with z | z
      · have key : ∀ (T : Tm), (∀ p ∈ T, DenO K D H p.1 p.2) → a ∈ fpT T → ∃ u, H a = some u ∧ plainO u = true := by
          intro T
          induction T with
          | nil => intro _ z; exact absurd (show a ∈ ([] : List Addr) from z) (by simp)
          | cons x T ih =>
            intro q z
            rcases List.mem_append.mp z with z | z
            · exact (q x List.mem_cons_self).holds a z
            · exact ih (fun p hp => q p (List.mem_cons_of_mem _ hp)) z
        exact key T h.tm z
      · have key : ∀ {σ : L2.St} {ρ : Rh}, Slots K D H σ ρ → a ∈ fpR ρ → ∃ u, H a = some u ∧ plainO u = true := by
          intro σ ρ s
          induction s with
          | nil => intro z; exact absurd (show a ∈ ([] : List Addr) from z) (by simp)
          | skip r ih => intro z; exact ih z
          | cons r s ih =>
            intro z
            rcases List.mem_append.mp z with z | z
            · exact r.holds a z
            · exact ih z
        exact key h.sl z
    obtain ⟨u, hu, k⟩ := hu
    cases e : withTabs D H1 a with
    | none => rfl
    | some u2 =>
      rcases withTabs_of e with ⟨h1, k2⟩ | ⟨h1, _⟩
      · rw [eP a u hu k] at h1
        cases h1
        rw [k] at k2
        exact nomatch k2
      · rw [h.out a ha] at h1
        exact nomatch h1
  · obtain ⟨ps, h1, h2, h3⟩ := t p hp
    refine ⟨ps, withTabs_odd h1 rfl, h2, fun pos cv hc => ?_⟩
    obtain ⟨c, e1, e2⟩ := h3 pos cv hc
    exact ⟨c, e1, withTabs_odd e2 rfl⟩
end
end DL

/-! ### Y. defs that raise -/
namespace DL
open PySem L2 Evl PySem.Spec PyProof.Rows
section
variable (P : Program) (w : World) (K : PySem.W.Frag) [HasTabs K] (mg : Str → Option Value) (base : Heap)
/-- a def that may raise, its promise -/
structure OkX (k : Nat) (x : Str) (ps : List Str) (R : Pr) : Prop where
  ex : ∃ (f : Addr) (fd : FuncData), mg x = some (.ref f) ∧ PySem.W.keepIn K (.ref f) = true ∧ Binds K fd ps [] ∧ FnOk P w K mg base (L2.CX P w) k f fd ps (spOf K R)
end
/-- an error's own __init__: each argument into its field -/
def spI (K : PySem.W.Frag) (fs : List Str) : Sp := fun vs H Q _ => ∃ (a C : Addr) (ws : List V), vs = .ref a :: ws ∧ ws.length = fs.length ∧ OexC K C ∧ (∀ f ∈ fs, PySem.W.findIn K (.ref C) f = some none) ∧ H a = some (exo a C none) ∧
  ∀ d H2, H2 a = some (exo a C (some d)) → H2 d = some (exd d (fs.zip ws).reverse) → H d = none → d ≠ a → (∀ b, b ≠ a → b ≠ d → H2 b = H b) → Q .non H2
structure ErrC (P : Program) (w : World) (K : PySem.W.Frag) (mg : Str → Option Value) (base : Heap) (x : Str) (C : Addr) (fs : List Str) : Prop where
  mgx : mg x = some (.ref C)
  ox : OexC K C
  no : ∀ f ∈ fs, PySem.W.findIn K (.ref C) f = some none
  ini : ∃ (fI : Addr) (fd : FuncData) (ps : List Str), PySem.W.findIn K (.ref C) "__init__" = some (some (.ref fI)) ∧ PySem.W.typeIn K (.ref fI) = some (.type "function") ∧ Binds K fd ps [] ∧ FnOk P w K mg base CX0 1 fI fd ps (spI K fs)
  few : fs.length ≤ 900
def tRaise (K : PySem.W.Frag) (C : Addr) (fs : List Str) (ta : TA) (E : XK) : TS := fun _ σ H => tMkO C (spI K fs) [] ta σ H E
section
variable {P : Program} {w : World} {K : PySem.W.Frag} [HasTabs K] {mg : Str → Option Value} {base : Heap}
theorem Dfn.okX {x qual : Str} {st : Stmt} {N ps : List Str} {k : Nat} {R : Pr} (F : Dfn K mg x qual st ps) (S : FnScope N ps (defScope st)) (hl : ps.length ≤ N.length) (len : ∀ os Pp, R os Pp → os.length = ps.length)
    (hb : ∀ (f : Addr) (cdv : Value) (A : Around) (outer : List Env) (s : Shared) (H : Hp) (E : XK), Room k (A.deeper (PyProof.Rows.envOfC qual (defScope st) s.heap.objs.size f cdv)) →
      ∃ t, PSs (cxOf (L2.CX P w) P w K mg base N qual (defScope st) f cdv A outer s H E) (defBody st) t ∧ ∀ os Pp, R os Pp → SvP K E t (os.map some ++ List.replicate (N.length - os.length) none) (retS os Pp)) : OkX P w K mg base (k + 1) x ps R := by
  obtain ⟨f, fd, h1, h2, h3, h4⟩ := F.ex
  exact ⟨f, fd, h1, h2, h3, def_okX h4 S hl len (hb f)⟩
end
section
variable {X : Cx} {k : Nat} {x : Str} {ps fs : List Str} {R : Pr} {p pos pos2 : Pos} {e : Expr} {es : List Expr} {t : TA} {E : XK} {C : Addr}
/-- a call of a def that raises nothing, whatever stands around -/
theorem pe_fnE {P : Program} {w : World} {K : PySem.W.Frag} [HasTabs K] {mg : Str → Option Value} {base : Heap} (O : Ok P w K mg base k x ps R) (hX : X.prog = P ∧ X.w = w ∧ X.K = K ∧ X.mg = mg ∧ X.base = base) (hr : Room k X.A) (hg : Gl X x) (ha : PA X (e :: es) t) (hdb : (x == ("__debug__" : Str)) = false := by decide)
    (he : starEach (e :: es) X.env = (false, eval e X.env) :: starEach es X.env := by rfl) (hpl : (backTo pos (starEach es X.env)).any (·.1) = false := by rfl) : PE X (.Call (.Name x p) (e :: es) [] pos) (tCall (spOf K R) [] E t) := by
  obtain ⟨f, fd, hm, hk, hb, F⟩ := O.ex
  obtain ⟨rfl, rfl, rfl, rfl, rfl⟩ := hX
  exact pe_call F hr hg hm hk hb .nil (fun _ _ _ _ _ _ _ h => h.elim) ha hdb he hpl
/-- a call of a def that may raise, where that goes out -/
theorem pe_fnX {P : Program} {w : World} {K : PySem.W.Frag} [HasTabs K] {mg : Str → Option Value} {base : Heap} (O : OkX P w K mg base k x ps R) (tk : Takes X (fun cls d _ H => E cls d H)) (hX : X.prog = P ∧ X.w = w ∧ X.K = K ∧ X.mg = mg ∧ X.base = base) (hr : Room k X.A) (hg : Gl X x) (ha : PA X (e :: es) t) (hdb : (x == ("__debug__" : Str)) = false := by decide)
    (he : starEach (e :: es) X.env = (false, eval e X.env) :: starEach es X.env := by rfl) (hpl : (backTo pos (starEach es X.env)).any (·.1) = false := by rfl) : PE X (.Call (.Name x p) (e :: es) [] pos) (tCall (spOf K R) [] E t) := by
  obtain ⟨f, fd, hm, hk, hb, F⟩ := O.ex
  obtain ⟨rfl, rfl, rfl, rfl, rfl⟩ := hX
  exact pe_call F hr hg hm hk hb .nil (fun pins σ H s e s' I c => passAt tk σ pins H s e s' I c) ha hdb he hpl
/-- raise x(e, ..) -/
theorem ps_raiseE {P : Program} {w : World} {K : PySem.W.Frag} {mg : Str → Option Value} {base : Heap} (O : ErrC P w K mg base x C fs) (tk : Takes X (fun cls d _ H => E cls d H)) (hc : X.calm = true) (hX : X.prog = P ∧ X.w = w ∧ X.K = K ∧ X.mg = mg ∧ X.base = base) (hr : Room 2 X.A) (hg : Gl X x) (ha : PA X (e :: es) t) (hdb : (x == ("__debug__" : Str)) = false := by decide)
    (he : starEach (e :: es) X.env = (false, eval e X.env) :: starEach es X.env := by rfl) (hpl : (backTo pos (starEach es X.env)).any (·.1) = false := by rfl) : PS X (.Raise (some (.Call (.Name x p) (e :: es) [] pos)) none pos2) (tRaise K C fs t E) := by
  obtain ⟨fI, fd, qs, h1, h2, h3, F⟩ := O.ini
  obtain ⟨rfl, rfl, rfl, rfl, rfl⟩ := hX
  exact ps_raise hc tk (pmk_oex O.ox h1 h2 F hr h3 .nil (fun _ _ _ _ _ _ _ h => h.elim) hg O.mgx ha hdb he hpl)
end
section
variable {K : PySem.W.Frag} [HasTabs K] {E : XK} {D H : Hp} {ρ : Rh} {S : SPost} {tas : TA} {C : Addr}
theorem denF_zip : ∀ {fs : List Str} {vs : List V} {ds : List Dat}, DenAll K D vs ds → DenF K D (fs.zip vs) (fs.zip ds)
  | [], _, _, _ => .nil
  | _ :: _, _, _, .nil => .nil
  | f :: fs, _, _, .cons r t => .cons r (denF_zip t)
theorem DenF.app : ∀ {a b : List (Str × V)} {c d : List (Str × Dat)}, DenF K D a c → DenF K D b d → DenF K D (a ++ b) (c ++ d)
  | _, _, _, _, .nil, s => s
  | _, _, _, _, .cons r t, s => .cons r (DenF.app t s)
theorem DenF.rev : ∀ {a : List (Str × V)} {c : List (Str × Dat)}, DenF K D a c → DenF K D a.reverse c.reverse
  | _, _, .nil => .nil
  | _, _, .cons r t => by
    rw [List.reverse_cons, List.reverse_cons]
    exact DenF.app (DenF.rev t) (.cons r .nil)
/-- raise: the arguments are the error's fields, the last one first -/
theorem sv_raise {fs : List Str} (ox : OexC K C) (no : ∀ f ∈ fs, PySem.W.findIn K (.ref C) f = some none) (few : fs.length ≤ 900) (h : AvP K E tas ρ (fun os ρ1 => ∃ ds, os = ds.map Ow.d ∧ ds.length = fs.length ∧ S (.xc C (fs.zip ds).reverse ρ1)) (bndS (fun _ _ => True) S)) : SvP K E (tRaise K C fs tas E) ρ S := by
  intro D H T σ En s w
  refine h D H T σ _ s (fun vs os ρ1 D1 H1 q1 e1 s1 => ?_) (.ofWd w fun _ _ _ z => z)
  obtain ⟨ds, rfl, hl, q⟩ := q1
  have hlv : vs.length = fs.length := by rw [e1, List.length_map, hl]
  refine ⟨by omega, fun a ha => ⟨a, C, vs, by rw [List.append_nil], hlv, ox, no, upd_same, fun d H2 h1 h2 h3 h4 h5 => ?_⟩⟩
  have hd1 : H1 d = none := by rw [upd_ne h4] at h3; exact h3
  refine ⟨rfl, d, _, h1, h2, hd1, ?_⟩
  have dn : DenAll K D1 vs ds := by
    have key : ∀ (vs : List V) (ds : List Dat), vs.length = ds.length → (∀ p ∈ vs.zip (ds.map Ow.d), DenO K D1 H1 p.1 p.2) → DenAll K D1 vs ds := by
      intro vs
      induction vs with
      | nil => intro ds hl _; cases ds with | nil => exact .nil | cons _ _ => simp at hl
      | cons v vs ih =>
        intro ds hl hp
        cases ds with
        | nil => simp at hl
        | cons d ds =>
          have h1 := hp (v, .d d) List.mem_cons_self
          cases h1 with
          | d h1 => exact .cons h1 (ih ds (by simpa using hl) fun p hq => hp p (List.mem_cons_of_mem _ hq))
    exact key vs ds (by rw [hlv, hl]) fun p hp => s1.tm p (List.mem_append_left _ hp)
  have g : Sd K D1 (upd (del H2 a) d (.xd (fs.zip vs).reverse)) T σ ρ1 := (s1.popN).keepH fun b u hb => by
    have n1 : b ≠ a := fun z => by rw [z, ha] at hb; cases hb
    have n2 : b ≠ d := fun z => by rw [z, hd1] at hb; cases hb
    rw [upd_ne n2, del_ne n1, h5 b n1 n2, upd_ne n1]
    exact hb
  exact w.xc C _ ρ1 D1 _ σ d q g ⟨_, upd_same, (denF_zip dn).rev⟩
end
end DL

/-! ### Z. several clauses that name the error; lambdas that are heard -/
namespace DL
open PySem L2 Evl PySem.Spec PyProof.Rows
/-- the ends of a suite in which slot i names the error -/
def offI (i : Nat) (D : Ends) : Ends := ⟨fun σ H => D.nx (σ.set i none) H, D.rt, fun σ H => D.bk (σ.set i none) H, fun σ H => D.ct (σ.set i none) H⟩
def wAll (K : PySem.W.Frag) (Wo : WX) (i : Nat) (D : Ends) : List (Value × (Addr → Value → Option Addr → TS)) → WX
  | [] => Wo
  | q :: r => fun cls d σ H => ∃ y, PySem.W.exmOne K cls q.1 = some y ∧ (y = true → ∀ a, H a = none → q.2 a cls d (offI i D) (σ.set i (some (.ref a))) H) ∧ (y = false → wAll K Wo i D r cls d σ H)
inductive Hands' (X : Cx) (n : Str) : List ExceptHandler → List (Value × (Addr → Value → Option Addr → TS)) → Prop
  | nil : Hands' X n [] []
  | cons {x : Str} {c : Value} {ts : Addr → Value → Option Addr → TS} {st : Stmt} {sts : List Stmt} {p1 p2 : Pos} {hs : List ExceptHandler} {l : List (Value × (Addr → Value → Option Addr → TS))} (nm : Names X x c)
      (su : ∀ (a : Addr) (oe : Obj) (cls : Value) (d : Option Addr) (pn : List (Addr × Obj)), Zc cls d oe → (∃ vs, oe.data = .fields vs) → PSs (X.suite a ((a, oe) :: pn)) (st :: sts) (ts a cls d)) (r : Hands' X n hs l) :
      Hands' X n (.ExceptHandler (some (.Name x p1)) (some n) (st :: sts) p2 :: hs) ((c, ts) :: l)
section
variable {X : Cx} {n : Str} {i : Nat} {body : List Stmt} {k0 : ExceptHandler} {ks : List ExceptHandler} {l : List (Value × (Addr → Value → Option Addr → TS))} {pos : Pos} {tb : WX → TS} {Wo : WX}
theorem ps_tryAll (stk : X.stack = X.env :: X.outer) (frm : X.env.frame = some X.env.locals) (nd : X.N.Nodup) (hn : X.N[i]? = some n) (loc : X.env.kindOf n = some .local) (tk : Takes X Wo)
    (inner : ∀ (W : WX) (pn : List (Addr × Obj)) (xe : Value → Shared → Prop), Takes (X.tr pn xe) W → PassesOwn (model X.prog X.w) X.A X.env xe → PSs (X.tr pn xe) body (tb W))
    (hh : Hands' X n (k0 :: ks) l) : PS X (.Try body (k0 :: ks) [] [] pos) (fun D σ H => tb (wAll X.K Wo i D l) D σ H) := by
  refine ⟨fun pins s0 σ0 H0 D I0 q0 => ?_⟩
  have okX := I0.ok
  have frames : X.A.frames = some (X.env :: X.outer) := by rw [okX.frames, stk]
  have here : Loc X.env.scope n := .inl loc
  refine wpAny_Try_except ?_
  have run := (inner (wAll X.K Wo i D l) (X.pn ++ pins) (fun er t1 => wpAny (model X.prog X.w) X.A (noteFrame er X.env) (fun _ t2 => wpAny (model X.prog X.w) X.A (setFlight er none) (fun _ t3 =>
    wpAny (model X.prog X.w) X.A (handleBy er X.env (k0 :: ks)) (SP X pins D) X.xe t3) X.xe t2) X.xe t1) (fun u t xx => ?_) PassesOwn.looking).run [] s0 σ0 H0 D (I0.toTry _) q0
  · refine wpAny_mono run (fun fl t1 z => ?_) fun _ _ z => z
    cases fl with
    | next => obtain ⟨σ2, H2, J2, q2⟩ := z; exact wpAny_execs_nil ⟨σ2, H2, J2.ofTry okX, q2⟩
    | brk => obtain ⟨σ2, H2, J2, q2⟩ := z; exact ⟨σ2, H2, J2.ofTry okX, q2⟩
    | cont => obtain ⟨σ2, H2, J2, q2⟩ := z; exact ⟨σ2, H2, J2.ofTry okX, q2⟩
    | ret u => obtain ⟨v2, σ2, H2, J2, r2, q2⟩ := z; exact ⟨v2, σ2, H2, J2.ofTry okX, r2, q2⟩
  · obtain ⟨a, B, sB, pB, σ1, H1, cls, d, rfl, J0, noB, up0, sk, nA, osq, agq, want⟩ := xx
    have J1 : Inv X pins σ1 H1 sB := J0.ofTry okX
    have sk1 : Sky B (X.env :: X.outer) a (Zc cls d) X.env.locals t.heap := by rw [← stk]; exact sk
    show wpAny _ X.A (noteFrame (.ref a) X.env) _ _ _
    refine Sky.land Zc.steady frames frm sk1 fun hp3 fl3 up3 => ?_
    have J3 : Inv X pins σ1 H1 { t with heap := hp3 } := J1.landed noB fl3.1 (up0.trans up3) osq agq
    obtain ⟨o3, v3, g3, z3, d3⟩ := fl3.there
    have offF : a ∉ frs (X.env :: X.outer) := fun hm => by
      obtain ⟨_, o', e', no'⟩ := fl3.2.2.1.mem hm
      rw [g3] at e'
      cases e'
      exact no' _ d3
    have offL : a ≠ X.env.locals := fun z => offF (List.mem_filterMap.mpr ⟨X.env, List.mem_cons_self, by rw [frm, z]⟩)
    have offS : a ∉ X.fs := fun hm => by
      obtain ⟨en, hen, q⟩ := List.mem_filterMap.mp hm
      exact offF (List.mem_filterMap.mpr ⟨en, List.mem_cons_of_mem _ hen, q⟩)
    have S3 := J3.suite g3 d3 nA offL offS
    have go : ∀ {hs' : List ExceptHandler} {l' : List (Value × (Addr → Value → Option Addr → TS))}, Hands' X n hs' l' → wAll X.K Wo i D l' cls d σ1 H1 →
        wpAny (model X.prog X.w) X.A (handleBy (.ref a) X.env hs') (SP X pins D) X.xe { t with heap := hp3 } := by
      intro hs' l' hk
      induction hk with
      | nil =>
        intro w
        refine wpAny_handleBy_nil ?_
        obtain ⟨_, _, _, oe, vs, T, oT, ts', ge, gz, gd, gf, gr⟩ := id fl3
        unfold PySem.passOn
        refine wpAny_bind (wpAny_field ge gd gf ?_)
        rw [if_neg (by simp : ¬ ((Value.ref T == Value.none) = true))]
        have out : wpAny (model X.prog X.w) X.A (setFlight (.ref a) X.env.frame) (fun _ t4 => wpAny (model X.prog X.w) X.A (throw (.ref a) : Sem Flow) (SP X pins D) X.xe t4) X.xe { t with heap := hp3 } := by
          rw [frm]
          refine HandSPX.setFlight_upZ fl3 fun f4 r4 up4 => wpAny_throw (tk _ _ ?_)
          exact ⟨a, B, sB, pins, σ1, H1, cls, d, rfl, J1, noB, (up0.trans up3).trans up4, .inr (.inr (by rw [stk]; exact r4)), nA, osq, agq, w⟩
        first | exact wpAny_bind (wpAny_pure (wpAny_bind out)) | exact wpAny_bind out
      | @cons x c ts st sts p1 p2 hs2 l2 nm su r ih =>
        intro w
        obtain ⟨y, hy, yes, no⟩ := w
        refine wpAny_handleBy_cons (codeAny_handlers_test ?_) (fun q => by cases q)
        have lt : PySem.W.Looks (model X.prog X.w) hp3 (typeOf (.ref a)) cls := fun A Q E s k q => wpAny_typeOf_ref (k _ _ g3) (by rw [z3.1]; exact q)
        have lm := PySem.W.exm_one (M := model X.prog X.w) J3.kIn lt hy
        have name : ∀ {Q E : Value → Shared → Prop}, Q c { t with heap := hp3 } → wpAny (model X.prog X.w) (X.A.mark (some (.ref a))) (eval (.Name x p1) X.env) Q E { t with heap := hp3 } := fun {Q E} q => by
          obtain ⟨gl, db, hm | ⟨hm, hv, hnn⟩⟩ := nm
          · exact ld_glob (X := X.suite a ((a, o3) :: (X.pn ++ pins))) S3 gl hm q db
          · exact ld_blt (X := X.suite a ((a, o3) :: (X.pn ++ pins))) S3 gl hm hv q hnn db
        refine name (lm.here ?_)
        cases y with
        | false =>
          show wpAny _ X.A (handleBy (.ref a) X.env hs2) _ _ _
          exact ih (no rfl)
        | true =>
          refine codeAny_handlers_suite_as ?_
          refine HandSPX.lands_againZ fl3 fun hp4 fl4 up4 => ?_
          have J4 : Inv X pins σ1 H1 { t with heap := hp4 } := J1.landed noB fl4.1 ((up0.trans up3).trans up4) osq agq
          obtain ⟨o4, v4, g4, z4, d4⟩ := fl4.there
          have S4 := J4.suite g4 d4 nA offL offS
          refine store_ok (X := X.suite a ((a, o4) :: (X.pn ++ pins))) (v := .ref a) S4 nd hn here rfl (fun t5 S5 => ?_) (.inr loc)
          refine wpAny_mono ((su a o4 cls d (X.pn ++ pins) z4 ⟨_, d4⟩).run [] t5 _ H1 _ S5 (yes rfl a nA)) (fun fl t6 z => ?_) (fun _ _ z => False.elim z)
          have gone : ∀ {σ6 : L2.St} {H6 : Hp} {Q : Shared → Prop}, Inv (X.suite a ((a, o4) :: (X.pn ++ pins))) [] σ6 H6 t6 → (∀ t7, Inv X pins (σ6.set i none) H6 t7 → Q t7) →
              wpAny (model X.prog X.w) X.A (do bindName X.env n .none; unbindBehindTheSuite X.env n p2) (fun _ t7 => Q t7) X.xe t6 := fun {σ6 H6 Q} S6 hq => gone_ok (S6.unsuite okX) nd hn loc hq
          cases fl with
          | next => obtain ⟨σ6, H6, S6, q6⟩ := z; exact gone S6 fun t7 J7 => ⟨_, _, J7, q6⟩
          | brk => obtain ⟨σ6, H6, S6, q6⟩ := z; exact gone S6 fun t7 J7 => ⟨_, _, J7, q6⟩
          | cont => obtain ⟨σ6, H6, S6, q6⟩ := z; exact gone S6 fun t7 J7 => ⟨_, _, J7, q6⟩
          | ret u => obtain ⟨v6, σ6, H6, S6, r6, q6⟩ := z; exact gone S6 fun t7 J7 => ⟨_, _, _, J7, r6, q6⟩
    exact go hh want
end
end DL

/-! ### Ma. errors that keep their arguments, and what is heard of them -/
namespace DL
open PySem L2 Evl PySem.Spec PyProof.Rows
section
variable {P : Program} {w : World} {K : PySem.W.Frag} {mg : Str → Option Value} {base : Heap}
theorem spI_len {fs : List Str} {vs : List V} {H : Hp} {Q : VK} {E : XK} (h : spI K fs vs H Q E) : vs.length = fs.length + 1 := by
  obtain ⟨a, C, ws, rfl, e, _⟩ := h
  simp [e]
/-- an __init__ that keeps its one argument -/
theorem ini1 {qual a : Str} {st : Stmt} {fI : Addr} {fd : FuncData} {p1 p2 p3 p4 : Pos} (F : Fun K "__init__" qual st fI fd) (hst : defBody st = [.Assign [.Attribute (.Name "self" p1) a p2] (.Name a p3) p4]) (S : FnScope ["self", a] ["self", a] (defScope st))
    (v0 : Vis (defScope st) "self") (v1 : Vis (defScope st) a) (d1 : (a == ("__debug__" : Str)) = false) (d2 : (a == ("__classdict__" : Str)) = false) : FnOk P w K mg base CX0 1 fI fd ["self", a] (spI K [a]) := by
  refine F.ok S (fun vs H Q E h => spI_len h) fun cdv A outer s H vs Q E hr h => ?_
  refine ⟨_, by rw [hst]; exact pss_one (ps_ost (pe_var (i := 0) rfl v0) (pe_var (i := 1) rfl v1 d1 d2)), ?_⟩
  obtain ⟨x, C, ws, rfl, e, ox, no, hx, k⟩ := h
  match ws, e with
  | [y], _ =>
    refine ⟨y, rfl, .ref x, rfl, x, C, rfl, ox, no a (by simp), .inl ⟨hx, fun dx h1 h2 => ?_⟩⟩
    refine k dx _ upd_same ?_ h1 h2 fun b h3 h4 => ?_
    · rw [upd_ne h2, upd_same]; rfl
    · rw [upd_ne h3, upd_ne h4]
/-- an __init__ that keeps its two arguments -/
theorem ini2 {qual a b : Str} {st : Stmt} {fI : Addr} {fd : FuncData} {p1 p2 p3 p4 q1 q2 q3 q4 : Pos} (F : Fun K "__init__" qual st fI fd) (hst : defBody st = [.Assign [.Attribute (.Name "self" p1) a p2] (.Name a p3) p4, .Assign [.Attribute (.Name "self" q1) b q2] (.Name b q3) q4])
    (S : FnScope ["self", a, b] ["self", a, b] (defScope st)) (v0 : Vis (defScope st) "self") (v1 : Vis (defScope st) a) (v2 : Vis (defScope st) b) (d1 : (a == ("__debug__" : Str)) = false) (d2 : (a == ("__classdict__" : Str)) = false) (e1 : (b == ("__debug__" : Str)) = false) (e2 : (b == ("__classdict__" : Str)) = false) :
    FnOk P w K mg base CX0 1 fI fd ["self", a, b] (spI K [a, b]) := by
  refine F.ok S (fun vs H Q E h => spI_len h) fun cdv A outer s H vs Q E hr h => ?_
  refine ⟨_, by rw [hst]; exact pss_cons (ps_ost (pe_var (i := 0) rfl v0) (pe_var (i := 1) rfl v1 d1 d2)) (pss_one (ps_ost (pe_var (i := 0) rfl v0) (pe_var (i := 2) rfl v2 e1 e2))), ?_⟩
  obtain ⟨x, C, ws, rfl, e, ox, no, hx, k⟩ := h
  match ws, e with
  | [y, z], _ =>
    refine ⟨y, rfl, .ref x, rfl, x, C, rfl, ox, no a (by simp), .inl ⟨hx, fun dx h1 h2 => ?_⟩⟩
    refine ⟨z, rfl, .ref x, rfl, x, C, rfl, ox, no b (by simp), .inr ⟨dx, [(a, y)], upd_same, ?_, by simp, ?_⟩⟩
    · rw [upd_ne h2, upd_same]
    · refine k dx _ ?_ upd_same h1 h2 fun c h3 h4 => ?_
      · rw [upd_ne (Ne.symm h2), upd_same]
      · rw [upd_ne h4, upd_ne h3, upd_ne h4]
end
/-- what is let out bears as many slots as there are names -/
theorem takes_len {X : Cx} {W : WX} (t : Takes X W) : Takes X (fun cls d σ H => σ.length = X.N.length → W cls d σ H) := fun u s' ⟨a, B, sI, pins, σ, H, cls, d, e, I, nb, up, sky, na, os, ag, w⟩ =>
  t u s' ⟨a, B, sI, pins, σ, H, cls, d, e, I, nb, up, sky, na, os, ag, w I.len⟩
end DL

/-! ### Mb. what a def that catches by clauses makes of an error -/
namespace DL
open PySem L2 Evl PySem.Spec PyProof.Rows
/-- a clause: the class, the first text of its answer, which fields follow (shown or as they are) -/
structure Cla where
  C : Addr
  tag : Str
  its : List (Bool × Str)
def itT (K : PySem.W.Frag) (C a : Addr) (cls : Value) (d : Option Addr) : List (Bool × Str) → TA
  | [] => tNil
  | (false, f) :: r => tCons (tXf a cls d C f (tVar 1)) (itT K C a cls d r)
  | (true, f) :: r => tCons (tCB (rReprD K) (tCons (tXf a cls d C f (tVar 1)) tNil)) (itT K C a cls d r)
def claT (K : PySem.W.Frag) (c : Cla) : Addr → Value → Option Addr → TS := fun a cls d => tRet (tTup (tCons (tC (.str c.tag)) (itT K c.C a cls d c.its)))
def claL (K : PySem.W.Frag) (cs : List Cla) : List (Value × (Addr → Value → Option Addr → TS)) := cs.map fun c => (.ref c.C, claT K c)
/-- the answer's items -/
def itD (fs : List (Str × Dat)) : List (Bool × Str) → List Dat → Prop
  | [], ds => ds = []
  | (false, f) :: r, ds => ∃ x t, fs.lookup f = some x ∧ itD fs r t ∧ ds = x :: t
  | (true, f) :: r, ds => ∃ x t, fs.lookup f = some x ∧ (x.pure = true ∧ x.py.showable = true ∧ x.py.hasDict = false ∧ x.py.shown.length ≤ sizeLine ∧ x.py.depth ≤ 64) ∧ itD fs r t ∧ ds = .str x.py.shown :: t
/-- how an error of the class C with the fields fs is told -/
def heardX : List Cla → Addr → List (Str × Dat) → Dat → Prop
  | [], _, _, _ => False
  | c :: r, C, fs, x => if c.C = C then c.its.length ≤ 900 ∧ ∃ ds, itD fs c.its ds ∧ x = .tup (.str c.tag :: ds) else heardX r C fs x
theorem denF_look {K : PySem.W.Frag} {D : Hp} {f : Str} : ∀ {vs : List (Str × V)} {fs : List (Str × Dat)} {x : Dat}, DenF K D vs fs → fs.lookup f = some x → ∃ v, vs.lookup f = some v ∧ Den K D v x
  | _, _, _, .nil, h => nomatch h
  | _, _, _, .cons (f := g) r t, h => by
    by_cases e : f == g
    · rw [List.lookup_cons, e] at h
      cases h
      exact ⟨_, by rw [List.lookup_cons, e], r⟩
    · have e : (f == g) = false := by simpa using e
      rw [List.lookup_cons, e] at h
      obtain ⟨v, h1, h2⟩ := denF_look t h
      exact ⟨v, by rw [List.lookup_cons, e]; exact h1, h2⟩
section
variable {K : PySem.W.Frag} [HasTabs K] {D H : Hp} {T : Tm} {σ σ1 : L2.St} {ρ : Rh} {C a d : Addr} {fs : List (Str × Dat)} {Q : VK}
theorem itT_ok {R : List V → Hp → Prop} (e : Ex D H) (x : XAt K D H d fs) (h1 : σ1[1]? = some (some (.ref a))) : ∀ {its : List (Bool × Str)} {ds : List Dat} {R : List V → Hp → Prop}, itD fs its ds → (∀ ws, ws.length = its.length → DenAll K D ws ds → R ws H) → itT K C a (.ref C) (some d) its σ1 H R
  | [], _, R, h, k => by
    cases (show _ = [] from h)
    exact k [] rfl .nil
  | (false, f) :: r, _, R, h, k => by
    obtain ⟨y, t, hl, ht, rfl⟩ := h
    obtain ⟨vs, hv, dv⟩ := id x
    obtain ⟨v, l, q⟩ := denF_look dv hl
    refine ⟨.ref a, h1, rfl, rfl, d, vs, v, rfl, hv, l, ?_⟩
    exact itT_ok (R := fun _ _ => True) e x h1 ht fun ws hl q2 => k (v :: ws) (by simp [hl]) (.cons q q2)
  | (true, f) :: r, _, R, h, k => by
    obtain ⟨y, t, hl, ⟨g1, g2, g3, g4, g5⟩, ht, rfl⟩ := h
    obtain ⟨vs, hv, dv⟩ := id x
    obtain ⟨v, l, q⟩ := denF_look dv hl
    refine ⟨.ref a, h1, rfl, rfl, d, vs, v, rfl, hv, l, ?_⟩
    refine (acb_repr g1 g2 g3 g4 g5).2 H [v] (fun x H1 => itT K C a (.ref C) (some d) r σ1 H1 fun xs H2 => R (x :: xs) H2) (.cons (q.mono e) .nil) ?_
    exact itT_ok (R := fun _ _ => True) e x h1 ht fun ws hl q2 => k (_ :: ws) (by simp [hl]) (.cons (.str _) q2)
/-- the classes of the clauses lie apart -/
def Apart (K : PySem.W.Frag) (cs : List Cla) : Prop := ∀ c ∈ cs, ∀ c' ∈ cs, PySem.W.exmOne K (.ref c.C) (.ref c'.C) = some (decide (c'.C = c.C))
theorem heard_in : ∀ {cs : List Cla} {C : Addr} {fs : List (Str × Dat)} {x : Dat}, heardX cs C fs x → ∃ c ∈ cs, c.C = C
  | [], _, _, _, h => h.elim
  | c :: r, C, fs, x, h => by
    by_cases e : c.C = C
    · exact ⟨c, List.mem_cons_self, e⟩
    · have h2 : heardX r C fs x := by
        have h' : (if c.C = C then _ else heardX r C fs x) := h
        rwa [if_neg e] at h'
      obtain ⟨c', h3, h4⟩ := heard_in h2
      exact ⟨c', List.mem_cons_of_mem _ h3, h4⟩
theorem wAll_ok {cs : List Cla} {x : Dat} (ap : Apart K cs) (s : Sd K D H T σ ρ) (xa : XAt K D H d fs) (hx : heardX cs C fs x) (k : ∀ v D' H', Sd K D' H' ((v, .d x) :: T) σ ρ → Q v H') {σ0 : L2.St} (h2 : σ0.length = 2) :
    wAll K (fun _ _ _ _ => False) 1 { nx := fun _ H' => Q .non H', rt := Q } (claL K cs) (.ref C) (some d) σ0 H := by
  obtain ⟨c0, m0, rfl⟩ := heard_in hx
  have go : ∀ r : List Cla, (∀ c ∈ r, c ∈ cs) → heardX r c0.C fs x → wAll K (fun _ _ _ _ => False) 1 { nx := fun _ H' => Q .non H', rt := Q } (claL K r) (.ref c0.C) (some d) σ0 H := by
    intro r
    induction r with
    | nil => intro _ h; exact h.elim
    | cons c r ih =>
      intro hm h
      refine ⟨_, ap c0 m0 c (hm c List.mem_cons_self), fun y a ha => ?_, fun y => ?_⟩
      · have y : c.C = c0.C := of_decide_eq_true y
        have h' : (if c.C = c0.C then _ else heardX r c0.C fs x) := h
        rw [if_pos y] at h'
        obtain ⟨few, ds, hd, rfl⟩ := h'
        show itT K c.C a (.ref c0.C) (some d) c.its _ H _
        rw [y]
        refine itT_ok (R := fun _ _ => True) s.ex xa (by rw [List.getElem?_set_self (by omega)]) hd fun ws hl q => ⟨?_, fun p hp => ?_⟩
        · rw [List.length_cons, hl, sizeLine_eq]; omega
        · have sn := s.new hp (.tup (.str c.tag :: ws))
          exact k _ _ _ (sn.push (.tup upd_same (.cons (.str _) (q.mono (Ex.new (s.dnone hp))))))
      · have y : ¬ c.C = c0.C := of_decide_eq_false y
        have h' : (if c.C = c0.C then _ else heardX r c0.C fs x) := h
        rw [if_neg y] at h'
        exact ih (fun c hc => hm c (List.mem_cons_of_mem _ hc)) h'
  exact go cs (fun _ h => h) hx
end
end DL

/-! ### Mc. a lambda handed to a def that catches by clauses -/
namespace DL
open PySem L2 Evl PySem.Spec PyProof.Rows
/-- try: return (tag, a()) / except X as n: return (..) / .. -/
def TTh (K : PySem.W.Frag) (tag : Str) (cs : List Cla) : (XK → Hp → VK → Prop) → Hp → VK → Prop := fun tl H Q =>
  tl (fun cls d H' => ∀ σ : L2.St, σ.length = 2 → wAll K (fun _ _ _ _ => False) 1 { nx := fun _ H' => Q .non H', rt := Q } (claL K cs) cls d σ H') H
    (fun v H' => ∀ p, H' p = none → Q (.ref p) (upd H' p (.tup [.str tag, v])))
theorem heard_gives {X : Cx} {x a n q tag : Str} {sg : Scope} {g : Addr} {cdg : Value} {j k0 : Nat} {p1 p2 p3 p4 p5 p6 : Pos} {h0 : ExceptHandler} {hs : List ExceptHandler} {cs : List Cla} (na : a ≠ n) (loc : sg.names.lookup n = some .local)
    (hh : ∀ (s : Shared) (H : Hp), Hands' (cxOf C8.CX0 X.prog X.w X.K X.mg X.base [a, n] x sg g cdg X.A X.stack s H C8.E0).nox n (h0 :: hs) (claL X.K cs)) :
    LamX.GivesTo X [a, n] x sg g cdg [.Try [.Return (some (.Tuple [.Constant (.str tag) j p4, .Call (.Name a p1) [] [] p2] k0 p5)) p3] (h0 :: hs) [] [] p6] a q (TTh X.K tag cs) := by
  intro f c' s H Q tl act hc h
  refine ⟨_, pss_one (ps_tryAll (X := (cxOf C8.CX0 X.prog X.w X.K X.mg X.base [a, n] x sg g cdg X.A X.stack s H C8.E0).nox) (n := n) (i := 1) (l := claL X.K cs)
      (tb := fun W D σ H => ∃ Ech : XK, (∀ cls d σ' H', Ech cls d H' → (σ'.length = 2 → W cls d σ' H')) ∧ σ[0]? = some (some (.ref f)) ∧ H c' = some (LamX.CodeO c' q) ∧ tl Ech H (fun v H' => ∀ p, H' p = none → D.rt (.ref p) (upd H' p (.tup [.str tag, v]))))
      rfl rfl (by show [a, n].Nodup; simp [na]) rfl loc LamX.takes0 (fun W pn xe tk _ => ?_) (hh s H)), ?_⟩
  · refine ⟨fun pn2 s' σ H' D I z => ?_⟩
    obtain ⟨Ech, hW, h1, h2, h3⟩ := z
    have hp := act _ pn xe Ech p1 p2 (takes_len tk) hW
    have hq := pss_one (ps_ret (pos := p3) (pe_tup (pos := p5) (x1 := k0) (pa_cons (pe_str (x := tag) (j := j) (pos := p4)) (pa_cons hp pa_nil))))
    refine hq.run pn2 s' σ H' D I ⟨h1, h2, ?_⟩
    show tl Ech H' _
    have e : (fun (v : V) (H1 : Hp) => ([V.str tag, v]).length ≤ sizeLine ∧ ∀ p, H1 p = none → D.rt (.ref p) (upd H1 p (.tup [.str tag, v]))) = fun v H' => ∀ p, H' p = none → D.rt (.ref p) (upd H' p (.tup [.str tag, v])) := by
      funext v H1
      exact propext ⟨fun z => z.2, fun z => ⟨by rw [sizeLine_eq]; show 2 ≤ _; omega, z⟩⟩
    show tl Ech H' (fun (v : V) (H1 : Hp) => ([V.str tag, v]).length ≤ sizeLine ∧ ∀ p, H1 p = none → D.rt (.ref p) (upd H1 p (.tup [.str tag, v])))
    rw [e]
    exact h3
  · exact ⟨_, fun cls d σ' H' z hl => z σ' hl, rfl, hc, h⟩
section
variable {K : PySem.W.Frag} [HasTabs K] {E : XK} {t : XK → TE} {ρ : Rh} {P : EPost} {tag : Str} {cs : List Cla}
/-- x(lambda: body): what the body gives, told; what it raises, told by its clause -/
theorem ev_heard (ap : Apart K cs) (h : ∀ E', EvP K E' (t E') ρ (fun r ρ1 => match r with
    | .ok o => ∃ x, o = .d x ∧ P (.ok (.d (.tup [.str tag, x]))) ρ1
    | .ex C fs => ∃ x, heardX cs C fs x ∧ P (.ok (.d x)) ρ1)) : EvP K E (LamX.tLam (HasTabs.tt K) (TTh K tag cs) t) ρ P := by
  intro D H T σ Q s k xo
  refine ⟨s.tb.ext s.ex, fun H1 n1 t1 => ?_⟩
  obtain ⟨D1, s1⟩ := s.tabs n1 t1
  refine h _ D1 H1 T σ _ s1 (fun v o ρ' D' H' q s' p hp => ?_) fun C fs ρ' D' H' d q s' xa σ0 h2 => ?_
  · obtain ⟨x, rfl, q⟩ := q
    have hv : Den K D' v x := by
      have z := s'.tm (v, .d x) List.mem_cons_self
      cases z with
      | d z => exact z
    exact k _ _ ρ' _ _ q ((s'.pop.new hp (.tup [.str tag, v])).push (.tup upd_same (.cons (.str _) (.cons (hv.mono (Ex.new (s'.dnone hp))) .nil))))
  · obtain ⟨x, hx, q⟩ := q
    exact wAll_ok ap s' xa hx (fun v D2 H2 z => k v _ ρ' D2 H2 q z) h2
end
end DL

/-! ### Md. the top of a law with tables of lambdas -/
namespace DL
open PySem L2 Evl PySem.Spec PyProof.Rows
abbrev tabO : Obj := { cls := .none, data := .fields #[] }
/-- tracked at the entry: the empty tables Ps, and the script -/
def entH (K : PySem.W.Frag) (Ps : List Addr) (a : Addr) (o : Obj) (ns : List Int) : Hp := fun b => if b ∈ Ps then some (.tbl #[]) else scrH K a o ns b
theorem entH_inv {K : PySem.W.Frag} {Ps : List Addr} {a b : Addr} {o : Obj} {ns : List Int} {u : HO} (z : entH K Ps a o ns b = some u) : (b ∈ Ps ∧ u = .tbl #[]) ∨ (b ∉ Ps ∧ b = a ∧ K.lookup a = none ∧ u = .frz o (.lst (ns.map V.int))) := by
  unfold entH at z
  split at z
  · rename_i h; cases z; exact .inl ⟨h, rfl⟩
  · rename_i h
    unfold scrH at z
    split at z
    · rename_i c; cases z; exact .inr ⟨h, c.1, c.2, rfl⟩
    · cases z
/-- what the head tells of the makers' code objects and their tables -/
structure Tbs (K : PySem.W.Frag) (h : Heap) (cs : List (Addr × Addr)) : Prop where
  tab : ∀ p ∈ cs, h.get? p.2 = some tabO
  out : ∀ p ∈ cs, K.lookup p.2 = none
  code : ∀ p ∈ cs, PySem.W.CodeHd h p.1 p.2
/-- the module of the built-ins stands where the law's module names it -/
def BltAt (mg : Str → Option Value) (h : Heap) : Prop := ∃ (m : Addr) (u : Obj), mg "__builtins__" = some (.ref m) ∧ m ≠ builtinsNs ∧ h.get? m = some u ∧ u.cls = .type "module" ∧ u.dict = some builtinsNs ∧ u.data = .plain
theorem topT {P : Program} {w : World} {K : PySem.W.Frag} [HasTabs K] {mg mb : Str → Option Value} {k : Nat} {fa a : Addr} {fd : FuncData} {x : Str} {s₁ : Shared} {vs : List Value} {ns : List Int} {cs : List (Addr × Addr)}
    (KX : K.In s₁.heap) (hns : s₁.heap.Ns mainGlobals mg) (hb : s₁.heap.Ns builtinsNs mb) (hbb : ∀ x : Str, x ≠ "__name__" → mb x = bootBuiltins x) (hlim : s₁.heap.NoLimit) (hg : s₁.gens = #[]) (hc : Tbs K s₁.heap cs)
    (hbm : BltAt mg s₁.heap)
    (ha : s₁.heap.get? a = some { cls := .type "list", data := .seq vs.toArray }) (hi : IntsAre vs ns) (hl : ns.length ≤ 63) (hr : Room k callerA) (ht : ∀ p ∈ HasTabs.tt K, p.1 ∈ cs.map Prod.snd)
    (F : ∀ base : Heap, K.In base → base.Ns mainGlobals mg → (∀ p ∈ cs, LamX.TabB base mg p.1 p.2) → FnG P w K mg base k fa fd [x] (spOf K R_lawS)) (hbind : ∀ (s : Shared) (u : Value), BindsTo s fd ⟨[u], []⟩ [(x, u)]) :
    codeAny (model P w) callerA (.call (.ref fa) ⟨[.ref a], []⟩) (fun r s' => r = .ok (.ret (.bool true)) ∧ PySem.OldK s₁.heap s'.heap ∧ s'.os = s₁.os ∧ AllBare s'.gens) s₁ := by
  have hsz : (ns.map V.int).length ≤ sizeLine := by rw [List.length_map, sizeLine_eq]; omega
  let Ps := cs.map Prod.snd
  let o : Obj := { cls := .type "list", data := .seq vs.toArray }
  let H := entH K Ps a o ns
  have tabAt : ∀ b, b ∈ Ps → s₁.heap.get? b = some tabO ∧ K.lookup b = none := fun b hb => by
    obtain ⟨p, hp, rfl⟩ := List.mem_map.mp hb
    exact ⟨hc.tab p hp, hc.out p hp⟩
  have aP : a ∉ Ps := fun z => by
    have q := (tabAt a z).1
    rw [ha] at q
    exact nomatch congrArg Obj.data (Option.some.inj q)
  have off : ∀ {b : Addr} {ob : Obj}, s₁.heap.get? b = some ob → (∀ n m, ob.data ≠ .seq n m) → ob.data ≠ .fields #[] → H b = none := fun {b ob} e h1 h2 => by
    cases q : H b with
    | none => rfl
    | some u =>
      rcases entH_inv q with ⟨hb, _⟩ | ⟨_, rfl, _, _⟩
      · rw [(tabAt b hb).1] at e
        exact absurd (congrArg Obj.data (Option.some.inj e)).symm h2
      · rw [ha] at e
        exact absurd (congrArg Obj.data (Option.some.inj e)).symm (h1 _ _)
  have seen : ∀ {b : Addr} {ob : Obj}, s₁.heap.get? b = some ob → (∀ n m, ob.data ≠ .seq n m) → ob.data ≠ .fields #[] → (hidT s₁.heap H).get? b = some ob := fun e h1 h2 => hidT_get e (off e h1 h2)
  have ns0 : ∀ {b : Addr} {m : Str → Option Value}, s₁.heap.Ns b m → (hidT s₁.heap H).Ns b m := fun {b m} h => by
    obtain ⟨ob, es, ep, e, d, r⟩ := h
    exact ⟨ob, es, ep, seen e (fun n m z => by rw [d] at z; cases z) (fun z => by rw [d] at z; cases z), d, r⟩
  have kin : K.In (hidT s₁.heap H) := fun b ob e => hidT_get (KX b ob e) (by
    cases q : H b with
    | none => rfl
    | some u =>
      rcases entH_inv q with ⟨hb, _⟩ | ⟨_, rfl, z, _⟩
      · rw [(tabAt b hb).2] at e; cases e
      · rw [z] at e; cases e)
  have hM : Mod K mg (hidT s₁.heap H) := ⟨kin, ns0 hns, ⟨mb, ns0 hb, hbb⟩, hlim.elim fun mc h => ⟨mc, ns0 h.1, h.2⟩⟩
  have hok : HOk P w H s₁.heap := fun b u z => by
    rcases entH_inv z with ⟨hb, rfl⟩ | ⟨_, rfl, _, rfl⟩
    · exact (tabAt b hb).1
    · exact ⟨ha, hsz, vs, _, vals_ints hi, ha⟩
  have e0 : Env0 P w K mg (hidT s₁.heap H) callerA [] s₁ H := ⟨rfl, hM, fun b ob e => of_hidT e, Nat.le_of_eq (hidT_size _ _), trivial, fun b hb => absurd (show b ∈ ([] : List Addr) from hb) (by simp), hok, .of_eq hg⟩
  have hH : ∀ b, b ∈ Ps → H b = some (.tbl #[]) := fun b hb => if_pos hb
  have hS : SqL K H a (ns.map V.int) := by
    cases hk : K.lookup a with
    | some ok =>
      have e := KX a ok hk
      rw [ha] at e
      cases e
      exact .inr ⟨_, vs.toArray, _, hk, rfl, rfl, rfl, by rw [List.size_toArray, hi.length, sizeLine_eq]; omega, by simpa using vals_ints hi⟩
    | none => exact .inl (.inr ⟨o, (if_neg aP).trans (if_pos ⟨rfl, hk⟩)⟩)
  have nG : ∀ {b : Addr}, s₁.heap.get? b = some tabO → mainGlobals ≠ b := fun {b} e z => by
    obtain ⟨ob, es, ep, e2, hd, _⟩ := hns
    rw [z, e] at e2
    cases e2
    cases hd
  have TB : ∀ p ∈ cs, LamX.TabB (hidT s₁.heap H) mg p.1 p.2 := fun p hp => by
    refine ⟨?_, ?_, nG (hc.tab p hp)⟩
    · obtain ⟨oc, us, file, tf, flags, tg, inF, text, tt, e1, r1, r2, r3, rs⟩ := hc.code p hp
      refine ⟨oc, us, file, tf, flags, tg, inF, text, tt, seen e1 (fun n m z => by rw [r2] at z; cases z) (fun z => ?_), r1, r2, r3, rs⟩
      rw [r2] at z
      cases z
      simp at r3
    · obtain ⟨m, u, b1, b2, b3, b4, b5, b6⟩ := hbm
      refine ⟨m, u, b1, b2, fun q => ?_, fun q => ?_, seen b3 (fun n m z => by rw [b6] at z; cases z) (fun z => by rw [b6] at z; cases z), b4, b5, b6⟩
      · obtain ⟨og, es, ep, e, hd, _⟩ := hns
        rw [q, e] at b3
        cases b3
        rw [hd] at b6
        cases b6
      · rw [q, hc.tab p hp] at b3
        cases b3
        cases b6
  have run := (F _ kin (ns0 hns) TB).run callerA [] s₁ H ⟨[.ref a], []⟩ [.ref a] [.ref a] _ _ rfl hr e0 (hbind s₁ (.ref a)) (.cons rfl .nil) (spOf_law hl hS fun p hp => LamX.TabS.nil (hH _ (ht p hp)))
  refine codeAny_mono run fun r s' z => ?_
  match r, z with
  | .ok (.ret u), z =>
    obtain ⟨v, H', os, bare, un, hok', rv, qv⟩ := z
    have qv : v = .bl true := qv
    subst qv
    obtain rfl : u = Value.bool true := rv
    have old : ∀ b ob, b ∉ Ps → s₁.heap.get? b = some ob → s'.heap.get? b = some ob := fun b ob nb e => by
      cases q : H b with
      | none => exact un.keep b ob e q (by intro z; exact absurd (show b ∈ ([] : List Addr) from z) (by simp)) (by simp)
      | some u =>
        rcases entH_inv q with ⟨hb, _⟩ | ⟨_, rfl, _, rfl⟩
        · exact absurd hb nb
        · obtain ⟨e2, _⟩ := hok' b _ (un.frzs b o _ q)
          rw [ha] at e
          rw [e2, ← e]
    have more : ∀ b, b ∈ Ps → ∃ ps : Array Value, s'.heap.get? b = some { cls := .none, data := .fields ps } := fun b hb => by
      obtain ⟨ps, z⟩ := un.tbls b #[] (hH b hb)
      exact ⟨_, hok' b _ z⟩
    refine ⟨rfl, ⟨fun b ob e => ?_, fun b ob e => ?_⟩, os, bare⟩
    · by_cases hb : b ∈ Ps
      · obtain ⟨p, hp, rfl⟩ := List.mem_map.mp hb
        obtain ⟨ps, hm⟩ := more _ hb
        have e2 := hc.tab p hp
        rw [e] at e2
        cases e2
        exact .inr (.inl ⟨((hc.code p hp).tab e).isCodeTable, rfl, #[], ps, rfl, by rw [Array.empty_append]; exact hm⟩)
      · exact .inl (old b ob hb e)
    · by_cases hb : b ∈ Ps
      · obtain ⟨ps, hm⟩ := more _ hb
        exact ⟨_, hm⟩
      · exact ⟨ob, old b ob hb e⟩
  | .ok .next, z => exact False.elim z
  | .ok .brk, z => exact False.elim z
  | .ok .cont, z => exact False.elim z
  | .error e, z => exact False.elim z
theorem walkT {l : PySem.W.OpenLaw} {k : Nat} {q : Program} {loose : List Str} {XP : (Str → Option Value) → Heap → Prop} {YP : World → Heap → Prop} {d : DefRec} {K : Params → PySem.W.Frag} [i0 : ∀ p, HasTabs (K p)] {x : Str} {cs : List (Addr × Addr)} (ht : ∀ p, ∀ q ∈ HasTabs.tt (K p), q.1 ∈ cs.map Prod.snd)
    (hn : l.most = some 63) (hdf : d.params.defaults = []) (hr : Room k callerA) (hY : ∀ (w : World) (h : Heap), YP w h → (K w.params).In h) (hc : ∀ (w : World) (h : Heap), YP w h → (K w.params).In h → Tbs (K w.params) h cs)
    (F : ∀ (w : World) (mg : Str → Option Value) (fa : Addr) (h : Heap), (K w.params).In h → h.Ns mainGlobals mg → mg d.name = some (.ref fa) →
      ∃ fd : FuncData, (∀ (s : Shared) (u : Value), BindsTo s fd ⟨[u], []⟩ [(x, u)]) ∧ ∀ base : Heap, (K w.params).In base → base.Ns mainGlobals mg → (∀ p ∈ cs, LamX.TabB base mg p.1 p.2) → FnG l.prog w (K w.params) mg base k fa fd [x] (spOf (K w.params) R_lawS)) :
    PySem.W.WalkO q loose XP YP l.row.toRowW d [] (fun f vs => PySem.call f vs) := by
  refine Att.attach_call hn hdf fun w s₀ s₁ mg mb fa o pm cd doc a vs ns G Y _ _ _ hmg hobj hints hlen hg => ?_
  have KX := hY w _ Y
  obtain ⟨fd, hb, hF⟩ := F w mg fa _ KX G.T.g hmg
  exact topT KX G.T.g G.T.b G.T.builtins G.T.nolimit hg (hc w _ Y KX) G.T.bmain hobj hints hlen hr (ht _) hF hb
end DL

/-! ### Me. raising defs with a default; defs that make lambdas; the heard lambda -/
namespace DL
open PySem L2 Evl PySem.Spec PyProof.Rows
section
variable {P : Program} {w : World} {K : PySem.W.Frag} [HasTabs K] {mg : Str → Option Value} {base : Heap}
theorem DfnD.okX {x qual : Str} {st : Stmt} {N ps : List Str} {k : Nat} {R : Pr} {dv : V} (F : DfnD K mg x qual st ps dv) (S : FnScope N ps (defScope st)) (hl : ps.length ≤ N.length) (len : ∀ os Pp, R os Pp → os.length = ps.length)
    (hb : ∀ (f : Addr) (cdv : Value) (A : Around) (outer : List Env) (s : Shared) (H : Hp) (E : XK), Room k (A.deeper (PyProof.Rows.envOfC qual (defScope st) s.heap.objs.size f cdv)) →
      ∃ t, PSs (cxOf (L2.CX P w) P w K mg base N qual (defScope st) f cdv A outer s H E) (defBody st) t ∧ ∀ os Pp, R os Pp → SvP K E t (os.map some ++ List.replicate (N.length - os.length) none) (retS os Pp)) : OkX P w K mg base (k + 1) x ps R := by
  obtain ⟨f, fd, h1, h2, h3, h4, _, _⟩ := F.ex
  have G : FnOk P w K mg base (L2.CX P w) (k + 1) f fd ps (spOf K R) := by
    refine h3.ok (CX := L2.CX P w) S (fun vs H Q E h => ?_) (fun cdv A outer s H vs Q E hr h => ?_)
    · obtain ⟨D, T, os, Pp, e, _, r, _⟩ := h
      exact e.trans (len os Pp r)
    · obtain ⟨t, ht, hb2⟩ := hb f cdv A outer s H E hr
      refine ⟨t, ht, run_body (ps := ps) ?_ h hb2⟩
      obtain ⟨D, T, os, Pp, e, _, r, _⟩ := h
      rw [e, len os Pp r]
      exact hl
  exact ⟨f, fd, h1, h2, h4, G⟩
/-- a def of the module whose code object stands at c -/
structure DfnC (K : PySem.W.Frag) (mg : Str → Option Value) (x qual : Str) (st : Stmt) (ps : List Str) (c : Addr) : Prop where
  ex : ∃ (f : Addr) (fd : FuncData), mg x = some (.ref f) ∧ PySem.W.keepIn K (.ref f) = true ∧ Binds K fd ps [] ∧ Fun K x qual st f fd ∧ fd.code = .ref c
theorem fnG_code {x qual : Str} {st : Stmt} {f c : Addr} {fd : FuncData} {N ps : List Str} {k : Nat} {sp : Sp} (F : Fun K x qual st f fd) (hcode : fd.code = .ref c) (S : FnScope N ps (defScope st)) (len : ∀ vs H Q E, sp vs H Q E → vs.length = ps.length)
    (hbody : ∀ (A : Around) (outer : List Env) (s : Shared) (H : Hp) (vs : List V) (Q : VK) (E : XK), A.guards = some [] → Room k (A.deeper (envOfC qual (defScope st) s.heap.objs.size f (.ref c))) → sp vs H Q E →
      ∃ t, PSs (cxOf CX0 P w K mg base N qual (defScope st) f (.ref c) A outer s H E).nox (defBody st) t ∧ t { nx := fun _ H' => Q .non H', rt := Q } (L2.start N vs) H) : FnG P w K mg base (k + 1) f fd ps sp := by
  obtain ⟨oc, od, kV, doc, pm, an, cdv, ct, osl, rfl, lk, hcd⟩ := F.ex
  obtain rfl : cdv = .ref c := hcode
  constructor
  · exact len
  · intro A outer s H args us vs Q E hg hr e0 hb hv h
    obtain ⟨t, ht, hq⟩ := hbody A outer s H vs Q E hg (hr.deeper _) h
    have hl := len _ _ _ _ h
    have hin : K.In s.heap := e0.mod.kin.keeps fun b o e => (e0.bs b o e).1
    refine codeAny_call_function hr.depth (hin _ _ lk) rfl S.co S.gen rfl (PySem.W.codeRec_of hin hcd) (hb _ _ _ _ ?_)
    refine wpAny_newFunctionEnv_cells S.kind (fun y hy => ?_) fun env he s1 x1 => ?_
    · obtain ⟨n, v⟩ := y
      exact (S.par n (List.of_mem_zip hy).1).imp id fun q => ⟨q, PySem.W.cellsFrom_some _ _ _ (.inl q)⟩
    · subst he
      have nl : s.heap.NoLimit := e0.mod.nolimit.keeps fun b o e => (e0.bs b o e).1
      have I := inv_start (CX := CX0) (E := E) S hr.hd e0 hl hv x1
      refine ⟨nl.keeps x1.toInCall.keep, codeAny_func (wpAny_mono (ht.nox.run [] s1 (L2.start N vs) H _ I hq) (fun fl s' z => ?_) fun _ _ z => z)⟩
      cases fl with
      | next =>
        obtain ⟨σ', H', J, z⟩ := z
        exact ⟨V.non, H', J.os, J.bare, J.base, J.hok, rfl, z⟩
      | ret u =>
        obtain ⟨v, σ', H', J, rv, z⟩ := z
        exact ⟨v, H', J.os, J.bare, J.base, J.hok, rv, z⟩
      | brk => exact z.elim fun _ z => z.elim fun _ z => z.2.elim
      | cont => exact z.elim fun _ z => z.elim fun _ z => z.2.elim
theorem DfnC.okG {x qual : Str} {st : Stmt} {N ps : List Str} {k : Nat} {R : Pr} {c : Addr} (F : DfnC K mg x qual st ps c) (S : FnScope N ps (defScope st)) (hl : ps.length ≤ N.length) (len : ∀ os Pp, R os Pp → os.length = ps.length)
    (noex : ∀ os Pp, R os Pp → R os (fun r us => (match r with | .ok _ => True | .ex _ _ => False) ∧ Pp r us))
    (hbody : ∀ (f : Addr) (A : Around) (outer : List Env) (s : Shared) (H : Hp) (E : XK), A.guards = some [] → Room k (A.deeper (PyProof.Rows.envOfC qual (defScope st) s.heap.objs.size f (.ref c))) →
      ∃ t, PSs (cxOf CX0 P w K mg base N qual (defScope st) f (.ref c) A outer s H E).nox (defBody st) t ∧ ∀ os Pp, R os Pp → SvP K E0 t (os.map some ++ List.replicate (N.length - os.length) none) (retS os Pp)) : OkG P w K mg base (k + 1) x ps R := by
  obtain ⟨f, fd, h1, h2, h3, h4, h5⟩ := F.ex
  refine ⟨f, fd, h1, h2, h3, fnG_code h4 h5 S (fun vs H Q E h => ?_) fun A outer s H vs Q E hg hr h => ?_⟩
  · obtain ⟨D, T, os, Pp, e, _, r, _⟩ := h
    exact e.trans (len os Pp r)
  · obtain ⟨t, ht, hb⟩ := hbody f A outer s H E hg hr
    refine ⟨t, ht, ?_⟩
    obtain ⟨D, T, os, Pp, e, s1, r, k1, k2⟩ := h
    exact run_body (K := K) (E := E0) (R := R) (ps := ps) (by rw [e, len os Pp r]; exact hl) ⟨D, T, os, _, e, s1, noex os Pp r, fun v o us D' H' q => k1 v o us D' H' q.2, fun C fs us D' H' d q => q.1.elim⟩ hb
end
section
variable {X : Cx} {K : PySem.W.Frag} {mg : Str → Option Value}
/-- x(lambda: e), x a def that catches by clauses -/
theorem pe_heard {x a n tag : Str} {st : Stmt} {cs : List Cla} {c P' : Addr} {T : List (Addr × Str)} {k : Nat} {params : Arguments} {body : Expr} {scope : Scope} {t : XK → TE} {p lpos pos : Pos} (hX : X.K = K ∧ X.mg = mg) (F : Dfn K mg x x st [a]) (S : FnScope [a, n] [a] (defScope st)) (hva : Vis (defScope st) a)
    (hG : ∀ (g : Addr) (cdg : Value) (q : Str), LamX.GivesTo X [a, n] x (defScope st) g cdg (defBody st) a q (TTh K tag cs)) (TB : LamX.TabB X.base X.mg c P') (hcode : X.env.code = .ref c) (hmT : (P', X.env.qual ++ "<lambda>") ∈ T) (hu : ∀ p ∈ T, p.1 = P' → p.2 = X.env.qual ++ "<lambda>")
    (hr : Room (k + 2) X.A) (hg : Gl X x) (L : LamX.LamS X.env.scope scope)
    (hbody : ∀ (A : Around) (outer : List Env) (s : Shared) (H : Hp) (E : XK) (f c' : Addr), Room k (A.deeper (LamX.lamEnv X scope s.heap.objs.size f c')) → PE (LamX.lamCx X A outer s H E scope f c') body (t E))
    (hdef : defaultsOf params X.env = ([], []) := by rfl) (hbind : ∀ (q : Str) (cl : List (Str × Addr)) (pm cv ctv : Value), bindArgs (PySem.W.kla_fn "<lambda>" q params body scope cl pm cv ctv) ⟨[], []⟩ = pure [] := by intro _ _ _ _ _; rfl)
    (hdb : (x == ("__debug__" : Str)) = false := by decide) (hd : (a == ("__debug__" : Str)) = false := by decide) (hcd : (a == ("__classdict__" : Str)) = false := by decide) :
    PE X (.Call (.Name x p) [.Lambda params body scope lpos] [] pos) (LamX.tLam T (TTh K tag cs) t) := by
  obtain ⟨rfl, rfl⟩ := hX
  obtain ⟨g, fd, h1, h2, h3, h4⟩ := F.ex
  obtain ⟨oc, od, kV, doc, pm, an, cdv, ct, osl, rfl, lk, hcd2⟩ := h4.ex
  exact LamX.pe_lamcall (a := a) (Ng := [a, n]) hg h1 h2 lk hcd2 h3 S rfl hva (hG g cdv _) TB hcode hmT hu hr L hdef hbind hbody hdb hd hcd
end
end DL

/-! ### Mf. slices of tuples, texts that can be laid -/
namespace DL
open PySem L2 Evl PySem.Spec PyProof.Rows
theorem laid_of (s : String) : PyData.canLay0 (.str (Str.ofString s)) = true := by
  show PySem.PyData.strOk (Str.ofString s) = true
  unfold PySem.PyData.strOk
  rw [PySem.Str.ofString_eq_toList]
  show ((s.toList.map Char.toNat).toArray).all _ = true
  rw [Array.all_eq_true']
  intro x hx
  have hx : x ∈ s.toList.map Char.toNat := by simpa using hx
  obtain ⟨c, _, rfl⟩ := List.mem_map.mp hx
  refine decide_eq_true ?_
  have := c.valid
  rcases this with h | h
  · have h : c.toNat < 0xd800 := h
    omega
  · have h : c.toNat < 0x110000 := h.2
    exact h
section
variable {K : PySem.W.Frag} [HasTabs K] {E : XK} {te ta : TE} {ρ : Rh} {P : EPost}
/-- xs[j:] of a tuple -/
theorem ev_slT (h : EvP K E te ρ (bnd (fun x ρ1 => ∃ ds, x = .d (.tup ds) ∧ EvP K E ta ρ1 (bnd (fun y ρ2 => ∃ j, y = .d (.int j) ∧ P (.ok (.d (.tup (cutD ds (some j) none)))) ρ2) P)) P)) : EvP K E (tSl (rSlA K) te (tPart ta) tNoPart) ρ P := by
  intro D H T σ Q s k xo
  refine h D H T σ _ s (fun v x ρ1 D1 H1 q1 s1 => ?_) (xo.sub0 fun _ _ _ z => z)
  obtain ⟨ds, rfl, q1⟩ := q1
  refine q1 D1 H1 _ σ _ s1 (fun w y ρ2 D2 H2 q2 s2 => ?_) (xo.sub1 fun _ _ _ z => z)
  obtain ⟨j, rfl, hp⟩ := q2
  have hx := s2.tm (v, _) (List.mem_cons_of_mem _ List.mem_cons_self)
  have hy := s2.tm (w, _) List.mem_cons_self
  cases hy with
  | d hy =>
    cases hy
    cases hx with
    | d hx =>
      cases hx with
      | tup g1 g2 =>
        have s3 : Sd K D2 H2 T σ ρ2 := s2.pop.pop
        refine ⟨j, rfl, _, _, rfl, st_of (s2.ex _ _ g1), fun hw => ?_, fun _ l hl => k _ _ _ _ _ hp ((s3.new hl _).push (.tup upd_same ((cut_den g2 (some j) none).mono (Ex.new (s3.dnone hl)))))⟩
        have e : cutD ds (some j) none = ds := by
          unfold cutD
          rw [← g2.length, hw.1]
          show (ds.drop 0).take _ = ds
          rw [List.drop_zero, List.take_of_length_le]
          show ds.length ≤ _ - 0
          rw [← g2.length]
          exact Nat.le_refl _
        exact k _ _ _ _ _ (by rw [e] at hp; exact hp) (s3.push (.tup g1 g2))
end
end DL

/-! ### Mg. beginnings of tuples, sorted numbers, how many unlike ones, membership -/
namespace DL
open PySem L2 Evl PySem.Spec PyProof.Rows
section
variable {X : Cx}
/-- len(set(t)), t a tuple of unlike numbers -/
def tLenSetT (K : PySem.W.Frag) (ta : TE) : TE := fun σ H Q => ta σ H fun x H1 => ∃ (l : Addr) (ns : List Int), x = V.ref l ∧ SqT K H1 l (ns.map V.int) ∧ ns.length ≤ 1000 ∧ ns.Nodup ∧ Q (.int ns.length) H1
theorem pe_lenSetT {K : PySem.W.Frag} {a : Expr} {ta : TE} {p p2 q pos : Pos} (hK : X.K = K) (hc : X.calm = true) (hg : Gl X "len") (hm : X.mg "len" = none) (hg2 : Gl X "set") (hm2 : X.mg "set" = none) (ha : PE X a ta)
    (na : starEach [a] X.env = (false, eval a X.env) :: starEach [] X.env := by rfl) : PE X (.Call (.Name "len" p) [.Call (.Name "set" p2) [a] [] q] [] pos) (tLenSetT K ta) := by
  subst hK
  refine ⟨fun pins s σ H Q I h => Call_ (ld_blt I hg hm PySem.boot_len ?_)⟩
  refine callWith_builtin1 (args_cons ?_ rfl) rfl rfl
  refine Call_ (ld_blt I hg2 hm2 boot_set (callWith_type1 (args_cons (thn (ha.run pins s σ H _ I h) fun v s1 ⟨x, H1, I1, r1, q1⟩ => args_nil ?_) na) na rfl))
  obtain ⟨l, ns, rfl, hq, h1, hnd, q1⟩ := q1
  cases r1
  obtain ⟨its, rv, pt, hz⟩ := I1.tuple hq
  refine call_set_tupI ns (I1.ok.hd hc) (show s1.heap.IsTuple l its.toArray from pt) (ints_of_vals rv) (by unfold scanBound; omega) fun h' tk c R1 hcn k => args_nil ?_
  obtain ⟨o, es, ep, t, ho, hex, hdt, g, nd, hm2, hb, hf, hn, hr, hl2⟩ := R1
  have hlen : es.size = ns.length := by
    have e1 : (es.toList.map keyOf).length = ns.length := ((List.perm_ext_iff_of_nodup nd hnd).mpr fun j => by rw [← hm2 j, decide_eq_true_eq]).length_eq
    rw [List.length_map, Array.length_toList] at e1
    exact e1
  have I2 : Inv X pins σ H1 { s1 with heap := h', toks := tk } := I1.kept k
  refine call_len_set ho hex hdt hf (by rw [hlen]; omega) ⟨.int ns.length, H1, I2.tok _, ⟨_, by rw [hlen]⟩, q1⟩
end
section
variable {K : PySem.W.Frag} [HasTabs K] {E : XK} {te ta tb : TE} {tas : TA} {ρ : Rh} {P : EPost}
theorem ev_lenSetT (h : EvP K E te ρ (bnd (fun x ρ1 => ∃ ns : List Int, x = .d (.tup (ns.map Dat.int)) ∧ ns.length ≤ 1000 ∧ ns.Nodup ∧ P (.ok (.d (.int ns.length))) ρ1) P)) : EvP K E (tLenSetT K te) ρ P := by
  intro D H T σ Q s k xo
  refine h D H T σ _ s (fun v x ρ1 D1 H1 q1 s1 => ?_) (xo.sub0 fun _ _ _ z => z)
  obtain ⟨ns, rfl, hl, hn, hp⟩ := q1
  have hx := s1.tm (v, _) List.mem_cons_self
  cases hx with
  | d hx =>
    cases hx with
    | tup g1 g2 =>
      cases g2.ints
      exact ⟨_, ns, rfl, st_of (s1.ex _ _ g1), hl, hn, k _ _ _ _ _ hp (s1.pop.push (.int _))⟩
theorem ev_sortedI (h : AvP K E tas ρ (fun os ρ1 => ∃ ns : List Int, os = [.d (.lst (ns.map Dat.int))] ∧ ∀ (ns' : List Int), ns'.Perm ns → ns'.Pairwise (· ≤ ·) → P (.ok (.d (.lst (ns'.map Dat.int)))) ρ1) P) : EvP K E (tCB (rSortedI K) tas) ρ P := by
  intro D H T σ Q s k xo
  refine h D H T σ _ s (fun vs os ρ1 D1 H1 q1 e1 s1 => ?_) (xo.sub0 fun _ _ _ z => z)
  obtain ⟨ns, rfl, hp⟩ := q1
  match vs, e1 with
  | [v], _ =>
    have hx := s1.tm (v, _) List.mem_cons_self
    cases hx with
    | d hx =>
      cases hx with
      | lst g1 g2 =>
        cases g2.ints
        have s2 : Sd K D1 H1 T σ ρ1 := Sd.pop s1
        refine ⟨_, ns, rfl, SqL.of (s1.ex _ _ g1), fun ns' p hpm hso hn => ?_⟩
        exact k _ _ _ _ _ (hp ns' hpm hso) ((s2.new hn _).push (.lst upd_same (DenAll.ofInts ns')))
/-- xs[:j] of a tuple -/
theorem ev_slTu (h : EvP K E te ρ (bnd (fun x ρ1 => ∃ ds, x = .d (.tup ds) ∧ EvP K E ta ρ1 (bnd (fun y ρ2 => ∃ j, y = .d (.int j) ∧ P (.ok (.d (.tup (cutD ds none (some j))))) ρ2) P)) P)) : EvP K E (tSl (rSlA K) te tNoPart (tPart ta)) ρ P := by
  intro D H T σ Q s k xo
  refine h D H T σ _ s (fun v x ρ1 D1 H1 q1 s1 => ?_) (xo.sub0 fun _ _ _ z => z)
  obtain ⟨ds, rfl, q1⟩ := q1
  refine q1 D1 H1 _ σ _ s1 (fun w y ρ2 D2 H2 q2 s2 => ?_) (xo.sub1 fun _ _ _ z => z)
  obtain ⟨j, rfl, hp⟩ := q2
  have hx := s2.tm (v, _) (List.mem_cons_of_mem _ List.mem_cons_self)
  have hy := s2.tm (w, _) List.mem_cons_self
  cases hy with
  | d hy =>
    cases hy
    cases hx with
    | d hx =>
      cases hx with
      | tup g1 g2 =>
        have s3 : Sd K D2 H2 T σ ρ2 := s2.pop.pop
        refine ⟨j, rfl, _, _, rfl, st_of (s2.ex _ _ g1), fun hw => ?_, fun _ l hl => k _ _ _ _ _ hp ((s3.new hl _).push (.tup upd_same ((cut_den g2 none (some j)).mono (Ex.new (s3.dnone hl)))))⟩
        have e : cutD ds none (some j) = ds := by
          unfold cutD
          rw [← g2.length, hw.2]
          show (ds.drop 0).take _ = ds
          rw [List.drop_zero, List.take_of_length_le]
          show ds.length ≤ _ - 0
          rw [← g2.length]
          exact Nat.le_refl _
        exact k _ _ _ _ _ (by rw [e] at hp; exact hp) (s3.push (.tup g1 g2))
/-- i in t, i not in t: a number, a tuple of numbers -/
theorem inV_int (i : Int) : ∀ ns : List Int, inV (.int i) (ns.map V.int) = decide (i ∈ ns)
  | [] => rfl
  | n :: ns => by
    have ih := inV_int i ns
    unfold inV at ih ⊢
    rw [List.map_cons, List.any_cons, ih]
    show (n == i || _) = _
    by_cases e : n = i
    · subst e; simp
    · have e2 : ¬ i = n := fun z => e z.symm
      simp [e, e2]
theorem ev_inT {neg : Bool} (h : EvP K E ta ρ (bnd (fun x ρ1 => EvP K E tb ρ1 (bnd (fun y ρ2 => ∃ (i : Int) (ns : List Int), x = .d (.int i) ∧ y = .d (.tup (ns.map Dat.int)) ∧ P (.ok (.d (.bl (if neg then !decide (i ∈ ns) else decide (i ∈ ns))))) ρ2) P)) P)) : EvP K E (tOp (rIn K neg) ta tb) ρ P := by
  intro D H T σ Q s k xo
  refine h D H T σ _ s (fun v x ρ1 D1 H1 q1 s1 => ?_) (xo.sub0 fun _ _ _ z => z)
  refine q1 D1 H1 _ σ _ s1 (fun w y ρ2 D2 H2 q2 s2 => ?_) (xo.sub1 fun _ _ _ z => z)
  obtain ⟨i, ns, rfl, rfl, hp⟩ := q2
  have hx := s2.tm (v, _) (List.mem_cons_of_mem _ List.mem_cons_self)
  have hy := s2.tm (w, _) List.mem_cons_self
  cases hx with
  | d hx =>
    cases hx
    cases hy with
    | d hy =>
      cases hy with
      | tup g1 g2 =>
        cases g2.ints
        have s3 : Sd K D2 H2 T σ ρ2 := s2.pop.pop
        refine ⟨_, _, rfl, .inr (st_of (s2.ex _ _ g1)), rfl, ?_, ?_⟩
        · rw [List.all_eq_true]
          intro z hz
          obtain ⟨n, _, rfl⟩ := List.mem_map.mp hz
          rfl
        · rw [inV_int]
          exact k _ _ _ _ _ hp (s3.push (.bl _))
end
/-! ### two defaults behind -/
section
variable (P : Program) (w : World) (K : PySem.W.Frag) [HasTabs K] (mg : Str → Option Value) (base : Heap)
structure DfnT (x qual : Str) (st : Stmt) (ps : List Str) (d1 d2 : V) : Prop where
  ex : ∃ (f : Addr) (fd : FuncData), mg x = some (.ref f) ∧ PySem.W.keepIn K (.ref f) = true ∧ FunD K x qual (defArgs st) (defBody st) (defScope st) [d1, d2] [] f fd ∧ Binds K fd ps [] ∧ ∃ us, Vals [d1, d2] us ∧ Binds K fd ps us
/-- called with both defaults -/
structure OkT (k : Nat) (x : Str) (ps : List Str) (R : Pr) (d1 d2 : V) : Prop where
  ex : ∃ (f : Addr) (fd : FuncData) (us : List Value), mg x = some (.ref f) ∧ PySem.W.keepIn K (.ref f) = true ∧ Vals [d1, d2] us ∧ Binds K fd ps us ∧ FnOk P w K mg base CX0 k f fd ps (spOf K R)
end
section
variable {P : Program} {w : World} {K : PySem.W.Frag} [HasTabs K] {mg : Str → Option Value} {base h : Heap}
theorem DfnT.ok {x qual : Str} {st : Stmt} {N ps : List Str} {k : Nat} {R : Pr} {d1 d2 : V} (F : DfnT K mg x qual st ps d1 d2) (S : FnScope N ps (defScope st)) (hl : ps.length ≤ N.length) (len : ∀ os Pp, R os Pp → os.length = ps.length)
    (noex : ∀ os Pp, R os Pp → R os (fun r us => (match r with | .ok _ => True | .ex _ _ => False) ∧ Pp r us))
    (hbody : ∀ (f : Addr) (cdv : Value) (A : Around) (outer : List Env) (s : Shared) (H : Hp) (E : XK), Room k (A.deeper (PyProof.Rows.envOfC qual (defScope st) s.heap.objs.size f cdv)) →
      ∃ t, PSs (cxOf CX0 P w K mg base N qual (defScope st) f cdv A outer s H E).nox (defBody st) t ∧ ∀ os Pp, R os Pp → SvP K E0 t (os.map some ++ List.replicate (N.length - os.length) none) (retS os Pp)) :
    Ok P w K mg base (k + 1) x ps R ∧ OkT P w K mg base (k + 1) x ps R d1 d2 := by
  obtain ⟨f, fd, h1, h2, h3, h4, us, h5, h6⟩ := F.ex
  have G := def_okD h3 S hl len (hbody f) noex
  exact ⟨⟨f, fd, h1, h2, h4, G⟩, ⟨f, fd, us, h1, h2, h5, h6, G⟩⟩
abbrev BindT (x qual : Str) (st : Stmt) (ps : List Str) (j : Nat) : Prop := ∀ (T : Addr) (kV doc pm : Value) (an : Option Addr) (cdv ct : Value) (us its : List Value), us.length + (2 - j) = ps.length → its.length = 2 →
  ∃ k, bindArgs (PySem.W.fnOf x qual (defArgs st) (defBody st) (defScope st) (.ref T) kV doc pm an cdv ct) ⟨us, []⟩ = seqItems? (.ref T) >>= k ∧ k (some its.toArray) = pure (ps.zip (us ++ its.drop j))
theorem dfnT_mk {x qual : Str} {st : Stmt} {ps : List Str} {f T : Addr} {oc kV doc pm cdv ct u1 u2 tc : Value} {od an td : Option Addr} {osl tsl : Array (Option Value)} {n : Nat} {d1 d2 : V} (X : K.In h) (G : h.Ns mainGlobals mg) (a : PySem.W.nsIn K mainGlobals x = some (some (.ref f)))
    (l : K.lookup f = some ⟨oc, od, .func (PySem.W.fnOf x qual (defArgs st) (defBody st) (defScope st) (.ref T) kV doc pm an cdv ct), osl⟩) (lt : K.lookup T = some ⟨tc, td, .seq #[u1, u2] n, tsl⟩) (r1 : RelV d1 u1) (r2 : RelV d2 u2) (c : PySem.W.codeIn K cdv qual = true) (k : PySem.W.keepIn K (.ref f) = true)
    (hp : 2 ≤ ps.length) (b : BindT x qual st ps 2) (bf : BindT x qual st ps 0) : DfnT K mg x qual st ps d1 d2 := by
  have F : FunD K x qual (defArgs st) (defBody st) (defScope st) [d1, d2] [] f (PySem.W.fnOf x qual (defArgs st) (defBody st) (defScope st) (.ref T) kV doc pm an cdv ct) :=
    ⟨⟨oc, od, .ref T, kV, doc, pm, an, cdv, ct, osl, rfl, l, c, .inr ⟨by simp, T, _, [u1, u2], n, rfl, lt, rfl, .cons r1 (.cons r2 .nil)⟩, .inl rfl⟩, k⟩
  refine ⟨f, _, PySem.W.mg_of X G a, k, F, ?_, ?_⟩
  · obtain ⟨ds, r, z⟩ := L2.FunD.binds1 (ps := ps) F ps.length 2 (by simp) (by simp) fun T kV doc pm an cdv ct us its l1 l2 => b T kV doc pm an cdv ct us its (by omega) l2
    cases r
    exact z
  · obtain ⟨ds, r, z⟩ := L2.FunD.binds1 (ps := ps) F (ps.length - 2) 0 (by simp) (by simp; omega) fun T kV doc pm an cdv ct us its l1 l2 => bf T kV doc pm an cdv ct us its (by omega) l2
    exact ⟨ds, r, z⟩
end
section
variable {X : Cx} {k : Nat} {x : Str} {ps : List Str} {R : Pr} {p pos : Pos} {e : Expr} {es : List Expr} {t : TA} {d1 d2 : V}
theorem pe_fnT {P : Program} {w : World} {K : PySem.W.Frag} [HasTabs K] {mg : Str → Option Value} {base : Heap} (O : OkT P w K mg base k x ps R d1 d2) (hX : X.prog = P ∧ X.w = w ∧ X.K = K ∧ X.mg = mg ∧ X.base = base) (hr : Room k X.A) (hg : Gl X x) (ha : PA X (e :: es) t) (hdb : (x == ("__debug__" : Str)) = false := by decide)
    (he : starEach (e :: es) X.env = (false, eval e X.env) :: starEach es X.env := by rfl) (hpl : (backTo pos (starEach es X.env)).any (·.1) = false := by rfl) : PE X (.Call (.Name x p) (e :: es) [] pos) (tCall (spOf K R) [d1, d2] E0 t) := by
  obtain ⟨f, fd, us, hm, hk, hv, hb, F⟩ := O.ex
  obtain ⟨rfl, rfl, rfl, rfl, rfl⟩ := hX
  exact pe_call F hr hg hm hk hb hv pass0 ha hdb he hpl
end
end DL

/-! ### Mh. classes made with a default behind -/
namespace DL
open PySem L2 Evl PySem.Spec PyProof.Rows
section
variable (P : Program) (w : World) (K : PySem.W.Frag) [HasTabs K] (mg : Str → Option Value) (base : Heap)
structure CfnE (x qual : Str) (st : Stmt) (ps : List Str) (C : Addr) (dv : V) : Prop where
  ex : ∃ (f : Addr) (fd : FuncData), mg x = some (.ref C) ∧ Mk K C f ∧ FunD K "__init__" qual (defArgs st) (defBody st) (defScope st) [dv] [] f fd ∧ Binds K fd ps [] ∧ ∃ u, Vals [dv] [u] ∧ Binds K fd ps [u]
/-- made with its default -/
structure OkCF (k : Nat) (x : Str) (ps : List Str) (C : Addr) (R : Pr) (dv : V) : Prop where
  ex : ∃ (f : Addr) (fd : FuncData) (u : Value), mg x = some (.ref C) ∧ Mk K C f ∧ Vals [dv] [u] ∧ Binds K fd ps [u] ∧ FnOk P w K mg base CX0 k f fd ps (spOf K R)
end
section
variable {P : Program} {w : World} {K : PySem.W.Frag} [HasTabs K] {mg : Str → Option Value} {base h : Heap}
theorem CfnE.ok {x qual : Str} {st : Stmt} {N ps : List Str} {k : Nat} {R : Pr} {C : Addr} {dv : V} (F : CfnE K mg x qual st ps C dv) (S : FnScope N ps (defScope st)) (hl : ps.length ≤ N.length) (len : ∀ os Pp, R os Pp → os.length = ps.length)
    (noex : ∀ os Pp, R os Pp → R os (fun r us => (match r with | .ok _ => True | .ex _ _ => False) ∧ Pp r us))
    (hbody : ∀ (f : Addr) (cdv : Value) (A : Around) (outer : List Env) (s : Shared) (H : Hp) (E : XK), Room k (A.deeper (PyProof.Rows.envOfC qual (defScope st) s.heap.objs.size f cdv)) →
      ∃ t, PSs (cxOf CX0 P w K mg base N qual (defScope st) f cdv A outer s H E).nox (defBody st) t ∧ ∀ os Pp, R os Pp → SvP K E0 t (os.map some ++ List.replicate (N.length - os.length) none) (retS os Pp)) :
    OkC P w K mg base (k + 1) x ps C R ∧ OkCF P w K mg base (k + 1) x ps C R dv := by
  obtain ⟨f, fd, h1, h2, h3, h4, u, h5, h6⟩ := F.ex
  have G := def_okD h3 S hl len (hbody f) noex
  exact ⟨⟨f, fd, h1, h2, h4, G⟩, ⟨f, fd, u, h1, h2, h5, h6, G⟩⟩
theorem cfnE_mk {x qual : Str} {st : Stmt} {ps : List Str} {f C T : Addr} {oc kV doc pm cdv ct u tc : Value} {od an td : Option Addr} {osl tsl : Array (Option Value)} {n : Nat} {dv : V} (X : K.In h) (G : h.Ns mainGlobals mg) (a : PySem.W.nsIn K mainGlobals x = some (some (.ref C))) (m : Mk K C f)
    (l : K.lookup f = some ⟨oc, od, .func (PySem.W.fnOf "__init__" qual (defArgs st) (defBody st) (defScope st) (.ref T) kV doc pm an cdv ct), osl⟩) (lt : K.lookup T = some ⟨tc, td, .seq #[u] n, tsl⟩) (r : RelV dv u) (c : PySem.W.codeIn K cdv qual = true) (k : PySem.W.keepIn K (.ref f) = true)
    (hp : 1 ≤ ps.length) (b : BindD "__init__" qual st ps) (bf : BindF "__init__" qual st ps) : CfnE K mg x qual st ps C dv := by
  have F := funD_of l lt r c k
  refine ⟨f, _, PySem.W.mg_of X G a, m, F, FunD.all F b, ?_⟩
  obtain ⟨ds, r, z⟩ := L2.FunD.binds1 (ps := ps) F (ps.length - 1) 0 (by simp) (by simp; omega) fun T kV doc pm an cdv ct us its l1 l2 => bf T kV doc pm an cdv ct us its (by omega) l2
  obtain ⟨v, rfl, _⟩ := r.one
  exact ⟨v, r, z⟩
end
section
variable {X : Cx} {k : Nat} {x : Str} {ps : List Str} {R : Pr} {p pos : Pos} {e : Expr} {es : List Expr} {t : TA} {C : Addr} {dv : V}
theorem pe_clsF {P : Program} {w : World} {K : PySem.W.Frag} [HasTabs K] {mg : Str → Option Value} {base : Heap} (O : OkCF P w K mg base k x ps C R dv) (hX : X.prog = P ∧ X.w = w ∧ X.K = K ∧ X.mg = mg ∧ X.base = base) (hr : Room (k + 1) X.A) (hg : Gl X x) (ha : PA X (e :: es) t) (hdb : (x == ("__debug__" : Str)) = false := by decide)
    (he : starEach (e :: es) X.env = (false, eval e X.env) :: starEach es X.env := by rfl) (hpl : (backTo pos (starEach es X.env)).any (·.1) = false := by rfl) : PE X (.Call (.Name x p) (e :: es) [] pos) (tMake C (spOf K R) [dv] E0 t) := by
  obtain ⟨f, fd, u, hm, hk, hv, hb, F⟩ := O.ex
  obtain ⟨rfl, rfl, rfl, rfl, rfl⟩ := hX
  exact pe_make hk F hr hg hm hb hv pass0 ha hdb he hpl
end
section
variable {K : PySem.W.Frag} [HasTabs K] {E : XK} {ρ : Rh} {P : EPost} {tas : TA} {Pa : List Ow → Rh → Prop}
theorem av_behind {d : Dat} (hd : d.atm = true) (h : AvP K E tas ρ (fun os ρ1 => Pa (os ++ [.d d]) ρ1) P) : AvP K E (fun σ H Q => tas σ H fun vs H1 => Q (vs ++ [d.val]) H1) ρ Pa P := by
  intro D H T σ Q s k xo
  refine h D H T σ _ s (fun vs os ρ' D' H' q e s1 => k (vs ++ [d.val]) _ ρ' D' H' q (by simp [e]) ?_) xo
  rw [zip_snoc e]
  have s2 := s1.push (Den.at_v (K := K) (D := D') hd)
  refine s2.perm ?_
  show ((d.val, Ow.d d) :: (vs.zip os ++ T)).Perm ((vs.zip os ++ [(d.val, Ow.d d)]) ++ T)
  rw [List.append_assoc]
  exact List.perm_middle.symm
/-- C(..), a default behind -/
theorem ev_makeF {C : Addr} {R : Pr} (d : Dat) (hd : d.atm = true) (h : AvP K E tas ρ (fun os ρ1 => ∀ x, R (.o x C [] :: (os ++ [.d d])) (fun r os' => match r with
    | .ok o => o = .d .non ∧ ∃ fs os2, os' = .o x C fs :: os2 ∧ P (.ok (.d (.obj C fs))) (bks os2 ρ1)
    | .ex C' fs => ∃ o2 os2, os' = o2 :: os2 ∧ P (.ex C' fs) (bks os2 ρ1))) P) (mono : ∀ os (A B : Re → List Ow → Prop), (∀ r os, A r os → B r os) → R os A → R os B) : EvP K E (tMake C (spOf K R) [d.val] E tas) ρ P := by
  have g := ev_make (K := K) (E := E) (ρ := ρ) (P := P) (C := C) (R := R) (av_behind (Pa := fun os ρ1 => ∀ x, R (.o x C [] :: os) (fun r os' => match r with
    | .ok o => o = .d .non ∧ ∃ fs os2, os' = .o x C fs :: os2 ∧ P (.ok (.d (.obj C fs))) (bks os2 ρ1)
    | .ex C' fs => ∃ o2 os2, os' = o2 :: os2 ∧ P (.ex C' fs) (bks os2 ρ1))) hd h) mono
  intro D H T σ Q s k xo
  have z := g D H T σ Q s k xo
  unfold tMake at z ⊢
  simpa only [List.append_nil] using z
end
end DL

/-! ### Mi. errors by their classes -/
namespace DL
open PySem L2 Evl PySem.Spec PyProof.Rows
/-- an error of the text: its class, its fields, its __init__ -/
structure DfnE (K : PySem.W.Frag) (mg : Str → Option Value) (x qual : Str) (st : Stmt) (C : Addr) (fs : List Str) : Prop where
  mgx : mg x = some (.ref C)
  ox : OexC K C
  no : ∀ f ∈ fs, PySem.W.findIn K (.ref C) f = some none
  ini : ∃ (fI : Addr) (fd : FuncData), PySem.W.findIn K (.ref C) "__init__" = some (some (.ref fI)) ∧ PySem.W.typeIn K (.ref fI) = some (.type "function") ∧ Binds K fd ("self" :: fs) [] ∧ Fun K "__init__" qual st fI fd
section
variable {P : Program} {w : World} {K : PySem.W.Frag} {mg : Str → Option Value} {base h : Heap} {x qual a b : Str} {st : Stmt} {C : Addr} {p1 p2 p3 p4 q1 q2 q3 q4 : Pos}
theorem DfnE.err1 (F : DfnE K mg x qual st C [a]) (hst : defBody st = [.Assign [.Attribute (.Name "self" p1) a p2] (.Name a p3) p4]) (S : FnScope ["self", a] ["self", a] (defScope st)) (v0 : Vis (defScope st) "self") (v1 : Vis (defScope st) a) (d1 : (a == ("__debug__" : Str)) = false) (d2 : (a == ("__classdict__" : Str)) = false) : ErrC P w K mg base x C [a] := by
  obtain ⟨fI, fd, h1, h2, h3, h4⟩ := F.ini
  exact ⟨F.mgx, F.ox, F.no, ⟨fI, fd, _, h1, h2, h3, ini1 h4 hst S v0 v1 d1 d2⟩, by simp⟩
theorem DfnE.err2 (F : DfnE K mg x qual st C [a, b]) (hst : defBody st = [.Assign [.Attribute (.Name "self" p1) a p2] (.Name a p3) p4, .Assign [.Attribute (.Name "self" q1) b q2] (.Name b q3) q4]) (S : FnScope ["self", a, b] ["self", a, b] (defScope st)) (v0 : Vis (defScope st) "self") (v1 : Vis (defScope st) a) (v2 : Vis (defScope st) b) (d1 : (a == ("__debug__" : Str)) = false) (d2 : (a == ("__classdict__" : Str)) = false) (e1 : (b == ("__debug__" : Str)) = false) (e2 : (b == ("__classdict__" : Str)) = false) : ErrC P w K mg base x C [a, b] := by
  obtain ⟨fI, fd, h1, h2, h3, h4⟩ := F.ini
  exact ⟨F.mgx, F.ox, F.no, ⟨fI, fd, _, h1, h2, h3, ini2 h4 hst S v0 v1 v2 d1 d2 e1 e2⟩, by simp⟩
theorem dfnE_mk {fs : List Str} {f : Addr} {oc kV doc pm cdv ct : Value} {od an : Option Addr} {osl : Array (Option Value)} (X : K.In h) (G : h.Ns mainGlobals mg) (z : PySem.W.nsIn K mainGlobals x = some (some (.ref C)))
    {nm q2 : Str} {N : Addr} {bs bm sub : List Value} {sn : List Str} {ab : Bool} {col : Option Bool} {dd : Option Addr} {k0 k1 k2 k3 k5 : Option Value} (cls : K.lookup C = some ⟨.type "type", dd, .cls ⟨nm, bs, .ref C :: bm, N, q2, true, sn, sub, ab, col, false⟩, #[k0, k1, k2, k3, some (.builtin "ValueError.__new__"), k5]⟩) (cls2 : PySem.HandSPX.refsVE bm = true)
    (sa : PySem.W.findIn K (.ref C) "__setattr__" = some (some (.builtin "object.__setattr__"))) (exC : PySem.W.subIn K (.ref C) (.type "BaseException") = some true) (tyC : PySem.W.typeIn K (.ref C) = some (.type "type")) (kC : PySem.W.keepIn K (.ref C) = true)
    (no : ∀ f ∈ fs, PySem.W.findIn K (.ref C) f = some none) (fi : PySem.W.findIn K (.ref C) "__init__" = some (some (.ref f))) (ti : PySem.W.typeIn K (.ref f) = some (.type "function"))
    (l : K.lookup f = some ⟨oc, od, .func (PySem.W.fnOf "__init__" qual (defArgs st) (defBody st) (defScope st) .none kV doc pm an cdv ct), osl⟩) (c : PySem.W.codeIn K cdv qual = true) (k : PySem.W.keepIn K (.ref f) = true) (b : BindN "__init__" qual st ("self" :: fs)) : DfnE K mg x qual st C fs :=
  ⟨PySem.W.mg_of X G z, ⟨⟨nm, q2, N, bs, bm, sn, sub, ab, col, dd, k0, k1, k2, k3, k5, cls, cls2⟩, sa, exC, tyC, kC⟩, no, ⟨f, _, fi, ti, (fun_mk l c k).binds b, fun_mk l c k⟩⟩
theorem dfnC_mk {ps : List Str} {f cc : Addr} {oc kV doc pm ct : Value} {od an : Option Addr} {osl : Array (Option Value)} (X : K.In h) (G : h.Ns mainGlobals mg) (z : PySem.W.nsIn K mainGlobals x = some (some (.ref f)))
    (l : K.lookup f = some ⟨oc, od, .func (PySem.W.fnOf x qual (defArgs st) (defBody st) (defScope st) .none kV doc pm an (.ref cc) ct), osl⟩) (c : PySem.W.codeIn K (.ref cc) qual = true) (k : PySem.W.keepIn K (.ref f) = true) (b : BindN x qual st ps) : DfnC K mg x qual st ps cc :=
  ⟨f, _, PySem.W.mg_of X G z, k, (fun_mk l c k).binds b, fun_mk l c k, rfl⟩
end
end DL

/-! ### Mj. fields as targets; whether a caught error is of a class; a def that catches by one clause -/
namespace DL
open PySem L2 Evl PySem.Spec PyProof.Rows
/-- e.f as a target -/
def gFld (K : PySem.W.Frag) (ta : TE) (f : Str) : TG := fun v σ H Q => ta σ H fun x H2 => ∃ a C dx fs, x = .ref a ∧ H2 a = some (.ins C dx fs) ∧ Cls K C ∧ NoAttr K C f ∧ fs.length < 1000 ∧ Q σ (upd H2 a (.ins C dx (putF f v fs)))
theorem pg_fldK {X : Cx} {K : PySem.W.Frag} {o : Expr} {f : Str} {ta : TE} {pos : Pos} (hK : X.K = K) (ha : PE X o ta) : PG X (.Attribute o f pos) (gFld K ta f) := by
  subst hK
  refine ⟨fun pins s σ H v u Q I r h => PySem.W.kas_attr (thn (ha.run pins s σ H _ I h) fun ov s2 ⟨x, H2, I2, rx, a, C, dx, fs, ex, ea, c, n, l, q2⟩ => ?_)⟩
  subst ex
  obtain rfl : ov = Value.ref a := rx
  exact setattr_ok I2 ea c n l r fun s3 I3 => ⟨σ, _, I3, q2⟩
section
variable {K : PySem.W.Frag} [HasTabs K] {ρ : Rh} {i : Nat} {a : Addr}
theorem gv_fld {f : Str} {d : Dat} {Pr : Rh → Prop} {C : Addr} {gs : List (Str × Dat)} (hi : ρ[i]? = some (some (.o a C gs))) (hC : Cls K C) (hn : NoAttr K C f) (hl : gs.length < 1000) (q : Pr (ρ.set i (some (.o a C (putD f d gs))))) : GvP K (gFld K (tVar i) f) [] ρ d Pr := by
  intro D H T σ v Q s1 k
  have hv := s1.tm (v, _) List.mem_cons_self
  cases hv with
  | d hv =>
    obtain ⟨hs, dx, fs, ha, hf⟩ := s1.geto hi
    refine ⟨.ref a, hs, a, C, dx, fs, rfl, ha, hC, hn, by rw [hf.len]; exact hl, k _ _ D _ q ?_ fun _ _ => rfl⟩
    have s2 := s1.pop
    have hlen : i < ρ.length := (List.getElem?_eq_some_iff.mp hi).1
    have fa : D a = none := s2.out a (List.mem_append_right _ ((fpR_none hi).mem_iff.mpr (List.mem_append_left _ List.mem_cons_self)))
    have pm : (fpT T ++ fpR (ρ.set i (some (.o a C (putD f d gs))))).Perm (fpT T ++ fpR ρ) := List.Perm.append_left _ ((fpR_set _ hlen).trans (fpR_none hi).symm)
    have nT : ∀ b ∈ fpT T ++ fpR (ρ.set i none), b ≠ a := fun b hb z => by
      have q2 : (a :: (fpT T ++ fpR (ρ.set i none))).Nodup := List.perm_middle.nodup_iff.mp (((fpR_none hi).append_left _).nodup_iff.mp s2.nd)
      rw [List.nodup_cons] at q2
      exact q2.1 (by rw [← z]; exact hb)
    have sl1 := ((s2.sl.none i).keep (H' := upd H a (.ins C dx (putF f v fs))) (Ex.refl D) fun b hb u hu => by rw [upd_ne (nT b (List.mem_append_right _ hb))]; exact hu).put hs (o := .o a C (putD f d gs)) (.o upd_same (hf.put hv))
    rw [List.set_set] at sl1
    exact .mk' (fun b u hb => by rw [upd_ne (fun z => by rw [z, fa] at hb; cases hb)]; exact s2.ex b u hb) (fun p hp => (s2.tm p hp).keep (Ex.refl D) fun b hb u hu => by rw [upd_ne (nT b (List.mem_append_left _ (mem_fpT hp hb)))]; exact hu) sl1 pm s2.nd s2.out
end
/-! whether a caught error, with its fields, is of a class -/
structure ExcD (K : PySem.W.Frag) (C : Addr) : Prop where
  cl : (PySem.W.clsIn K C).isSome = true
  ga : PySem.W.findIn K (.ref C) "__getattribute__" = some (some (.builtin "BaseException.__getattribute__"))
  gg : PySem.W.findIn K (.ref C) "__getattr__" = some none
  su : PySem.W.subIn K (.ref C) (.type "BaseException") = some true
  ca : PySem.W.findIn K (.ref C) "__class__" = some (some (.builtin "object.__class__"))
  sp : PySem.W.specialIn K (.builtin "object.__class__") "__get__" = some (some (.builtin "getset_descriptor.__get__"))
  tk : PySem.W.takesIn K (.builtin "object.__class__") = some true
  mr : PySem.W.mroIn K C (.type "object") = some true
def rIsX (K : PySem.W.Frag) (a : Addr) (cls : Value) (d : Option Addr) : List V → Hp → VK → Prop := fun xs H Q => ∃ (C dd : Addr) (fs : List (Str × V)) (c : V) (u : Value) (b : Bool), xs = [.ref a, c] ∧ cls = .ref C ∧ d = some dd ∧ H dd = some (.xd fs) ∧ ClsV c u ∧ ExcD K C ∧ PySem.W.kitOne K (.ref C) u = some b ∧ Q (.bl b) H
theorem call_isX {X : Cx} {a : Addr} {oe : Obj} {cls : Value} {d : Option Addr} {pn : List (Addr × Obj)} (hz : Zc cls d oe) (hf : ∃ vs, oe.data = .fields vs) : CallR (X.suite a ((a, oe) :: pn)) (.builtin "isinstance") (rIsX X.K a cls d) := by
  intro pins s σ H xs us Q I r h
  obtain ⟨C, dd, fs, c, u, b, rfl, rfl, rfl, hd, hc, ed, e, q⟩ := h
  cases r with
  | cons rx rr =>
    cases rr with
    | cons rt rr =>
      cases rr
      cases rx
      have eu := ClsV.eq hc rt
      subst eu
      obtain ⟨hget, _⟩ := I.pin (a, oe) (List.mem_append.mpr (.inl List.mem_cons_self))
      obtain ⟨vs, hv⟩ := hf
      have hx : ObjOk X.prog X.w H s.heap dd (.xd fs) := I.hok dd _ hd
      obtain ⟨mA, hns, _⟩ := hx
      obtain ⟨od, ho, _⟩ := lookIn_ns hns
      have J : PySem.W.InstAt s.heap a oe C (some od) := ⟨hget, hz.1, by unfold PySem.W.notCls; rw [hv] <;> rfl, by rw [hz.2]; exact ho⟩
      exact PySem.W.kia_one (PySem.W.kitx_exc ed.cl ed.ga ed.gg ed.su ed.ca ed.sp ed.tk ed.mr) I.kIn J e (fun z => nomatch z) fun tk => ⟨.bl b, H, I.kept (t' := tk) fun _ _ z => z, rfl, q⟩
/-! try: a() / except x as n: return e / return None -/
def TTone (K : PySem.W.Frag) (C : Addr) (te : Addr → Value → Option Addr → TE) : (XK → Hp → VK → Prop) → Hp → VK → Prop := fun tl H Q =>
  tl (fun cls d H' => ∀ σ : L2.St, σ.length = 2 → ∃ y, PySem.W.exmOne K cls (.ref C) = some y ∧ (y = true → ∀ a, H' a = none → te a cls d (σ.set 1 (some (.ref a))) H' Q) ∧ (y = false → False)) H (fun _ H' => Q .non H')
theorem one_gives {X : Cx} {x a n q e : Str} {sg : Scope} {g C : Addr} {cdg : Value} {p1 p2 p3 p4 p5 p6 p7 p8 p9 : Pos} {k0 : Nat} {ex : Expr} {te : Addr → Value → Option Addr → TE} (na : a ≠ n) (loc : sg.names.lookup n = some .local) (hge : sg.names.lookup e = some .globalImplicit) (hme : X.mg e = some (.ref C)) (hde : (e == ("__debug__" : Str)) = false)
    (hex : ∀ (s : Shared) (H : Hp) (b : Addr) (oe : Obj) (cls : Value) (d : Option Addr) (pn : List (Addr × Obj)), Zc cls d oe → (∃ vs, oe.data = .fields vs) → PE ((cxOf C8.CX0 X.prog X.w X.K X.mg X.base [a, n] x sg g cdg X.A X.stack s H C8.E0).nox.suite b ((b, oe) :: pn)) ex (te b cls d)) :
    LamX.GivesTo X [a, n] x sg g cdg [.Try [.Expr (.Call (.Name a p1) [] [] p2) p3] [.ExceptHandler (some (.Name e p4)) (some n) [.Return (some ex) p5] p6] [] [] p7, .Return (some (.Constant .none k0 p8)) p9] a q (TTone X.K C te) := by
  intro f c' s H Q tl act hc h
  have hgl : Gl (cxOf C8.CX0 X.prog X.w X.K X.mg X.base [a, n] x sg g cdg X.A X.stack s H C8.E0).nox e := hge
  refine ⟨_, pss_cons (ps_tryAll (X := (cxOf C8.CX0 X.prog X.w X.K X.mg X.base [a, n] x sg g cdg X.A X.stack s H C8.E0).nox) (n := n) (i := 1) (l := [(.ref C, fun b cls d => tRet (te b cls d))])
      (tb := fun W D σ H => ∃ Ech : XK, (∀ cls d σ' H', Ech cls d H' → (σ'.length = 2 → W cls d σ' H')) ∧ σ[0]? = some (some (.ref f)) ∧ H c' = some (LamX.CodeO c' q) ∧ tl Ech H (fun _ H' => D.nx σ H'))
      rfl rfl (by show [a, n].Nodup; simp [na]) rfl loc LamX.takes0 (fun W pn xe tk _ => ?_) (.cons ⟨hgl, hde, .inl hme⟩ (fun b oe cls d pn hz hf => pss_one (ps_ret (hex s H b oe cls d pn hz hf))) .nil)) (pss_one (ps_ret pe_non)), ?_⟩
  · refine ⟨fun pn2 s' σ H' D I z => ?_⟩
    obtain ⟨Ech, hW, h1, h2, h3⟩ := z
    have hp := act _ pn xe Ech p1 p2 (takes_len tk) hW
    exact (pss_one (ps_expr (pos := p3) hp)).run pn2 s' σ H' D I ⟨h1, h2, h3⟩
  · refine ⟨_, fun cls d σ' H' z hl => ?_, rfl, hc, h⟩
    obtain ⟨y, e1, e2, e3⟩ := z σ' hl
    exact ⟨y, e1, fun hy b hb => e2 hy b hb, fun hy => (e3 hy).elim⟩
section
variable {K : PySem.W.Frag} [HasTabs K] {E : XK} {t : XK → TE} {ρ : Rh} {P : EPost} {C : Addr} {te : Addr → Value → Option Addr → TE}
theorem ev_one (hm : PySem.W.exmOne K (.ref C) (.ref C) = some true) (h : ∀ E', EvP K E' (t E') ρ (fun r ρ1 => match r with
    | .ok o => P (.ok (.d .non)) (bk o ρ1)
    | .ex C' fs => C' = C ∧ ∃ x, (∀ (D H : Hp) (T : Tm) (σ σ1 : L2.St) (a d : Addr) (Q : VK), Sd K D H T σ ρ1 → XAt K D H d fs → σ1[1]? = some (some (.ref a)) → (∀ v D' H', Sd K D' H' ((v, .d x) :: T) σ ρ1 → Q v H') → te a (.ref C) (some d) σ1 H Q) ∧ P (.ok (.d x)) ρ1)) : EvP K E (LamX.tLam (HasTabs.tt K) (TTone K C te) t) ρ P := by
  intro D H T σ Q s k xo
  refine ⟨s.tb.ext s.ex, fun H1 n1 t1 => ?_⟩
  obtain ⟨D1, s1⟩ := s.tabs n1 t1
  refine h _ D1 H1 T σ _ s1 (fun v o ρ' D' H' q s' => k _ _ _ D' H' q (s'.bk.push .non)) fun C' fs ρ' D' H' d q s' xa σ0 h2 => ?_
  obtain ⟨rfl, x, hx, q⟩ := q
  refine ⟨true, hm, fun _ a ha => hx D' H' T σ _ a d Q s' xa ?_ (fun v D2 H2 z => k v _ ρ' D2 H2 q z), fun z => nomatch z⟩
  rw [List.getElem?_set_self (by omega)]
end
end DL

/-! ### Mk. a parameter by keyword only -/
namespace DL
open PySem L2 Evl PySem.Spec PyProof.Rows
section
variable (P : Program) (w : World) (K : PySem.W.Frag) [HasTabs K] (mg : Str → Option Value) (base : Heap)
structure DfnO (x qual : Str) (st : Stmt) (ps : List Str) (ko : Str) (dv : V) : Prop where
  ex : ∃ (f : Addr) (fd : FuncData), mg x = some (.ref f) ∧ PySem.W.keepIn K (.ref f) = true ∧ FunD K x qual (defArgs st) (defBody st) (defScope st) [] [(ko, dv)] f fd ∧ KBn K fd (ps ++ [ko]) ps.length [ko] (fun us ws => us ++ ws) (fun vs zs => vs ++ zs) ∧ ∃ us, Vals [dv] us ∧ Binds K fd (ps ++ [ko]) us
/-- called with it -/
structure OkN (k : Nat) (x : Str) (ps : List Str) (ko : Str) (R : Pr) : Prop where
  ex : ∃ (f : Addr) (fd : FuncData), mg x = some (.ref f) ∧ PySem.W.keepIn K (.ref f) = true ∧ KBn K fd (ps ++ [ko]) ps.length [ko] (fun us ws => us ++ ws) (fun vs zs => vs ++ zs) ∧ FnOk P w K mg base CX0 k f fd (ps ++ [ko]) (spOf K R)
/-- called without it -/
structure OkM (k : Nat) (x : Str) (ps : List Str) (ko : Str) (R : Pr) (dv : V) : Prop where
  ex : ∃ (f : Addr) (fd : FuncData) (us : List Value), mg x = some (.ref f) ∧ PySem.W.keepIn K (.ref f) = true ∧ Vals [dv] us ∧ Binds K fd (ps ++ [ko]) us ∧ FnOk P w K mg base CX0 k f fd (ps ++ [ko]) (spOf K R)
end
section
variable {P : Program} {w : World} {K : PySem.W.Frag} [HasTabs K] {mg : Str → Option Value} {base h : Heap}
theorem DfnO.ok {x qual ko : Str} {st : Stmt} {N ps : List Str} {k : Nat} {R : Pr} {dv : V} (F : DfnO K mg x qual st ps ko dv) (S : FnScope N (ps ++ [ko]) (defScope st)) (hl : (ps ++ [ko]).length ≤ N.length) (len : ∀ os Pp, R os Pp → os.length = (ps ++ [ko]).length)
    (noex : ∀ os Pp, R os Pp → R os (fun r us => (match r with | .ok _ => True | .ex _ _ => False) ∧ Pp r us))
    (hbody : ∀ (f : Addr) (cdv : Value) (A : Around) (outer : List Env) (s : Shared) (H : Hp) (E : XK), Room k (A.deeper (PyProof.Rows.envOfC qual (defScope st) s.heap.objs.size f cdv)) →
      ∃ t, PSs (cxOf CX0 P w K mg base N qual (defScope st) f cdv A outer s H E).nox (defBody st) t ∧ ∀ os Pp, R os Pp → SvP K E0 t (os.map some ++ List.replicate (N.length - os.length) none) (retS os Pp)) :
    OkN P w K mg base (k + 1) x ps ko R ∧ OkM P w K mg base (k + 1) x ps ko R dv := by
  obtain ⟨f, fd, h1, h2, h3, h4, us, h5, h6⟩ := F.ex
  have G : FnOk P w K mg base CX0 (k + 1) f fd (ps ++ [ko]) (spOf K R) := by
    refine h3.ok S (fun vs H Q E h => ?_) (fun cdv A outer s H vs Q E hr h => ?_)
    · obtain ⟨D, T, os, Pp, e, _, r, _⟩ := h
      exact e.trans (len os Pp r)
    · obtain ⟨t, ht, hb⟩ := hbody f cdv A outer s H E hr
      refine ⟨t, ht.nox, ?_⟩
      obtain ⟨D, T, os, Pp, e, s1, r, k1, k2⟩ := h
      exact run_body (K := K) (E := E0) (R := R) (ps := ps ++ [ko]) (by rw [e, len os Pp r]; exact hl) ⟨D, T, os, _, e, s1, noex os Pp r, fun v o us D' H' q => k1 v o us D' H' q.2, fun C fs us D' H' d q => q.1.elim⟩ hb
  exact ⟨⟨f, fd, h1, h2, h4, G⟩, ⟨f, fd, us, h1, h2, h5, h6, G⟩⟩
abbrev BindO (x qual : Str) (st : Stmt) (ps : List Str) (ko : Str) : Prop := ∀ (D : Addr) (doc pm : Value) (an : Option Addr) (cdv ct : Value) (us ws : List Value), us.length = ps.length → ws.length = 1 →
  bindArgs (PySem.W.fnOf x qual (defArgs st) (defBody st) (defScope st) .none (.ref D) doc pm an cdv ct) ⟨us, [ko].zip ws⟩ = pure ((ps ++ [ko]).zip (us ++ ws))
abbrev BindM (x qual : Str) (st : Stmt) (ps : List Str) (ko : Str) : Prop := ∀ (D : Addr) (doc pm : Value) (an : Option Addr) (cdv ct : Value) (us ks : List Value), us.length = ps.length → ks.length = 1 →
  KwChain D ([ko].zip ks) (bindArgs (PySem.W.fnOf x qual (defArgs st) (defBody st) (defScope st) .none (.ref D) doc pm an cdv ct) ⟨us, []⟩) ((ps ++ [ko]).zip (us ++ ks))
theorem dfnO_mk {x qual ko : Str} {st : Stmt} {ps : List Str} {f D : Addr} {oc doc pm cdv ct u : Value} {od an : Option Addr} {osl : Array (Option Value)} {dv : V} (X : K.In h) (G : h.Ns mainGlobals mg) (a : PySem.W.nsIn K mainGlobals x = some (some (.ref f)))
    (l : K.lookup f = some ⟨oc, od, .func (PySem.W.fnOf x qual (defArgs st) (defBody st) (defScope st) .none (.ref D) doc pm an cdv ct), osl⟩) (ld : PySem.W.nsIn K D ko = some (some u)) (r : RelV dv u) (c : PySem.W.codeIn K cdv qual = true) (k : PySem.W.keepIn K (.ref f) = true)
    (b : BindO x qual st ps ko) (bm : BindM x qual st ps ko) : DfnO K mg x qual st ps ko dv := by
  have F : FunD K x qual (defArgs st) (defBody st) (defScope st) [] [(ko, dv)] f (PySem.W.fnOf x qual (defArgs st) (defBody st) (defScope st) .none (.ref D) doc pm an cdv ct) :=
    ⟨⟨oc, od, .none, .ref D, doc, pm, an, cdv, ct, osl, rfl, l, c, .inl ⟨rfl, rfl⟩, .inr ⟨D, rfl, fun q hq => by
      obtain rfl : q = (ko, dv) := by simpa using hq
      exact ⟨u, ld, r⟩⟩⟩, k⟩
  refine ⟨f, _, PySem.W.mg_of X G a, k, F, ⟨fun s us ws _ l1 l2 => .of_eq (b D doc pm an cdv ct us ws l1 l2), fun r1 r2 => r1.append r2⟩, ?_⟩
  obtain ⟨ds, r2, z⟩ := L2.FunD.binds0 (ps := ps ++ [ko]) F ps.length (by simp) (by simp) fun D doc pm an cdv ct us ks l1 l2 => bm D doc pm an cdv ct us ks l1 l2
  exact ⟨ds, r2, z⟩
end
section
variable {X : Cx} {k : Nat} {x ko : Str} {ps : List Str} {R : Pr} {p pos : Pos} {e : Expr} {es : List Expr} {t tk : TA} {dv : V} {kws : List Keyword}
theorem pe_fnN {P : Program} {w : World} {K : PySem.W.Frag} [HasTabs K] {mg : Str → Option Value} {base : Heap} (O : OkN P w K mg base k x ps ko R) (hX : X.prog = P ∧ X.w = w ∧ X.K = K ∧ X.mg = mg ∧ X.base = base) (hr : Room k X.A) (hg : Gl X x) (ha : PA X (e :: es) t) (hkw : PK X kws tk)
    (hks : (backToKw pos (keywordEach kws X.env)).filterMap (·.1) = [ko] := by rfl) (hall : (backToKw pos (keywordEach kws X.env)).all (·.1.isSome) = true := by rfl) (hdb : (x == ("__debug__" : Str)) = false := by decide) (he : starEach (e :: es) X.env = (false, eval e X.env) :: starEach es X.env := by rfl)
    (hpl : ((backTo pos (starEach (e :: es) X.env)).any (·.1) || (backToKw pos (keywordEach kws X.env)).any (·.1.isNone)) = false := by rfl) : PE X (.Call (.Name x p) (e :: es) kws pos) (tCallN ps.length 1 (spOf K R) (fun vs zs => vs ++ zs) E0 t tk) := by
  obtain ⟨f, fd, hm, hk, hb, F⟩ := O.ex
  obtain ⟨rfl, rfl, rfl, rfl, rfl⟩ := hX
  exact pe_callN F hr hg hm hk hb pass0 ha hkw hall hks hdb he hpl
theorem pe_fnM {P : Program} {w : World} {K : PySem.W.Frag} [HasTabs K] {mg : Str → Option Value} {base : Heap} (O : OkM P w K mg base k x ps ko R dv) (hX : X.prog = P ∧ X.w = w ∧ X.K = K ∧ X.mg = mg ∧ X.base = base) (hr : Room k X.A) (hg : Gl X x) (ha : PA X (e :: es) t) (hdb : (x == ("__debug__" : Str)) = false := by decide)
    (he : starEach (e :: es) X.env = (false, eval e X.env) :: starEach es X.env := by rfl) (hpl : (backTo pos (starEach es X.env)).any (·.1) = false := by rfl) : PE X (.Call (.Name x p) (e :: es) [] pos) (tCall (spOf K R) [dv] E0 t) := by
  obtain ⟨f, fd, us, hm, hk, hv, hb, F⟩ := O.ex
  obtain ⟨rfl, rfl, rfl, rfl, rfl⟩ := hX
  exact pe_call F hr hg hm hk hb hv pass0 ha hdb he hpl
end
section
variable {K : PySem.W.Frag} [HasTabs K] {E : XK} {ρ : Rh} {P : EPost} {t tk : TA} {Pa : List Ow → Rh → Prop} {n m : Nat}
theorem av_then (h : AvP K E t ρ (fun os ρ1 => AvP K E tk ρ1 (fun zs ρ2 => os.length = n ∧ zs.length = m ∧ Pa (os ++ zs) ρ2) P) P) : AvP K E (fun σ H Q => t σ H fun vs H1 => tk σ H1 fun zs H2 => vs.length = n ∧ zs.length = m ∧ Q (vs ++ zs) H2) ρ Pa P := by
  intro D H T σ Q s k xo
  refine h D H T σ _ s (fun vs os ρ1 D1 H1 q1 e1 s1 => ?_) xo
  refine q1 D1 H1 _ σ _ s1 (fun ws zs ρ2 D2 H2 q2 e2 s2 => ?_) fun C fs ρ' D' H' d q s' x => ?_
  · obtain ⟨l1, l2, q⟩ := q2
    refine ⟨e1.trans l1, e2.trans l2, k (vs ++ ws) _ ρ2 D2 H2 q (by simp [e1, e2]) ?_⟩
    rw [zip_snoc e1, List.append_assoc]
    refine s2.perm ?_
    rw [← List.append_assoc, ← List.append_assoc]
    exact List.perm_append_comm.append_right _
  · exact xo C fs ρ' D' H' d q s'.popN x
theorem ev_callN {R : Pr} (h : AvP K E t ρ (fun os ρ1 => AvP K E tk ρ1 (fun zs ρ2 => os.length = n ∧ zs.length = m ∧ R (os ++ zs) (fun r os' => P r (bks os' ρ2))) P) P) : EvP K E (tCallN n m (spOf K R) (fun vs zs => vs ++ zs) E t tk) ρ P := by
  have g := ev_call (K := K) (E := E) (ρ := ρ) (P := P) (R := R) (av_then (Pa := fun os ρ2 => R os (fun r os' => P r (bks os' ρ2))) h)
  intro D H T σ Q s k xo
  have z := g D H T σ Q s k xo
  unfold tCall at z
  unfold tCallN
  simpa only [List.append_nil] using z
end
end DL

/-! ### Ml. how many entries the rows of an owned list have -/
namespace DL
open PySem L2 Evl
section
variable {K : PySem.W.Frag} [HasTabs K] {E : XK} {ρ : Rh} {P : EPost} {i : Nat} {a : Addr}
theorem wp_one (ρ : Rh) (j : Nat) : wp ρ [j] = ρ.set j none := rfl
theorem rows_get {D H : Hp} : ∀ {vs : List V} {ro : List Ow} {ls : List Nat}, DenOs K D H vs ro → All2 (fun (n : Nat) (o : Ow) => ∃ b xs, o = .l b xs ∧ xs.length = n) ls ro → vs.length = ls.length ∧ ∀ (t n : Nat), ls[t]? = some n → ∃ (b : Addr) (us : List V), vs[t]? = some (V.ref b) ∧ H b = some (.lst us) ∧ us.length = n
  | _, _, _, .nil, .nil => ⟨rfl, fun t n e => by simp at e⟩
  | _, _, _, .cons (v := v) g gs, .cons (a := n0) q qs => by
    obtain ⟨h1, h2⟩ := rows_get gs qs
    refine ⟨by simp [h1], fun t n e => ?_⟩
    cases t with
    | zero =>
      simp at e
      subst e
      obtain ⟨b, xs, rfl, hl⟩ := q
      cases g with
      | l g1 g2 => exact ⟨_, _, rfl, g1, by rw [g2.length, hl]⟩
    | succ t => simpa using h2 t n (by simpa using e)
theorem ev_sumlen {j : Nat} {ro : List Ow} {ls : List Nat} (e : ρ[i]? = some (some (.l a ro))) (hro : All2 (fun (n : Nat) (o : Ow) => ∃ b xs, o = .l b xs ∧ xs.length = n) ls ro) (hl : ls.length ≤ 100000) (hij : i ≠ j) (hj : j < ρ.length)
    (q : P (.ok (.d (.int (ls.map fun n : Nat => (n : Int)).sum))) (ρ.set j none)) :
    EvP K E (tCB (rSum K) (tCons (tLc (iAny K (tVar i)) (gName j) tYes (tCB (rLenQ K) (tCons (tVar j) tNil)) [j]) tNil)) ρ P := by
  intro D H T σ Q s k xo
  obtain ⟨s0, vs, hH, hD⟩ := s.getl e
  obtain ⟨hvl, hrow⟩ := rows_get hD hro
  have hjs : j < σ.length := by rw [s.len]; exact hj
  refine ⟨.ref a, s0, a, rfl, .inl ⟨⟨vs, sq_of hH⟩, fun Dl hDl => ?_⟩⟩
  have hne : a ≠ Dl := fun z => by rw [← z, hH] at hDl; cases hDl
  refine ⟨fun t m H' => t + m = ls.length ∧ H' = upd H Dl (.lst ((ls.take t).map fun n : Nat => V.int (n : Int))), ⟨ls.length, by omega, rfl⟩, ?_⟩
  rintro t m H' ⟨hm, rfl⟩
  have hSq : ∀ xs, SqL K (upd H Dl (.lst xs)) a vs := fun xs => sq_of (by rw [upd_ne hne]; exact hH)
  by_cases ht : t < ls.length
  · have hg := List.getElem?_eq_getElem ht
    obtain ⟨b, us, hb1, hb2, hb3⟩ := hrow t _ hg
    have hbn : b ≠ Dl := fun z => by rw [← z, hb2] at hDl; cases hDl
    refine .inr ⟨⟨vs, .ref b, hSq _, hb1⟩, fun H2 => H2 = upd H Dl (.lst ((ls.take (t + 1)).map fun n : Nat => V.int (n : Int))), fun H2 hH2 => ⟨m - 1, by omega, by omega, hH2⟩, ?_⟩
    rintro x H2 ⟨rfl, hy⟩
    have hx := hy vs (hSq _)
    rw [hb1] at hx
    cases hx
    refine ⟨by rw [wipe_set (List.mem_cons_self), wipe_wipe], ?_⟩
    dsimp only [tYes]
    rw [if_pos rfl]
    refine ⟨.ref b, ?_, b, us, rfl, .inl (sq_of (by rw [upd_ne hbn]; exact hb2)), ?_⟩
    · rw [List.getElem?_set_self (by rw [L2.wipe_length]; exact hjs)]
    · refine ⟨_, upd_same, ?_, ?_⟩
      · rw [List.length_map, List.length_take]
        exact sz_lt (by omega)
      · rw [upd_upd, hb3, List.take_add_one, hg, List.map_append]
        rfl
  · have et : t = ls.length := by omega
    subst et
    rw [List.take_length]
    have s1 : Sd K D (upd H Dl (.lst [])) ((.ref Dl, .l Dl []) :: T) σ ρ := Sd.own (vs := []) (os := []) s rfl hDl
    refine .inl ⟨⟨vs, hSq _, by omega⟩, Dl, ls.map fun n : Nat => (n : Int), rfl, sq_of (by rw [upd_same, List.map_map]; rfl), ?_⟩
    have sp : Sd K D H ((ls.map fun n : Nat => V.int (n : Int)).zip (ls.map fun n : Nat => Ow.d (.int (n : Int))) ++ T) σ ρ := by
      clear hro hrow hvl hl hm ht s1 q k
      induction ls with
      | nil => exact s
      | cons n ls ih => exact Sd.push ih (.int _)
    have s2 := (Sd.own sp (by simp) hDl).pop
    have s3 := ((s2.wipe [j]).unwipe).push (v := .int (ls.map fun n : Nat => (n : Int)).sum) (d := .int (ls.map fun n : Nat => (n : Int)).sum) (.int _)
    exact k _ _ _ D _ q s3
end
section
variable {X : Cx} {k : Nat} {x : Str} {ps : List Str} {R : Pr} {p pos : Pos} {e : Expr} {es : List Expr} {t : TA} {C : Addr} {E : XK}
/-- a class made where something may be raised -/
theorem pe_clsE {P : Program} {w : World} {K : PySem.W.Frag} [HasTabs K] {mg : Str → Option Value} {base : Heap} (O : OkC P w K mg base k x ps C R) (hX : X.prog = P ∧ X.w = w ∧ X.K = K ∧ X.mg = mg ∧ X.base = base) (hr : Room (k + 1) X.A) (hg : Gl X x) (ha : PA X (e :: es) t) (hdb : (x == ("__debug__" : Str)) = false := by decide)
    (he : starEach (e :: es) X.env = (false, eval e X.env) :: starEach es X.env := by rfl) (hpl : (backTo pos (starEach es X.env)).any (·.1) = false := by rfl) : PE X (.Call (.Name x p) (e :: es) [] pos) (tMake C (spOf K R) [] E t) := by
  obtain ⟨f, fd, hm, hk, hb, F⟩ := O.ex
  obtain ⟨rfl, rfl, rfl, rfl, rfl⟩ := hX
  exact pe_make hk F hr hg hm hb .nil (fun _ _ _ _ _ _ _ h => h.elim) ha hdb he hpl
end
end DL

/-! ### Mm. a lambda handed to a def of the law, however it is heard -/
namespace DL
open PySem L2 Evl PySem.Spec PyProof.Rows
section
variable {X : Cx} {K : PySem.W.Frag} {mg : Str → Option Value}
theorem pe_lam {x a n : Str} {st : Stmt} {c P' : Addr} {T : List (Addr × Str)} {k : Nat} {params : Arguments} {body : Expr} {scope : Scope} {t : XK → TE} {p lpos pos : Pos} {TT : (XK → Hp → VK → Prop) → Hp → VK → Prop} (hX : X.K = K ∧ X.mg = mg) (F : Dfn K mg x x st [a]) (S : FnScope [a, n] [a] (defScope st)) (hva : Vis (defScope st) a)
    (hG : ∀ (g : Addr) (cdg : Value) (q : Str), LamX.GivesTo X [a, n] x (defScope st) g cdg (defBody st) a q TT) (TB : LamX.TabB X.base X.mg c P') (hcode : X.env.code = .ref c) (hmT : (P', X.env.qual ++ "<lambda>") ∈ T) (hu : ∀ p ∈ T, p.1 = P' → p.2 = X.env.qual ++ "<lambda>")
    (hr : Room (k + 2) X.A) (hg : Gl X x) (L : LamX.LamS X.env.scope scope)
    (hbody : ∀ (A : Around) (outer : List Env) (s : Shared) (H : Hp) (E : XK) (f c' : Addr), Room k (A.deeper (LamX.lamEnv X scope s.heap.objs.size f c')) → PE (LamX.lamCx X A outer s H E scope f c') body (t E))
    (hdef : defaultsOf params X.env = ([], []) := by rfl) (hbind : ∀ (q : Str) (cl : List (Str × Addr)) (pm cv ctv : Value), bindArgs (PySem.W.kla_fn "<lambda>" q params body scope cl pm cv ctv) ⟨[], []⟩ = pure [] := by intro _ _ _ _ _; rfl)
    (hdb : (x == ("__debug__" : Str)) = false := by decide) (hd : (a == ("__debug__" : Str)) = false := by decide) (hcd : (a == ("__classdict__" : Str)) = false := by decide) :
    PE X (.Call (.Name x p) [.Lambda params body scope lpos] [] pos) (LamX.tLam T TT t) := by
  obtain ⟨rfl, rfl⟩ := hX
  obtain ⟨g, fd, h1, h2, h3, h4⟩ := F.ex
  obtain ⟨oc, od, kV, doc, pm, an, cdv, ct, osl, rfl, lk, hcd2⟩ := h4.ex
  exact LamX.pe_lamcall (a := a) (Ng := [a, n]) hg h1 h2 lk hcd2 h3 S rfl hva (hG g cdv _) TB hcode hmT hu hr L hdef hbind hbody hdb hd hcd
end
/-- try: body / except x as n: return e -/
def tTryX (K : PySem.W.Frag) (n i : Nat) (C : Addr) (te : Addr → Value → Option Addr → TE) (t : XK → TS) : TS := fun D σ H => ∃ Ech : XK, (∀ cls d (σ' : L2.St) H', Ech cls d H' → σ'.length = n → ∃ y, PySem.W.exmOne K cls (.ref C) = some y ∧ (y = true → ∀ a, H' a = none → te a cls d (σ'.set i (some (.ref a))) H' D.rt) ∧ (y = false → False)) ∧ t Ech D σ H
theorem ps_tryX {X : Cx} {n e : Str} {i : Nat} {C : Addr} {body : List Stmt} {ex : Expr} {te : Addr → Value → Option Addr → TE} {t : XK → TS} {Wo : WX} {p1 p2 p3 pos : Pos} (stk : X.stack = X.env :: X.outer) (frm : X.env.frame = some X.env.locals) (nd : X.N.Nodup) (hn : X.N[i]? = some n) (loc : X.env.kindOf n = some .local) (tk : Takes X Wo)
    (hge : Gl X e) (hme : X.mg e = some (.ref C)) (hex : ∀ (a : Addr) (oe : Obj) (cls : Value) (d : Option Addr) (pn : List (Addr × Obj)), Zc cls d oe → (∃ vs, oe.data = .fields vs) → PE (X.suite a ((a, oe) :: pn)) ex (te a cls d))
    (inner : ∀ (E : XK) (pn : List (Addr × Obj)) (xe : Value → Shared → Prop), Takes (X.tr pn xe) (fun cls d _ H => E cls d H) → PassesOwn (model X.prog X.w) X.A X.env xe → PSs (X.tr pn xe) body (t E)) (hde : (e == ("__debug__" : Str)) = false := by decide) :
    PS X (.Try body [.ExceptHandler (some (.Name e p1)) (some n) [.Return (some ex) p2] p3] [] [] pos) (tTryX X.K X.N.length i C te t) := by
  have base := ps_tryAll (X := X) (k0 := .ExceptHandler (some (.Name e p1)) (some n) [.Return (some ex) p2] p3) (ks := []) (n := n) (i := i) (body := body) (pos := pos) (l := [(.ref C, fun b cls d => tRet (te b cls d))]) (Wo := Wo)
      (tb := fun W D σ H => ∃ Ech : XK, (∀ cls d (σ' : L2.St) H', Ech cls d H' → σ'.length = X.N.length → W cls d σ' H') ∧ t Ech D σ H) stk frm nd hn loc tk (fun W pn xe tk po => ⟨fun pn2 s' σ H' D I z => by
        obtain ⟨Ech, hW, ht⟩ := z
        exact (inner Ech pn xe (fun u s' ⟨a, B, sI, pins, σ, H, cls, d, e, I, nb, up, sky, na, os, ag, w⟩ => takes_len tk u s' ⟨a, B, sI, pins, σ, H, cls, d, e, I, nb, up, sky, na, os, ag, fun hl => hW cls d σ H w hl⟩) po).run pn2 s' σ H' D I ht⟩)
      (.cons ⟨hge, hde, .inl hme⟩ (fun b oe cls d pn hz hf => pss_one (ps_ret (pos := p2) (hex b oe cls d pn hz hf))) .nil)
  refine ⟨fun pins s σ H D I h => base.run pins s σ H D I ?_⟩
  obtain ⟨Ech, hE, ht⟩ := h
  refine ⟨Ech, fun cls d σ' H' z hl => ?_, ht⟩
  obtain ⟨y, e1, e2, e3⟩ := hE cls d σ' H' z hl
  exact ⟨y, e1, fun hy a ha => e2 hy a ha, fun hy => (e3 hy).elim⟩
section
variable {K : PySem.W.Frag} [HasTabs K] {E : XK} {ρ : Rh} {S : SPost} {C : Addr} {te : Addr → Value → Option Addr → TE} {t : XK → TS} {n i : Nat}
theorem sv_tryX (hm : PySem.W.exmOne K (.ref C) (.ref C) = some true) (hi : i < n) (h : ∀ E', SvP K E' (t E') ρ (fun out => match out with
    | .xc C' fs ρ1 => C' = C ∧ ∃ x, (∀ (D H : Hp) (T : Tm) (σ σ1 : L2.St) (a d : Addr) (Q : VK), Sd K D H T σ ρ1 → XAt K D H d fs → σ1[i]? = some (some (.ref a)) → (∀ v D' H', Sd K D' H' ((v, .d x) :: T) σ ρ1 → Q v H') → te a (.ref C) (some d) σ1 H Q) ∧ S (.rt (.d x) ρ1)
    | .nx ρ' => S (.nx ρ') | .rt o ρ' => S (.rt o ρ') | .bk ρ' => S (.bk ρ') | .ct ρ' => S (.ct ρ'))) : SvP K E (tTryX K n i C te t) ρ S := by
  intro D H T σ En s w
  refine ⟨fun cls d H' => ∀ σ' : L2.St, σ'.length = n → ∃ y, PySem.W.exmOne K cls (.ref C) = some y ∧ (y = true → ∀ a, H' a = none → te a cls d (σ'.set i (some (.ref a))) H' En.rt) ∧ (y = false → False), fun cls d σ' H' z hl => z σ' hl, ?_⟩
  refine h _ D H T σ En s ⟨fun ρ' D' H' σ' q s' => w.nx ρ' D' H' σ' q s', fun v o ρ' D' H' σ' q s' => w.rt v o ρ' D' H' σ' q s', fun ρ' D' H' σ' q s' => w.bk ρ' D' H' σ' q s', fun ρ' D' H' σ' q s' => w.ct ρ' D' H' σ' q s', fun C' fs ρ' D' H' σ' d q s' xa σ0 hl => ?_⟩
  obtain ⟨rfl, x, hx, q⟩ := q
  refine ⟨true, hm, fun _ a ha => hx D' H' T σ' _ a d _ s' xa ?_ (fun v D2 H2 z => w.rt v _ ρ' D2 H2 σ' q z), fun z => nomatch z⟩
  rw [List.getElem?_set_self (by omega)]
end
section
variable {P : Program} {w : World} {K : PySem.W.Frag} [HasTabs K] {mg : Str → Option Value} {base : Heap}
/-- .. whose code object stands at c -/
theorem fnG_ofC {x qual : Str} {st : Stmt} {f c : Addr} {fd : FuncData} {N ps : List Str} {k : Nat} {R : Pr} (F : Fun K x qual st f fd) (hcode : fd.code = .ref c) (S : FnScope N ps (defScope st)) (hl : ps.length ≤ N.length) (len : ∀ os Pp, R os Pp → os.length = ps.length)
    (noex : ∀ os Pp, R os Pp → R os (fun r us => (match r with | .ok _ => True | .ex _ _ => False) ∧ Pp r us))
    (hb : ∀ (f : Addr) (A : Around) (outer : List Env) (s : Shared) (H : Hp) (E : XK), A.guards = some [] → Room k (A.deeper (PyProof.Rows.envOfC qual (defScope st) s.heap.objs.size f (.ref c))) →
      ∃ t, PSs (cxOf CX0 P w K mg base N qual (defScope st) f (.ref c) A outer s H E).nox (defBody st) t ∧ ∀ os Pp, R os Pp → SvP K E0 t (os.map some ++ List.replicate (N.length - os.length) none) (retS os Pp)) : FnG P w K mg base (k + 1) f fd ps (spOf K R) :=
  fnG_code F hcode S (fun vs H Q E h => by obtain ⟨D, T, os, Pp, e, _, r, _⟩ := h; exact e.trans (len os Pp r)) fun A outer s H vs Q E hg hr h => by
    obtain ⟨t, ht, hb⟩ := hb f A outer s H E hg hr
    refine ⟨t, ht, ?_⟩
    obtain ⟨D, T, os, Pp, e, s1, r, k1, k2⟩ := h
    exact run_body (K := K) (E := E0) (R := R) (ps := ps) (by rw [e, len os Pp r]; exact hl) ⟨D, T, os, _, e, s1, noex os Pp r, fun v o us D' H' q => k1 v o us D' H' q.2, fun C fs us D' H' d q => q.1.elim⟩ hb
end
section
variable {K : PySem.W.Frag} [HasTabs K] {E : XK} {ρ : Rh} {S : SPost} {tas : TA} {i : Nat}
theorem sv_par3 {j l : Nat} (h : AvP K E tas ρ (fun os ρ1 => ∃ o1 o2 o3, os = [o1, o2, o3] ∧ i < ρ1.length ∧ j < ρ1.length ∧ l < ρ1.length ∧ S (.nx (((ρ1.set i (some o1)).set j (some o2)).set l (some o3)))) (bndS (fun _ _ => True) S)) : SvP K E (tPar3 i j l tas) ρ S := by
  intro D H T σ En s w
  refine h D H T σ _ s (fun vs os ρ1 D1 H1 q1 e1 s1 => ?_) (.ofWd w fun _ _ _ z => z)
  obtain ⟨o1, o2, o3, rfl, h1, h2, h3, q⟩ := q1
  match vs, e1 with
  | [v, u, x], _ =>
    refine ⟨v, u, x, rfl, w.nx _ D1 H1 _ q ?_⟩
    have g := Sd.toSlot (T := (u, o2) :: (x, o3) :: T) s1 i (by rw [s1.len]; exact h1)
    have g2 := Sd.toSlot (T := (x, o3) :: T) g j (by rw [g.len, List.length_set]; exact h2)
    exact g2.toSlot l (by rw [g2.len, List.length_set, List.length_set]; exact h3)
/-- an own thing or another, by a test; what follows is shown once -/
theorem ev_mid {te : TE} {P : EPost} (M : Ow → Rh → Prop) (h : EvP K E te ρ (bnd M P)) (k : ∀ o ρ1, M o ρ1 → P (.ok o) ρ1) : EvP K E te ρ P := by
  refine EvP.mono h fun r ρ1 z => ?_
  cases r with
  | ex C fs => exact z
  | ok o => exact k o ρ1 z
end
end DL

/-! ### Mn. whether a truth value is another one -/
namespace DL
open PySem L2 Evl
def rNotB : R2 := fun x y H Q => ∃ a b : Bool, x = .bl a ∧ y = .bl b ∧ Q (.bl (!decide (a = b))) H
def rIsB : R2 := fun x y H Q => ∃ a b : Bool, x = .bl a ∧ y = .bl b ∧ Q (.bl (decide (a = b))) H
theorem op_notB {X : Cx} : OpR X (compareOp .IsNot) rNotB := by
  intro pins s σ H x y v u Q I rx ry h
  obtain ⟨a, b, rfl, rfl, q⟩ := h
  cases rx
  cases ry
  refine wpAny_isNot_plain rfl (fin_bl I q ?_)
  cases a <;> cases b <;> rfl
theorem op_isB {X : Cx} : OpR X (compareOp .Is) rIsB := by
  intro pins s σ H x y v u Q I rx ry h
  obtain ⟨a, b, rfl, rfl, q⟩ := h
  cases rx
  cases ry
  refine wpAny_is_plain rfl (fin_bl I q ?_)
  cases a <;> cases b <;> rfl
section
variable {K : PySem.W.Frag} [HasTabs K] {E : XK} {ρ : Rh} {P : EPost} {ta tb : TE}
theorem aop_notB {a b : Bool} : AOp K rNotB (.bl a) (.bl b) (.bl (!decide (a = b))) := ⟨rfl, fun H v w Q h1 h2 q => by
  cases h1; cases h2; exact ⟨a, b, rfl, rfl, q⟩⟩
theorem aop_isB {a b : Bool} : AOp K rIsB (.bl a) (.bl b) (.bl (decide (a = b))) := ⟨rfl, fun H v w Q h1 h2 q => by
  cases h1; cases h2; exact ⟨a, b, rfl, rfl, q⟩⟩
theorem ev_notB {b : Bool} (h : EvP K E ta ρ (bnd (fun x ρ1 => ∃ a, x = .d (.bl a) ∧ P (.ok (.d (.bl (!decide (a = b))))) ρ1) P)) : EvP K E (tOp rNotB ta (tC (.bl b))) ρ P := by
  refine ev_op ?_
  refine h.mono fun r ρ1 q => ?_
  cases r with
  | ex C fs => exact q
  | ok x =>
    obtain ⟨a, rfl, q⟩ := q
    exact ev_b ⟨rfl, rfl, _, aop_notB, q⟩
end
end DL

namespace K23
open PySem L2 Evl DL
def topS (i : Nat) : Stmt := PySem.Challenge.pw_logsapart_k23_whole_letters_swallowed_by.main.body.getD i (.Pass ⟨0, 0, 0, 0⟩)
structure Txt (mg : Str → Option Value) : Prop where
  b_isinstance : mg "isinstance" = none
  b_int : mg "int" = none
  b_bool : mg "bool" = none
  b_list : mg "list" = none
  b_tuple : mg "tuple" = none
  b_len : mg "len" = none
  b_all : mg "all" = none
  b_sum : mg "sum" = none
  b_abs : mg "abs" = none
  b_min : mg "min" = none
  b_zip : mg "zip" = none
  b_enumerate : mg "enumerate" = none
  b_range : mg "range" = none
  b_repr : mg "repr" = none
  m_gcd : mg "gcd" = some (.builtin "math.gcd")
  m_lcm : mg "lcm" = some (.builtin "math.lcm")
  c_FEWEST_HANDS : ∃ t, mg "FEWEST_HANDS" = some (.int 2 t)
  c_MOST_HANDS : ∃ t, mg "MOST_HANDS" = some (.int 8 t)
  c_MOST_MARKS : ∃ t, mg "MOST_MARKS" = some (.int 60 t)
  c_LONGEST : ∃ t, mg "LONGEST" = some (.int 10000 t)
  c_MOST_LENGTH : ∃ t, mg "MOST_LENGTH" = some (.int 400 t)
end K23

namespace K23
open PySem L2 Evl DL
local macro_rules | `(tactic| walk_at "dl") => `(tactic| first
  | with_reducible refine bnd_ok ?_ | with_reducible refine bndS_ok ?_ | with_reducible refine onE_ok ?_ | with_reducible refine seq_nx ?_ | with_reducible refine seq_rt ?_ | with_reducible refine seq_bk ?_ | with_reducible refine seq_ct ?_ | with_reducible refine onT_rt ?_ | with_reducible refine onT_bk ?_ | with_reducible refine resS_nx ?_ | with_reducible refine resS_rt ?_
  | refine ev_v rfl ?_ | refine ev_l rfl ?_ | with_reducible refine ev_i ?_ | with_reducible refine ev_n ?_ | with_reducible refine ev_b ?_ | with_reducible refine ev_s ?_
  | with_reducible refine ev_oZ0 ?_ | with_reducible refine ev_oB0 ?_ | with_reducible refine ev_oZ ?_ | with_reducible refine ev_neg ?_ | with_reducible refine ev_neI ?_ | with_reducible refine ev_eqI ?_ | with_reducible refine ev_isN ?_ | with_reducible refine ev_notN ?_ | with_reducible refine ev_chain ?_
  | with_reducible refine ev_andV ?_ | with_reducible refine ev_orV ?_ | with_reducible refine ev_notV ?_ | with_reducible refine ev_if ?_
  | with_reducible refine tv_test ?_ | with_reducible refine tv_B ?_ | with_reducible refine tv_and ?_ | with_reducible refine tv_or ?_ | with_reducible refine tv_not ?_ | with_reducible refine tv_yes ?_
  | with_reducible refine ev_isiInt ?_ | with_reducible refine ev_isiBool ?_ | with_reducible refine ev_isiSeq ?_
  | with_reducible refine av_cons ?_ | with_reducible refine av_nil ?_
  | with_reducible refine ev_pure ?_ | with_reducible refine ev_gcd ?_ | with_reducible refine ev_abs ?_ | with_reducible refine ev_int1 ?_
  | (with_reducible refine DL.ev_len ?_; refine av_cons ?_; refine ev_v rfl ?_; refine bnd_ok ?_; refine av_nil ?_; refine ⟨_, _, _, rfl, by first | rfl | assumption, ?_⟩)
  | with_reducible refine ev_fldD ?_ | with_reducible refine ev_ixS ?_
  | with_reducible refine sv_seq ?_ | with_reducible refine sv_next ?_ | with_reducible refine sv_brk ?_ | with_reducible refine sv_cont ?_ | with_reducible refine sv_ret ?_ | with_reducible refine sv_retN ?_ | with_reducible refine sv_if ?_ | with_reducible refine sv_drop ?_
  | with_reducible refine sv_asg ?_
  | refine ⟨_, rfl, fun hb => ?_, fun hb => ?_⟩
  | refine ⟨_, _, rfl, rfl, fun hb => ?_, fun hb => ?_⟩
  | refine ⟨_, _, rfl, rfl, ?_⟩
  | refine ⟨_, _, _, _, rfl, rfl, rfl, ?_⟩
  | refine ⟨_, rfl, ?_⟩ | refine ⟨_, _, rfl, ?_⟩
  | refine And.intro rfl ?_ | refine And.intro (Nat.le_of_ble_eq_true rfl) ?_ | refine And.intro (by assumption) ?_)
local macro_rules | `(tactic| walk_at "dls") => `(tactic| repeat (walk_at "dl"; all_goals try (first | (exact (nomatch ‹false = true›)) | (exact (nomatch ‹true = false›)))))
local macro_rules | `(tactic| walk_at "dla") => `(tactic| repeat' (first | (exact (nomatch ‹false = true›)) | (exact (nomatch ‹true = false›)) | walk_at "dl"))
local macro_rules | `(tactic| walk_at "dlr") => `(tactic| (refine ret_rt (pms_d _ _ (Nat.le_of_ble_eq_true rfl)) ?_))
local macro_rules | `(tactic| walk_at "dlt") => `(tactic| first | walk_at "dl" | with_reducible refine ev_tup2 ?_ | with_reducible refine ev_tup3 ?_)
local macro_rules | `(tactic| walk_at "dlts") => `(tactic| repeat walk_at "dlt")
section
variable {P : Program} {w : World} {K : PySem.W.Frag} [HasTabs K] {mg : Str → Option Value} {base : Heap} {CH CD : Addr}
abbrev s_is_number : Stmt := topS 2
abbrev N_is_number : List Str := ["value"]
theorem sc_is_number : FnScope N_is_number ["value"] (defScope s_is_number) := ⟨rfl, rfl, rfl, by decide +kernel, rfl, by decide +kernel, by decide +kernel⟩
def isNum : Dat → Bool
  | .int i => decide (0 ≤ i)
  | _ => false
def R_is_number : List Dat → Dat → Prop := fun ds d => ∃ x : Dat, ds = [x] ∧ x.tyn.isSome = true ∧ d = .bl (isNum x)
theorem ok_is_number (T : Txt mg) (F : Dfn K mg "is_number" "is_number" s_is_number ["value"]) : Ok P w K mg base 1 "is_number" ["value"] (pureR R_is_number) := by
  refine F.ok sc_is_number (by decide) (fun os Pp h => ?_) pureR_noex (fun f cdv A outer s H E hr => ⟨_, (pss_one (ps_ret (pe_and (pe_callB (r := rIsi K) call_isi (by rfl) T.b_isinstance (by decide +kernel) (pa_cons (pv 0) (pa_cons (pe_bltn (v := .ty "int") (by rfl) T.b_int (by decide +kernel) rfl) pa_nil))) (pe_and (pe_not (pe_callB (r := rIsi K) call_isi (by rfl) T.b_isinstance (by decide +kernel) (pa_cons (pv 0) (pa_cons (pe_bltn (v := .ty "bool") (by rfl) T.b_bool (by decide +kernel) rfl) pa_nil)))) (pe_one (pe_cmpR op_ge (pv 0) pe_int (nomark _))))))), fun os Pp h => ?_⟩)
  · obtain ⟨ds, d, rfl, ⟨x, rfl, hx, rfl⟩, q⟩ := h
    rfl
  · obtain ⟨ds, d, rfl, ⟨x, rfl, hx, rfl⟩, q⟩ := h
    show SvP K E0 _ [some (.d x)] _
    cases x with
    | int i => walk_at "dls"; walk_at "dlr"; exact q
    | bl b => walk_at "dls"; walk_at "dlr"; exact q
    | non => walk_at "dls"; walk_at "dlr"; exact q
    | str z => walk_at "dls"; walk_at "dlr"; exact q
    | lst z => walk_at "dls"; walk_at "dlr"; exact q
    | tup z => walk_at "dls"; walk_at "dlr"; exact q
    | obj _ _ => cases hx
    | ty _ => cases hx
    | scr _ => cases hx

end
end K23

namespace K23
open PySem L2 Evl DL
local macro_rules | `(tactic| walk_at "dl") => `(tactic| first
  | with_reducible refine bnd_ok ?_ | with_reducible refine bndS_ok ?_ | with_reducible refine onE_ok ?_ | with_reducible refine seq_nx ?_ | with_reducible refine seq_rt ?_ | with_reducible refine seq_bk ?_ | with_reducible refine seq_ct ?_ | with_reducible refine onT_rt ?_ | with_reducible refine onT_bk ?_ | with_reducible refine resS_nx ?_ | with_reducible refine resS_rt ?_
  | refine ev_v rfl ?_ | refine ev_l rfl ?_ | with_reducible refine ev_i ?_ | with_reducible refine ev_n ?_ | with_reducible refine ev_b ?_ | with_reducible refine ev_s ?_
  | with_reducible refine ev_oZ0 ?_ | with_reducible refine ev_oB0 ?_ | with_reducible refine ev_oZ ?_ | with_reducible refine ev_neg ?_ | with_reducible refine ev_neI ?_ | with_reducible refine ev_eqI ?_ | with_reducible refine ev_isN ?_ | with_reducible refine ev_notN ?_ | with_reducible refine ev_chain ?_
  | with_reducible refine ev_andV ?_ | with_reducible refine ev_orV ?_ | with_reducible refine ev_notV ?_ | with_reducible refine ev_if ?_
  | with_reducible refine tv_test ?_ | with_reducible refine tv_B ?_ | with_reducible refine tv_and ?_ | with_reducible refine tv_or ?_ | with_reducible refine tv_not ?_ | with_reducible refine tv_yes ?_
  | with_reducible refine ev_isiInt ?_ | with_reducible refine ev_isiBool ?_ | with_reducible refine ev_isiSeq ?_
  | with_reducible refine av_cons ?_ | with_reducible refine av_nil ?_
  | with_reducible refine ev_pure ?_ | with_reducible refine ev_gcd ?_ | with_reducible refine ev_abs ?_ | with_reducible refine ev_int1 ?_
  | (with_reducible refine DL.ev_len ?_; refine av_cons ?_; refine ev_v rfl ?_; refine bnd_ok ?_; refine av_nil ?_; refine ⟨_, _, _, rfl, by first | rfl | assumption, ?_⟩)
  | with_reducible refine ev_fldD ?_ | with_reducible refine ev_ixS ?_
  | with_reducible refine sv_seq ?_ | with_reducible refine sv_next ?_ | with_reducible refine sv_brk ?_ | with_reducible refine sv_cont ?_ | with_reducible refine sv_ret ?_ | with_reducible refine sv_retN ?_ | with_reducible refine sv_if ?_ | with_reducible refine sv_drop ?_
  | with_reducible refine sv_asg ?_
  | refine ⟨_, rfl, fun hb => ?_, fun hb => ?_⟩
  | refine ⟨_, _, rfl, rfl, fun hb => ?_, fun hb => ?_⟩
  | refine ⟨_, _, rfl, rfl, ?_⟩
  | refine ⟨_, _, _, _, rfl, rfl, rfl, ?_⟩
  | refine ⟨_, rfl, ?_⟩ | refine ⟨_, _, rfl, ?_⟩
  | refine And.intro rfl ?_ | refine And.intro (Nat.le_of_ble_eq_true rfl) ?_ | refine And.intro (by assumption) ?_)
local macro_rules | `(tactic| walk_at "dls") => `(tactic| repeat (walk_at "dl"; all_goals try (first | (exact (nomatch ‹false = true›)) | (exact (nomatch ‹true = false›)))))
local macro_rules | `(tactic| walk_at "dla") => `(tactic| repeat' (first | (exact (nomatch ‹false = true›)) | (exact (nomatch ‹true = false›)) | walk_at "dl"))
local macro_rules | `(tactic| walk_at "dlr") => `(tactic| (refine ret_rt (pms_d _ _ (Nat.le_of_ble_eq_true rfl)) ?_))
local macro_rules | `(tactic| walk_at "dlt") => `(tactic| first | walk_at "dl" | with_reducible refine ev_tup2 ?_ | with_reducible refine ev_tup3 ?_)
local macro_rules | `(tactic| walk_at "dlts") => `(tactic| repeat walk_at "dlt")
section
variable {P : Program} {w : World} {K : PySem.W.Frag} [HasTabs K] {mg : Str → Option Value} {base : Heap} {CH CD : Addr}
abbrev s_is_below : Stmt := topS 3
abbrev N_is_below : List Str := ["value", "bound"]
theorem sc_is_below : FnScope N_is_below ["value", "bound"] (defScope s_is_below) := ⟨rfl, rfl, rfl, by decide +kernel, rfl, by decide +kernel, by decide +kernel⟩
def isBelow (x : Dat) (b : Int) : Bool := match x with
  | .int i => decide (0 ≤ i) && decide (i < b)
  | _ => false
def R_is_below : List Dat → Dat → Prop := fun ds d => ∃ (x : Dat) (b : Int), ds = [x, .int b] ∧ x.tyn.isSome = true ∧ d = .bl (isBelow x b)
abbrev Rp_is_number : Pr := pureR R_is_number
theorem ok_is_below (T : Txt mg) (O_is_number : Ok P w K mg base 1 "is_number" ["value"] (pureR R_is_number)) (F : Dfn K mg "is_below" "is_below" s_is_below ["value", "bound"]) : Ok P w K mg base 2 "is_below" ["value", "bound"] (pureR R_is_below) := by
  refine F.ok sc_is_below (by decide) (fun os Pp h => ?_) pureR_noex (fun f cdv A outer s H E hr => ⟨_, (pss_one (ps_ret (pe_and (pe_fn O_is_number ⟨rfl, rfl, rfl, rfl, rfl⟩ (hr.mono (by decide)) rfl (pa_cons (pv 0) pa_nil)) (pe_one (pe_cmpR op_lt (pv 0) (pv 1) (nomark _)))))), fun os Pp h => ?_⟩)
  · obtain ⟨ds, d, rfl, ⟨x, b, rfl, hx, rfl⟩, q⟩ := h
    rfl
  · obtain ⟨ds, d, rfl, ⟨x, b, rfl, hx, rfl⟩, q⟩ := h
    show SvP K E0 _ [some (.d x), some (.d (.int b))] _
    walk_at "dls"
    refine ⟨[x], _, rfl, ⟨x, rfl, hx, rfl⟩, ?_⟩
    walk_at "dl"
    refine ⟨_, rfl, fun hb => ?_, fun hb => ?_⟩
    · cases x with
      | int i =>
        walk_at "dls"; walk_at "dlr"
        rw [show decide (i < b) = isBelow (.int i) b by show decide (i < b) = (decide (0 ≤ i) && decide (i < b)); rw [show decide (0 ≤ i) = true from hb, Bool.true_and]]
        exact q
      | _ => exact (nomatch hb)
    · walk_at "dls"; walk_at "dlr"
      have e : isBelow x b = false := by
        cases x with
        | int i => show (decide (0 ≤ i) && decide (i < b)) = false; rw [show decide (0 ≤ i) = false from hb, Bool.false_and]
        | _ => rfl
      rw [e] at q
      exact q

end
end K23

namespace K23
open PySem L2 Evl DL
local macro_rules | `(tactic| walk_at "dl") => `(tactic| first
  | with_reducible refine bnd_ok ?_ | with_reducible refine bndS_ok ?_ | with_reducible refine onE_ok ?_ | with_reducible refine seq_nx ?_ | with_reducible refine seq_rt ?_ | with_reducible refine seq_bk ?_ | with_reducible refine seq_ct ?_ | with_reducible refine onT_rt ?_ | with_reducible refine onT_bk ?_ | with_reducible refine resS_nx ?_ | with_reducible refine resS_rt ?_
  | refine ev_v rfl ?_ | refine ev_l rfl ?_ | with_reducible refine ev_i ?_ | with_reducible refine ev_n ?_ | with_reducible refine ev_b ?_ | with_reducible refine ev_s ?_
  | with_reducible refine ev_oZ0 ?_ | with_reducible refine ev_oB0 ?_ | with_reducible refine ev_oZ ?_ | with_reducible refine ev_neg ?_ | with_reducible refine ev_neI ?_ | with_reducible refine ev_eqI ?_ | with_reducible refine ev_isN ?_ | with_reducible refine ev_notN ?_ | with_reducible refine ev_chain ?_
  | with_reducible refine ev_andV ?_ | with_reducible refine ev_orV ?_ | with_reducible refine ev_notV ?_ | with_reducible refine ev_if ?_
  | with_reducible refine tv_test ?_ | with_reducible refine tv_B ?_ | with_reducible refine tv_and ?_ | with_reducible refine tv_or ?_ | with_reducible refine tv_not ?_ | with_reducible refine tv_yes ?_
  | with_reducible refine ev_isiInt ?_ | with_reducible refine ev_isiBool ?_ | with_reducible refine ev_isiSeq ?_
  | with_reducible refine av_cons ?_ | with_reducible refine av_nil ?_
  | with_reducible refine ev_pure ?_ | with_reducible refine ev_gcd ?_ | with_reducible refine ev_abs ?_ | with_reducible refine ev_int1 ?_
  | (with_reducible refine DL.ev_len ?_; refine av_cons ?_; refine ev_v rfl ?_; refine bnd_ok ?_; refine av_nil ?_; refine ⟨_, _, _, rfl, by first | rfl | assumption, ?_⟩)
  | with_reducible refine ev_fldD ?_ | with_reducible refine ev_ixS ?_
  | with_reducible refine sv_seq ?_ | with_reducible refine sv_next ?_ | with_reducible refine sv_brk ?_ | with_reducible refine sv_cont ?_ | with_reducible refine sv_ret ?_ | with_reducible refine sv_retN ?_ | with_reducible refine sv_if ?_ | with_reducible refine sv_drop ?_
  | with_reducible refine sv_asg ?_
  | refine ⟨_, rfl, fun hb => ?_, fun hb => ?_⟩
  | refine ⟨_, _, rfl, rfl, fun hb => ?_, fun hb => ?_⟩
  | refine ⟨_, _, rfl, rfl, ?_⟩
  | refine ⟨_, _, _, _, rfl, rfl, rfl, ?_⟩
  | refine ⟨_, rfl, ?_⟩ | refine ⟨_, _, rfl, ?_⟩
  | refine And.intro rfl ?_ | refine And.intro (Nat.le_of_ble_eq_true rfl) ?_ | refine And.intro (by assumption) ?_)
local macro_rules | `(tactic| walk_at "dls") => `(tactic| repeat (walk_at "dl"; all_goals try (first | (exact (nomatch ‹false = true›)) | (exact (nomatch ‹true = false›)))))
local macro_rules | `(tactic| walk_at "dla") => `(tactic| repeat' (first | (exact (nomatch ‹false = true›)) | (exact (nomatch ‹true = false›)) | walk_at "dl"))
local macro_rules | `(tactic| walk_at "dlr") => `(tactic| (refine ret_rt (pms_d _ _ (Nat.le_of_ble_eq_true rfl)) ?_))
local macro_rules | `(tactic| walk_at "dlt") => `(tactic| first | walk_at "dl" | with_reducible refine ev_tup2 ?_ | with_reducible refine ev_tup3 ?_)
local macro_rules | `(tactic| walk_at "dlts") => `(tactic| repeat walk_at "dlt")
section
variable {P : Program} {w : World} {K : PySem.W.Frag} [HasTabs K] {mg : Str → Option Value} {base : Heap} {CH CD : Addr}
abbrev s_is_sequence : Stmt := topS 4
abbrev N_is_sequence : List Str := ["value"]
theorem sc_is_sequence : FnScope N_is_sequence ["value"] (defScope s_is_sequence) := ⟨rfl, rfl, rfl, by decide +kernel, rfl, by decide +kernel, by decide +kernel⟩
def R_is_sequence : List Dat → Dat → Prop := fun ds d => ∃ x : Dat, ds = [x] ∧ x.tyn.isSome = true ∧ d = .bl x.isSeq
theorem ok_is_sequence (T : Txt mg) (F : Dfn K mg "is_sequence" "is_sequence" s_is_sequence ["value"]) : Ok P w K mg base 1 "is_sequence" ["value"] (pureR R_is_sequence) := by
  refine F.ok sc_is_sequence (by decide) (fun os Pp h => ?_) pureR_noex (fun f cdv A outer s H E hr => ⟨_, (pss_one (ps_ret (pe_callB (r := rIsiT K) call_isiT (by rfl) T.b_isinstance (by decide +kernel) (pa_cons (pv 0) (pa_cons (pe_tup (pa_cons (pe_bltn (v := .ty "list") (by rfl) T.b_list (by decide +kernel) rfl) (pa_cons (pe_bltn (v := .ty "tuple") (by rfl) T.b_tuple (by decide +kernel) rfl) pa_nil))) pa_nil))))), fun os Pp h => ?_⟩)
  · obtain ⟨ds, d, rfl, ⟨x, rfl, hx, rfl⟩, q⟩ := h
    rfl
  · obtain ⟨ds, d, rfl, ⟨x, rfl, hx, rfl⟩, q⟩ := h
    show SvP K E0 _ [some (.d x)] _
    walk_at "dls"; walk_at "dlr"; exact q

end
end K23

namespace K23
open PySem L2 Evl DL
local macro_rules | `(tactic| walk_at "dl") => `(tactic| first
  | with_reducible refine bnd_ok ?_ | with_reducible refine bndS_ok ?_ | with_reducible refine onE_ok ?_ | with_reducible refine seq_nx ?_ | with_reducible refine seq_rt ?_ | with_reducible refine seq_bk ?_ | with_reducible refine seq_ct ?_ | with_reducible refine onT_rt ?_ | with_reducible refine onT_bk ?_ | with_reducible refine resS_nx ?_ | with_reducible refine resS_rt ?_
  | refine ev_v rfl ?_ | refine ev_l rfl ?_ | with_reducible refine ev_i ?_ | with_reducible refine ev_n ?_ | with_reducible refine ev_b ?_ | with_reducible refine ev_s ?_
  | with_reducible refine ev_oZ0 ?_ | with_reducible refine ev_oB0 ?_ | with_reducible refine ev_oZ ?_ | with_reducible refine ev_neg ?_ | with_reducible refine ev_neI ?_ | with_reducible refine ev_eqI ?_ | with_reducible refine ev_isN ?_ | with_reducible refine ev_notN ?_ | with_reducible refine ev_chain ?_
  | with_reducible refine ev_andV ?_ | with_reducible refine ev_orV ?_ | with_reducible refine ev_notV ?_ | with_reducible refine ev_if ?_
  | with_reducible refine tv_test ?_ | with_reducible refine tv_B ?_ | with_reducible refine tv_and ?_ | with_reducible refine tv_or ?_ | with_reducible refine tv_not ?_ | with_reducible refine tv_yes ?_
  | with_reducible refine ev_isiInt ?_ | with_reducible refine ev_isiBool ?_ | with_reducible refine ev_isiSeq ?_
  | with_reducible refine av_cons ?_ | with_reducible refine av_nil ?_
  | with_reducible refine ev_pure ?_ | with_reducible refine ev_gcd ?_ | with_reducible refine ev_abs ?_ | with_reducible refine ev_int1 ?_
  | (with_reducible refine DL.ev_len ?_; refine av_cons ?_; refine ev_v rfl ?_; refine bnd_ok ?_; refine av_nil ?_; refine ⟨_, _, _, rfl, by first | rfl | assumption, ?_⟩)
  | with_reducible refine ev_fldD ?_ | with_reducible refine ev_ixS ?_
  | with_reducible refine sv_seq ?_ | with_reducible refine sv_next ?_ | with_reducible refine sv_brk ?_ | with_reducible refine sv_cont ?_ | with_reducible refine sv_ret ?_ | with_reducible refine sv_retN ?_ | with_reducible refine sv_if ?_ | with_reducible refine sv_drop ?_
  | with_reducible refine sv_asg ?_
  | refine ⟨_, rfl, fun hb => ?_, fun hb => ?_⟩
  | refine ⟨_, _, rfl, rfl, fun hb => ?_, fun hb => ?_⟩
  | refine ⟨_, _, rfl, rfl, ?_⟩
  | refine ⟨_, _, _, _, rfl, rfl, rfl, ?_⟩
  | refine ⟨_, rfl, ?_⟩ | refine ⟨_, _, rfl, ?_⟩
  | refine And.intro rfl ?_ | refine And.intro (Nat.le_of_ble_eq_true rfl) ?_ | refine And.intro (by assumption) ?_)
local macro_rules | `(tactic| walk_at "dls") => `(tactic| repeat (walk_at "dl"; all_goals try (first | (exact (nomatch ‹false = true›)) | (exact (nomatch ‹true = false›)))))
local macro_rules | `(tactic| walk_at "dla") => `(tactic| repeat' (first | (exact (nomatch ‹false = true›)) | (exact (nomatch ‹true = false›)) | walk_at "dl"))
local macro_rules | `(tactic| walk_at "dlr") => `(tactic| (refine ret_rt (pms_d _ _ (Nat.le_of_ble_eq_true rfl)) ?_))
local macro_rules | `(tactic| walk_at "dlt") => `(tactic| first | walk_at "dl" | with_reducible refine ev_tup2 ?_ | with_reducible refine ev_tup3 ?_)
local macro_rules | `(tactic| walk_at "dlts") => `(tactic| repeat walk_at "dlt")
section
variable {P : Program} {w : World} {K : PySem.W.Frag} [HasTabs K] {mg : Str → Option Value} {base : Heap} {CH CD : Addr}
abbrev s_is_marks_number : Stmt := topS 21
abbrev N_is_marks_number : List Str := ["value"]
theorem sc_is_marks_number : FnScope N_is_marks_number ["value"] (defScope s_is_marks_number) := ⟨rfl, rfl, rfl, by decide +kernel, rfl, by decide +kernel, by decide +kernel⟩
def isMarks (x : Dat) : Bool := match x with
  | .int i => decide (0 < i) && decide (i < 61)
  | _ => false
def R_is_marks_number : List Dat → Dat → Prop := fun ds d => ∃ x : Dat, ds = [x] ∧ x.tyn.isSome = true ∧ d = .bl (isMarks x)
theorem ok_is_marks_number (T : Txt mg) (O_is_below : Ok P w K mg base 2 "is_below" ["value", "bound"] (pureR R_is_below)) (F : Dfn K mg "is_marks_number" "is_marks_number" s_is_marks_number ["value"]) : Ok P w K mg base 3 "is_marks_number" ["value"] (pureR R_is_marks_number) := by
  refine F.ok sc_is_marks_number (by decide) (fun os Pp h => ?_) pureR_noex (fun f cdv A outer s H E hr => ⟨_, (pss_one (ps_ret (pe_and (pe_fn O_is_below ⟨rfl, rfl, rfl, rfl, rfl⟩ (hr.mono (by decide)) rfl (pa_cons (pv 0) (pa_cons (pe_op op_add (pe_const T.c_MOST_MARKS rfl) pe_int) pa_nil))) (pe_one (pe_cmpR op_gt (pv 0) pe_int (nomark _)))))), fun os Pp h => ?_⟩)
  · obtain ⟨ds, d, rfl, ⟨x, rfl, hx, rfl⟩, q⟩ := h
    rfl
  · obtain ⟨ds, d, rfl, ⟨x, rfl, hx, rfl⟩, q⟩ := h
    show SvP K E0 _ [some (.d x)] _
    walk_at "dls"
    refine ⟨[x, .int 61], _, rfl, ⟨x, 61, rfl, hx, rfl⟩, ?_⟩
    walk_at "dl"
    refine ⟨_, rfl, fun hb => ?_, fun hb => ?_⟩
    · cases x with
      | int i =>
        walk_at "dls"; walk_at "dlr"
        rw [show decide (i > 0) = isMarks (.int i) by
          show decide (0 < i) = (decide (0 < i) && decide (i < 61))
          have : (decide (0 ≤ i) && decide (i < 61)) = true := hb
          simp at this
          rw [show decide (i < 61) = true by simp [this.2], Bool.and_true]]
        exact q
      | _ => exact absurd (show false = true from hb) (by decide)
    · walk_at "dls"; walk_at "dlr"
      have e : isMarks x = false := by
        cases x with
        | int i =>
          have : (decide (0 ≤ i) && decide (i < 61)) = false := hb
          show (decide (0 < i) && decide (i < 61)) = false
          simp at this ⊢
          omega
        | _ => rfl
      rw [e] at q
      exact q

end
end K23

namespace K23
open PySem L2 Evl DL
local macro_rules | `(tactic| walk_at "dl") => `(tactic| first
  | with_reducible refine bnd_ok ?_ | with_reducible refine bndS_ok ?_ | with_reducible refine onE_ok ?_ | with_reducible refine seq_nx ?_ | with_reducible refine seq_rt ?_ | with_reducible refine seq_bk ?_ | with_reducible refine seq_ct ?_ | with_reducible refine onT_rt ?_ | with_reducible refine onT_bk ?_ | with_reducible refine resS_nx ?_ | with_reducible refine resS_rt ?_
  | refine ev_v rfl ?_ | refine ev_l rfl ?_ | with_reducible refine ev_i ?_ | with_reducible refine ev_n ?_ | with_reducible refine ev_b ?_ | with_reducible refine ev_s ?_
  | with_reducible refine ev_oZ0 ?_ | with_reducible refine ev_oB0 ?_ | with_reducible refine ev_oZ ?_ | with_reducible refine ev_neg ?_ | with_reducible refine ev_neI ?_ | with_reducible refine ev_eqI ?_ | with_reducible refine ev_isN ?_ | with_reducible refine ev_notN ?_ | with_reducible refine ev_chain ?_
  | with_reducible refine ev_andV ?_ | with_reducible refine ev_orV ?_ | with_reducible refine ev_notV ?_ | with_reducible refine ev_if ?_
  | with_reducible refine tv_test ?_ | with_reducible refine tv_B ?_ | with_reducible refine tv_and ?_ | with_reducible refine tv_or ?_ | with_reducible refine tv_not ?_ | with_reducible refine tv_yes ?_
  | with_reducible refine ev_isiInt ?_ | with_reducible refine ev_isiBool ?_ | with_reducible refine ev_isiSeq ?_
  | with_reducible refine av_cons ?_ | with_reducible refine av_nil ?_
  | with_reducible refine ev_pure ?_ | with_reducible refine ev_gcd ?_ | with_reducible refine ev_abs ?_ | with_reducible refine ev_int1 ?_
  | (with_reducible refine DL.ev_len ?_; refine av_cons ?_; refine ev_v rfl ?_; refine bnd_ok ?_; refine av_nil ?_; refine ⟨_, _, _, rfl, by first | rfl | assumption, ?_⟩)
  | with_reducible refine ev_fldD ?_ | with_reducible refine ev_ixS ?_
  | with_reducible refine sv_seq ?_ | with_reducible refine sv_next ?_ | with_reducible refine sv_brk ?_ | with_reducible refine sv_cont ?_ | with_reducible refine sv_ret ?_ | with_reducible refine sv_retN ?_ | with_reducible refine sv_if ?_ | with_reducible refine sv_drop ?_
  | with_reducible refine sv_asg ?_
  | refine ⟨_, rfl, fun hb => ?_, fun hb => ?_⟩
  | refine ⟨_, _, rfl, rfl, fun hb => ?_, fun hb => ?_⟩
  | refine ⟨_, _, rfl, rfl, ?_⟩
  | refine ⟨_, _, _, _, rfl, rfl, rfl, ?_⟩
  | refine ⟨_, rfl, ?_⟩ | refine ⟨_, _, rfl, ?_⟩
  | refine And.intro rfl ?_ | refine And.intro (Nat.le_of_ble_eq_true rfl) ?_ | refine And.intro (by assumption) ?_)
local macro_rules | `(tactic| walk_at "dls") => `(tactic| repeat (walk_at "dl"; all_goals try (first | (exact (nomatch ‹false = true›)) | (exact (nomatch ‹true = false›)))))
local macro_rules | `(tactic| walk_at "dla") => `(tactic| repeat' (first | (exact (nomatch ‹false = true›)) | (exact (nomatch ‹true = false›)) | walk_at "dl"))
local macro_rules | `(tactic| walk_at "dlr") => `(tactic| (refine ret_rt (pms_d _ _ (Nat.le_of_ble_eq_true rfl)) ?_))
local macro_rules | `(tactic| walk_at "dlt") => `(tactic| first | walk_at "dl" | with_reducible refine ev_tup2 ?_ | with_reducible refine ev_tup3 ?_)
local macro_rules | `(tactic| walk_at "dlts") => `(tactic| repeat walk_at "dlt")
section
variable {P : Program} {w : World} {K : PySem.W.Frag} [HasTabs K] {mg : Str → Option Value} {base : Heap} {CH CD : Addr}
abbrev s_wrong_marks : Stmt := topS 22
abbrev N_wrong_marks : List Str := ["value", "fewest", "most", "at", "marks"]
theorem sc_wrong_marks : FnScope N_wrong_marks ["value", "fewest", "most"] (defScope s_wrong_marks) := ⟨rfl, rfl, rfl, by decide +kernel, rfl, by decide +kernel, by decide +kernel⟩
def Good (ms : List Int) : Prop := 2 ≤ ms.length ∧ ms.length ≤ 8 ∧ ∀ m ∈ ms, 1 ≤ m ∧ m ≤ 60
def R_wrong_marks : List Dat → Dat → Prop := fun ds d => ∃ (y : Dat) (t : Bool) (ms : List Int), ds = [y, .int 2, .int 8] ∧ y.tyn.isSome = true ∧ y.seq = some (t, ms.map Dat.int) ∧ Good ms ∧ d = .non
theorem seq_isSeq {y : Dat} {t : Bool} {ds : List Dat} (h : y.seq = some (t, ds)) : y.isSeq = true := by
  cases y <;> first | rfl | (exact absurd h (by intro z; cases z))
theorem ok_wrong_marks (T : Txt mg) (O_is_sequence : Ok P w K mg base 1 "is_sequence" ["value"] (pureR R_is_sequence)) (O_is_marks_number : Ok P w K mg base 3 "is_marks_number" ["value"] (pureR R_is_marks_number)) (F : DfnT K mg "wrong_marks" "wrong_marks" s_wrong_marks ["value", "fewest", "most"] (.int 2) (.int 8)) : Ok P w K mg base 4 "wrong_marks" ["value", "fewest", "most"] (pureR R_wrong_marks) ∧ OkT P w K mg base 4 "wrong_marks" ["value", "fewest", "most"] (pureR R_wrong_marks) (.int 2) (.int 8) := by
  refine F.ok sc_wrong_marks (by decide) (fun os Pp h => ?_) pureR_noex (fun f cdv A outer s H E hr => ⟨_, (pss_cons (ps_if (PW.pt (pw_or (pt_not (pt_val (pe_fn O_is_sequence ⟨rfl, rfl, rfl, rfl, rfl⟩ (hr.mono (by decide)) rfl (pa_cons (pv 0) pa_nil)))) (pw_or (pt_cmpR op_lt (pe_callB (r := rLenQ K) call_len_seq (by rfl) T.b_len (by decide +kernel) (pa_cons (pv 0) pa_nil)) (pv 1) (nomark _)) (pw_or1 (pt_cmpR op_gt (pe_callB (r := rLenQ K) call_len_seq (by rfl) T.b_len (by decide +kernel) (pa_cons (pv 0) pa_nil)) (pv 2) (nomark _)))))) (pss_one (ps_ret (pe_un un_neg pe_int))) pss_nil) (pss_cons (ps_for PassesOwn.never rfl (pi_enumK (K := K) rfl (by rfl) T.b_enumerate (pa_cons (pv 0) pa_nil)) (pg_tup rfl (pgs_cons (pg_name (i := 3) sc_wrong_marks.nd rfl (.inl rfl)) (pgs_cons (pg_name (i := 4) sc_wrong_marks.nd rfl (.inl rfl)) pgs_nil))) (pss_one (ps_if (pt_not (pt_val (pe_fn O_is_marks_number ⟨rfl, rfl, rfl, rfl, rfl⟩ (hr.mono (by decide)) rfl (pa_cons (pv 4) pa_nil)))) (pss_one (ps_ret (pv 3))) pss_nil))) (pss_one (ps_ret pe_non)))), fun os Pp h => ?_⟩)
  · obtain ⟨ds, d, rfl, ⟨y, t, ms, rfl, hx, hy, hg, rfl⟩, q⟩ := h
    rfl
  · obtain ⟨ds, d, rfl, ⟨y, t, ms, rfl, hx, hy, ⟨g1, g2, g3⟩, rfl⟩, q⟩ := h
    show SvP K E0 _ [some (.d y), some (.d (.int 2)), some (.d (.int 8)), none, none] _
    walk_at "dls"
    refine ⟨[y], _, rfl, ⟨y, rfl, hx, rfl⟩, ?_⟩
    walk_at "dls"
    · rename_i hb _
      rw [seq_isSeq hy] at hb
      exact nomatch hb
    · walk_at "dls"
      · rename_i hb _
        rw [List.length_map] at hb
        simp at hb
        omega
      · walk_at "dls"
        · rename_i hb
          rw [List.length_map] at hb
          simp at hb
          omega
        · walk_at "dls"
          refine sv_for (ws := [3] ++ ([4] ++ [])) ?_
          refine iv_enum ?_
          walk_at "dls"
          refine ⟨_, _, _, rfl, hy, ?_⟩
          refine loop_inv (ws := [3] ++ ([4] ++ [])) (fun i ρ' => ∃ u v, ρ' = [some (.d y), some (.d (.int 2)), some (.d (.int 8)), u, v]) ⟨_, _, rfl⟩ (fun i d ρ' hi he => ?_) (fun ρ' he => ?_)
          · obtain ⟨u, v, rfl⟩ := he
            have hd : ∃ m ∈ ms, d = .tup [.int (i : Int), .int m] := by
              cases hm : (ms.map Dat.int)[i]? with
              | none =>
                have : (enumD (ms.map Dat.int))[i]? = none := by
                  rw [List.getElem?_eq_none_iff] at hm ⊢
                  rw [enumD_len]
                  exact hm
                rw [this] at hi
                cases hi
              | some z =>
                have := enumD_get hm
                rw [this] at hi
                rw [List.getElem?_map] at hm
                cases hm2 : ms[i]? with
                | none => rw [hm2] at hm; cases hm
                | some m =>
                  rw [hm2] at hm
                  cases hm
                  exact ⟨m, List.mem_of_getElem? hm2, (Option.some.inj hi).symm⟩
            obtain ⟨m, hm, rfl⟩ := hd
            refine gv_tup rfl (gs_cons (gv_name (Nat.le_of_ble_eq_true rfl) (gs_cons (gv_name (Nat.le_of_ble_eq_true rfl) (gs_nil ?_)))))
            walk_at "dls"
            refine ⟨[.int m], _, rfl, ⟨_, rfl, rfl, rfl⟩, ?_⟩
            have e : isMarks (.int m) = true := by
              have := g3 m hm
              show (decide (0 < m) && decide (m < 61)) = true
              simp
              omega
            rw [e]
            walk_at "dls"
            exact onT_nx (Wk.refl _) ⟨_, _, rfl⟩
          · obtain ⟨u, v, rfl⟩ := he
            walk_at "dls"; walk_at "dlr"
            exact q

end
end K23

namespace K23
open PySem L2 Evl DL
local macro_rules | `(tactic| walk_at "dl") => `(tactic| first
  | with_reducible refine bnd_ok ?_ | with_reducible refine bndS_ok ?_ | with_reducible refine onE_ok ?_ | with_reducible refine seq_nx ?_ | with_reducible refine seq_rt ?_ | with_reducible refine seq_bk ?_ | with_reducible refine seq_ct ?_ | with_reducible refine onT_rt ?_ | with_reducible refine onT_bk ?_ | with_reducible refine resS_nx ?_ | with_reducible refine resS_rt ?_
  | refine ev_v rfl ?_ | refine ev_l rfl ?_ | with_reducible refine ev_i ?_ | with_reducible refine ev_n ?_ | with_reducible refine ev_b ?_ | with_reducible refine ev_s ?_
  | with_reducible refine ev_oZ0 ?_ | with_reducible refine ev_oB0 ?_ | with_reducible refine ev_oZ ?_ | with_reducible refine ev_neg ?_ | with_reducible refine ev_neI ?_ | with_reducible refine ev_eqI ?_ | with_reducible refine ev_isN ?_ | with_reducible refine ev_notN ?_ | with_reducible refine ev_chain ?_
  | with_reducible refine ev_andV ?_ | with_reducible refine ev_orV ?_ | with_reducible refine ev_notV ?_ | with_reducible refine ev_if ?_
  | with_reducible refine tv_test ?_ | with_reducible refine tv_B ?_ | with_reducible refine tv_and ?_ | with_reducible refine tv_or ?_ | with_reducible refine tv_not ?_ | with_reducible refine tv_yes ?_
  | with_reducible refine ev_isiInt ?_ | with_reducible refine ev_isiBool ?_ | with_reducible refine ev_isiSeq ?_
  | with_reducible refine av_cons ?_ | with_reducible refine av_nil ?_
  | with_reducible refine ev_pure ?_ | with_reducible refine ev_gcd ?_ | with_reducible refine ev_abs ?_ | with_reducible refine ev_int1 ?_
  | (with_reducible refine DL.ev_len ?_; refine av_cons ?_; refine ev_v rfl ?_; refine bnd_ok ?_; refine av_nil ?_; refine ⟨_, _, _, rfl, by first | rfl | assumption, ?_⟩)
  | with_reducible refine ev_fldD ?_ | with_reducible refine ev_ixS ?_
  | with_reducible refine sv_seq ?_ | with_reducible refine sv_next ?_ | with_reducible refine sv_brk ?_ | with_reducible refine sv_cont ?_ | with_reducible refine sv_ret ?_ | with_reducible refine sv_retN ?_ | with_reducible refine sv_if ?_ | with_reducible refine sv_drop ?_
  | with_reducible refine sv_asg ?_
  | refine ⟨_, rfl, fun hb => ?_, fun hb => ?_⟩
  | refine ⟨_, _, rfl, rfl, fun hb => ?_, fun hb => ?_⟩
  | refine ⟨_, _, rfl, rfl, ?_⟩
  | refine ⟨_, _, _, _, rfl, rfl, rfl, ?_⟩
  | refine ⟨_, rfl, ?_⟩ | refine ⟨_, _, rfl, ?_⟩
  | refine And.intro rfl ?_ | refine And.intro (Nat.le_of_ble_eq_true rfl) ?_ | refine And.intro (by assumption) ?_)
local macro_rules | `(tactic| walk_at "dls") => `(tactic| repeat (walk_at "dl"; all_goals try (first | (exact (nomatch ‹false = true›)) | (exact (nomatch ‹true = false›)))))
local macro_rules | `(tactic| walk_at "dla") => `(tactic| repeat' (first | (exact (nomatch ‹false = true›)) | (exact (nomatch ‹true = false›)) | walk_at "dl"))
local macro_rules | `(tactic| walk_at "dlr") => `(tactic| (refine ret_rt (pms_d _ _ (Nat.le_of_ble_eq_true rfl)) ?_))
local macro_rules | `(tactic| walk_at "dlt") => `(tactic| first | walk_at "dl" | with_reducible refine ev_tup2 ?_ | with_reducible refine ev_tup3 ?_)
local macro_rules | `(tactic| walk_at "dlts") => `(tactic| repeat walk_at "dlt")
section
variable {P : Program} {w : World} {K : PySem.W.Frag} [HasTabs K] {mg : Str → Option Value} {base : Heap} {CH CD : Addr}
end
structure ClHands (K : PySem.W.Frag) (CH : Addr) : Prop where
  c : Cls K CH
  m : NoAttr K CH "marks"
  n : NoAttr K CH "many"
section
variable {P : Program} {w : World} {K : PySem.W.Frag} [HasTabs K] {mg : Str → Option Value} {base : Heap} {CH CD : Addr}

end
end K23

namespace K23
open PySem L2 Evl DL
local macro_rules | `(tactic| walk_at "dl") => `(tactic| first
  | with_reducible refine bnd_ok ?_ | with_reducible refine bndS_ok ?_ | with_reducible refine onE_ok ?_ | with_reducible refine seq_nx ?_ | with_reducible refine seq_rt ?_ | with_reducible refine seq_bk ?_ | with_reducible refine seq_ct ?_ | with_reducible refine onT_rt ?_ | with_reducible refine onT_bk ?_ | with_reducible refine resS_nx ?_ | with_reducible refine resS_rt ?_
  | refine ev_v rfl ?_ | refine ev_l rfl ?_ | with_reducible refine ev_i ?_ | with_reducible refine ev_n ?_ | with_reducible refine ev_b ?_ | with_reducible refine ev_s ?_
  | with_reducible refine ev_oZ0 ?_ | with_reducible refine ev_oB0 ?_ | with_reducible refine ev_oZ ?_ | with_reducible refine ev_neg ?_ | with_reducible refine ev_neI ?_ | with_reducible refine ev_eqI ?_ | with_reducible refine ev_isN ?_ | with_reducible refine ev_notN ?_ | with_reducible refine ev_chain ?_
  | with_reducible refine ev_andV ?_ | with_reducible refine ev_orV ?_ | with_reducible refine ev_notV ?_ | with_reducible refine ev_if ?_
  | with_reducible refine tv_test ?_ | with_reducible refine tv_B ?_ | with_reducible refine tv_and ?_ | with_reducible refine tv_or ?_ | with_reducible refine tv_not ?_ | with_reducible refine tv_yes ?_
  | with_reducible refine ev_isiInt ?_ | with_reducible refine ev_isiBool ?_ | with_reducible refine ev_isiSeq ?_
  | with_reducible refine av_cons ?_ | with_reducible refine av_nil ?_
  | with_reducible refine ev_pure ?_ | with_reducible refine ev_gcd ?_ | with_reducible refine ev_abs ?_ | with_reducible refine ev_int1 ?_
  | (with_reducible refine DL.ev_len ?_; refine av_cons ?_; refine ev_v rfl ?_; refine bnd_ok ?_; refine av_nil ?_; refine ⟨_, _, _, rfl, by first | rfl | assumption, ?_⟩)
  | with_reducible refine ev_fldD ?_ | with_reducible refine ev_ixS ?_
  | with_reducible refine sv_seq ?_ | with_reducible refine sv_next ?_ | with_reducible refine sv_brk ?_ | with_reducible refine sv_cont ?_ | with_reducible refine sv_ret ?_ | with_reducible refine sv_retN ?_ | with_reducible refine sv_if ?_ | with_reducible refine sv_drop ?_
  | with_reducible refine sv_asg ?_
  | refine ⟨_, rfl, fun hb => ?_, fun hb => ?_⟩
  | refine ⟨_, _, rfl, rfl, fun hb => ?_, fun hb => ?_⟩
  | refine ⟨_, _, rfl, rfl, ?_⟩
  | refine ⟨_, _, _, _, rfl, rfl, rfl, ?_⟩
  | refine ⟨_, rfl, ?_⟩ | refine ⟨_, _, rfl, ?_⟩
  | refine And.intro rfl ?_ | refine And.intro (Nat.le_of_ble_eq_true rfl) ?_ | refine And.intro (by assumption) ?_)
local macro_rules | `(tactic| walk_at "dls") => `(tactic| repeat (walk_at "dl"; all_goals try (first | (exact (nomatch ‹false = true›)) | (exact (nomatch ‹true = false›)))))
local macro_rules | `(tactic| walk_at "dla") => `(tactic| repeat' (first | (exact (nomatch ‹false = true›)) | (exact (nomatch ‹true = false›)) | walk_at "dl"))
local macro_rules | `(tactic| walk_at "dlr") => `(tactic| (refine ret_rt (pms_d _ _ (Nat.le_of_ble_eq_true rfl)) ?_))
local macro_rules | `(tactic| walk_at "dlt") => `(tactic| first | walk_at "dl" | with_reducible refine ev_tup2 ?_ | with_reducible refine ev_tup3 ?_)
local macro_rules | `(tactic| walk_at "dlts") => `(tactic| repeat walk_at "dlt")
section
variable {P : Program} {w : World} {K : PySem.W.Frag} [HasTabs K] {mg : Str → Option Value} {base : Heap} {CH CD : Addr}
abbrev fsH (ms : List Int) : List (Str × Dat) := [("marks", .tup (ms.map Dat.int)), ("many", .int ms.length)]
abbrev hObj (CH : Addr) (ms : List Int) : Dat := .obj CH (fsH ms)
abbrev s_Hands___init__ : Stmt := inClass (topS 20) 0
abbrev N_Hands___init__ : List Str := ["self", "marks", "at"]
theorem sc_Hands___init__ : FnScope N_Hands___init__ ["self", "marks"] (defScope s_Hands___init__) := ⟨rfl, rfl, rfl, by decide +kernel, rfl, by decide +kernel, by decide +kernel⟩
def R_Hands (CH : Addr) : Pr := fun os Pp => ∃ (a : Addr) (y : Dat) (t : Bool) (ms : List Int), os = [.o a CH [], .d y] ∧ y.tyn.isSome = true ∧ y.seq = some (t, ms.map Dat.int) ∧ Good ms ∧ Pp (.ok (.d .non)) [.o a CH (fsH ms), .d y]
theorem R_Hands_noex (os : List Ow) (Pp : Re → List Ow → Prop) (h : R_Hands CH os Pp) : R_Hands CH os (fun r us => (match r with | .ok _ => True | .ex _ _ => False) ∧ Pp r us) := by
  obtain ⟨a, y, t, ms, h1, h2, h3, h4, q⟩ := h
  exact ⟨a, y, t, ms, h1, h2, h3, h4, trivial, q⟩
theorem R_Hands_mono (os : List Ow) (A B : Re → List Ow → Prop) (m : ∀ r os, A r os → B r os) (h : R_Hands CH os A) : R_Hands CH os B := by
  obtain ⟨a, y, t, ms, h1, h2, h3, h4, q⟩ := h
  exact ⟨a, y, t, ms, h1, h2, h3, h4, m _ _ q⟩
theorem ok_Hands (T : Txt mg) (LH : ClHands K CH) (OT_wrong_marks : OkT P w K mg base 4 "wrong_marks" ["value", "fewest", "most"] (pureR R_wrong_marks) (.int 2) (.int 8)) (F : Cfn K mg "Hands" "Hands.__init__" s_Hands___init__ ["self", "marks"] CH) : OkC P w K mg base 5 "Hands" ["self", "marks"] CH (R_Hands CH) := by
  refine F.ok sc_Hands___init__ (by decide) (fun os Pp h => ?_) R_Hands_noex (fun f cdv A outer s H E hr => ⟨_, (pss_cons (ps_set (i := 2) sc_Hands___init__.nd rfl (.inl rfl) (pe_fnT OT_wrong_marks ⟨rfl, rfl, rfl, rfl, rfl⟩ (hr.mono (by decide)) rfl (pa_cons (pv 1) pa_nil))) (pss_cons (ps_if (pt_cmpR op_notN1 (pv 2) pe_non (nomark _)) (pss_one ps_never) pss_nil) (pss_cons (ps_fldK (K := K) rfl (pv 0) (pe_callTy (r := rTupO K) call_tuple_of (by rfl) T.b_tuple (by decide +kernel) (pa_cons (pv 1) pa_nil)) rfl) (pss_one (ps_fldK (K := K) rfl (pv 0) (pe_callB (r := rLenQ K) call_len_seq (by rfl) T.b_len (by decide +kernel) (pa_cons (pe_fldK (K := K) rfl (pv 0) rfl) pa_nil)) rfl))))), fun os Pp h => ?_⟩)
  · obtain ⟨a, y, t, ms, rfl, h2, h3, h4, q⟩ := h
    rfl
  · obtain ⟨a, y, t, ms, rfl, h2, h3, h4, q⟩ := h
    show SvP K E0 _ [some (.o a CH []), some (.d y), none] _
    walk_at "dl"
    walk_at "dl"
    refine ev_callD [.int 2, .int 8] rfl ?_
    walk_at "dls"
    refine ⟨[y, .int 2, .int 8], _, rfl, ⟨y, t, ms, rfl, h2, h3, h4, rfl⟩, ?_⟩
    walk_at "dls"
    refine sv_fld ?_
    refine DL.ev_tupD ?_
    walk_at "dls"
    refine ⟨_, _, _, rfl, h3, ?_⟩
    walk_at "dl"
    refine ⟨_, _, _, _, rfl, rfl, LH.c, LH.m, Nat.le_of_ble_eq_true rfl, ?_⟩
    walk_at "dls"
    refine sv_fld ?_
    refine DL.ev_len ?_
    refine av_cons ?_
    refine ev_fldO ?_
    refine ⟨a, CH, [("marks", .tup (ms.map Dat.int))], .tup (ms.map Dat.int), rfl, LH.c, LH.m, rfl, ?_⟩
    walk_at "dls"
    refine ⟨_, _, _, rfl, rfl, ?_⟩
    walk_at "dls"
    refine ⟨_, _, _, _, rfl, rfl, LH.c, LH.n, Nat.le_of_ble_eq_true rfl, ?_⟩
    refine ret_nx (.own rfl rfl (.dat .nil)) ?_
    rw [List.length_map]
    exact q


end
end K23

namespace K23
open PySem L2 Evl DL
local macro_rules | `(tactic| walk_at "dl") => `(tactic| first
  | with_reducible refine bnd_ok ?_ | with_reducible refine bndS_ok ?_ | with_reducible refine onE_ok ?_ | with_reducible refine seq_nx ?_ | with_reducible refine seq_rt ?_ | with_reducible refine seq_bk ?_ | with_reducible refine seq_ct ?_ | with_reducible refine onT_rt ?_ | with_reducible refine onT_bk ?_ | with_reducible refine resS_nx ?_ | with_reducible refine resS_rt ?_
  | refine ev_v rfl ?_ | refine ev_l rfl ?_ | with_reducible refine ev_i ?_ | with_reducible refine ev_n ?_ | with_reducible refine ev_b ?_ | with_reducible refine ev_s ?_
  | with_reducible refine ev_oZ0 ?_ | with_reducible refine ev_oB0 ?_ | with_reducible refine ev_oZ ?_ | with_reducible refine ev_neg ?_ | with_reducible refine ev_neI ?_ | with_reducible refine ev_eqI ?_ | with_reducible refine ev_isN ?_ | with_reducible refine ev_notN ?_ | with_reducible refine ev_chain ?_
  | with_reducible refine ev_andV ?_ | with_reducible refine ev_orV ?_ | with_reducible refine ev_notV ?_ | with_reducible refine ev_if ?_
  | with_reducible refine tv_test ?_ | with_reducible refine tv_B ?_ | with_reducible refine tv_and ?_ | with_reducible refine tv_or ?_ | with_reducible refine tv_not ?_ | with_reducible refine tv_yes ?_
  | with_reducible refine ev_isiInt ?_ | with_reducible refine ev_isiBool ?_ | with_reducible refine ev_isiSeq ?_
  | with_reducible refine av_cons ?_ | with_reducible refine av_nil ?_
  | with_reducible refine ev_pure ?_ | with_reducible refine ev_gcd ?_ | with_reducible refine ev_abs ?_ | with_reducible refine ev_int1 ?_
  | (with_reducible refine DL.ev_len ?_; refine av_cons ?_; refine ev_v rfl ?_; refine bnd_ok ?_; refine av_nil ?_; refine ⟨_, _, _, rfl, by first | rfl | assumption, ?_⟩)
  | with_reducible refine ev_fldD ?_ | with_reducible refine ev_ixS ?_
  | with_reducible refine sv_seq ?_ | with_reducible refine sv_next ?_ | with_reducible refine sv_brk ?_ | with_reducible refine sv_cont ?_ | with_reducible refine sv_ret ?_ | with_reducible refine sv_retN ?_ | with_reducible refine sv_if ?_ | with_reducible refine sv_drop ?_
  | with_reducible refine sv_asg ?_
  | refine ⟨_, rfl, fun hb => ?_, fun hb => ?_⟩
  | refine ⟨_, _, rfl, rfl, fun hb => ?_, fun hb => ?_⟩
  | refine ⟨_, _, rfl, rfl, ?_⟩
  | refine ⟨_, _, _, _, rfl, rfl, rfl, ?_⟩
  | refine ⟨_, rfl, ?_⟩ | refine ⟨_, _, rfl, ?_⟩
  | refine And.intro rfl ?_ | refine And.intro (Nat.le_of_ble_eq_true rfl) ?_ | refine And.intro (by assumption) ?_)
local macro_rules | `(tactic| walk_at "dls") => `(tactic| repeat (walk_at "dl"; all_goals try (first | (exact (nomatch ‹false = true›)) | (exact (nomatch ‹true = false›)))))
local macro_rules | `(tactic| walk_at "dla") => `(tactic| repeat' (first | (exact (nomatch ‹false = true›)) | (exact (nomatch ‹true = false›)) | walk_at "dl"))
local macro_rules | `(tactic| walk_at "dlr") => `(tactic| (refine ret_rt (pms_d _ _ (Nat.le_of_ble_eq_true rfl)) ?_))
local macro_rules | `(tactic| walk_at "dlt") => `(tactic| first | walk_at "dl" | with_reducible refine ev_tup2 ?_ | with_reducible refine ev_tup3 ?_)
local macro_rules | `(tactic| walk_at "dlts") => `(tactic| repeat walk_at "dlt")
section
variable {P : Program} {w : World} {K : PySem.W.Frag} [HasTabs K] {mg : Str → Option Value} {base : Heap} {CH CD : Addr}
abbrev s_check_items : Stmt := topS 25
abbrev N_check_items : List Str := ["value", "bound", "at", "item"]
theorem sc_check_items : FnScope N_check_items ["value", "bound"] (defScope s_check_items) := ⟨rfl, rfl, rfl, by decide +kernel, rfl, by decide +kernel, by decide +kernel⟩
def R_check_items : List Dat → Dat → Prop := fun ds d => ∃ (m0 : Int) (y : Dat) (t : Bool) (hs : List Int), ds = [y, .int m0] ∧ y.tyn.isSome = true ∧ y.seq = some (t, hs.map Dat.int) ∧ hs.length ≤ 10000 ∧ (∀ h ∈ hs, 0 ≤ h ∧ h < m0) ∧ d = .tup (hs.map Dat.int)
theorem ok_check_items (T : Txt mg) (O_is_sequence : Ok P w K mg base 1 "is_sequence" ["value"] (pureR R_is_sequence)) (O_is_below : Ok P w K mg base 2 "is_below" ["value", "bound"] (pureR R_is_below)) (F : Dfn K mg "check_items" "check_items" s_check_items ["value", "bound"]) : Ok P w K mg base 3 "check_items" ["value", "bound"] (pureR R_check_items) := by
  refine F.ok sc_check_items (by decide) (fun os Pp h => ?_) pureR_noex (fun f cdv A outer s H E hr => ⟨_, (pss_cons (ps_if (PW.pt (pw_or (pt_not (pt_val (pe_fn O_is_sequence ⟨rfl, rfl, rfl, rfl, rfl⟩ (hr.mono (by decide)) rfl (pa_cons (pv 0) pa_nil)))) (pw_or1 (pt_cmpR op_gt (pe_callB (r := rLenQ K) call_len_seq (by rfl) T.b_len (by decide +kernel) (pa_cons (pv 0) pa_nil)) (pe_const T.c_LONGEST rfl) (nomark _))))) (pss_one ps_never) pss_nil) (pss_cons (ps_for PassesOwn.never rfl (pi_enumK (K := K) rfl (by rfl) T.b_enumerate (pa_cons (pv 0) pa_nil)) (pg_tup rfl (pgs_cons (pg_name (i := 2) sc_check_items.nd rfl (.inl rfl)) (pgs_cons (pg_name (i := 3) sc_check_items.nd rfl (.inl rfl)) pgs_nil))) (pss_one (ps_if (pt_not (pt_val (pe_fn O_is_below ⟨rfl, rfl, rfl, rfl, rfl⟩ (hr.mono (by decide)) rfl (pa_cons (pv 3) (pa_cons (pv 1) pa_nil))))) (pss_one ps_never) pss_nil))) (pss_one (ps_ret (pe_callTy (r := rTupO K) call_tuple_of (by rfl) T.b_tuple (by decide +kernel) (pa_cons (pv 0) pa_nil)))))), fun os Pp h => ?_⟩)
  · obtain ⟨ds, d, rfl, ⟨m0, y, t, hs, rfl, hx, hy, hl, hb, rfl⟩, q⟩ := h
    rfl
  · obtain ⟨ds, d, rfl, ⟨m0, y, t, hs, rfl, hx, hy, hl, hb, rfl⟩, q⟩ := h
    show SvP K E0 _ [some (.d y), some (.d (.int m0)), none, none] _
    walk_at "dls"
    refine ⟨[y], _, rfl, ⟨y, rfl, hx, rfl⟩, ?_⟩
    walk_at "dls"
    · rename_i hb _
      rw [seq_isSeq hy] at hb
      exact nomatch hb
    · walk_at "dls"
      · rename_i hb2
        rw [List.length_map] at hb2
        simp at hb2
        omega
      · walk_at "dls"
        refine sv_for (ws := [2] ++ ([3] ++ [])) ?_
        refine iv_enum ?_
        walk_at "dls"
        refine ⟨_, _, _, rfl, hy, ?_⟩
        refine loop_inv (fun i ρ' => ∃ u v, ρ' = [some (.d y), some (.d (.int m0)), u, v]) ⟨_, _, rfl⟩ (fun i d ρ' hi he => ?_) (fun ρ' he => ?_)
        · obtain ⟨u, v, rfl⟩ := he
          have hd : ∃ m ∈ hs, d = .tup [.int (i : Int), .int m] := by
            cases hm : (hs.map Dat.int)[i]? with
            | none =>
              have : (enumD (hs.map Dat.int))[i]? = none := by
                rw [List.getElem?_eq_none_iff] at hm ⊢
                rw [enumD_len]
                exact hm
              rw [this] at hi
              cases hi
            | some z =>
              rw [enumD_get hm] at hi
              rw [List.getElem?_map] at hm
              cases hm2 : hs[i]? with
              | none => rw [hm2] at hm; cases hm
              | some m =>
                rw [hm2] at hm
                cases hm
                exact ⟨m, List.mem_of_getElem? hm2, (Option.some.inj hi).symm⟩
          obtain ⟨m, hm, rfl⟩ := hd
          refine gv_tup rfl (gs_cons (gv_name (Nat.le_of_ble_eq_true rfl) (gs_cons (gv_name (Nat.le_of_ble_eq_true rfl) (gs_nil ?_)))))
          walk_at "dls"
          refine ⟨[.int m, .int m0], _, rfl, ⟨_, _, rfl, rfl, rfl⟩, ?_⟩
          have e : isBelow (.int m) m0 = true := by
            have := hb m hm
            show (decide (0 ≤ m) && decide (m < m0)) = true
            simp
            omega
          rw [e]
          walk_at "dls"
          exact onT_nx (Wk.refl _) ⟨_, _, rfl⟩
        · obtain ⟨u, v, rfl⟩ := he
          walk_at "dls"
          refine DL.ev_tupD ?_
          walk_at "dls"
          refine ⟨_, _, _, rfl, hy, ?_⟩
          walk_at "dls"; walk_at "dlr"
          exact q

end
end K23

namespace K23
open PySem L2 Evl DL
local macro_rules | `(tactic| walk_at "dl") => `(tactic| first
  | with_reducible refine bnd_ok ?_ | with_reducible refine bndS_ok ?_ | with_reducible refine onE_ok ?_ | with_reducible refine seq_nx ?_ | with_reducible refine seq_rt ?_ | with_reducible refine seq_bk ?_ | with_reducible refine seq_ct ?_ | with_reducible refine onT_rt ?_ | with_reducible refine onT_bk ?_ | with_reducible refine resS_nx ?_ | with_reducible refine resS_rt ?_
  | refine ev_v rfl ?_ | refine ev_l rfl ?_ | with_reducible refine ev_i ?_ | with_reducible refine ev_n ?_ | with_reducible refine ev_b ?_ | with_reducible refine ev_s ?_
  | with_reducible refine ev_oZ0 ?_ | with_reducible refine ev_oB0 ?_ | with_reducible refine ev_oZ ?_ | with_reducible refine ev_neg ?_ | with_reducible refine ev_neI ?_ | with_reducible refine ev_eqI ?_ | with_reducible refine ev_isN ?_ | with_reducible refine ev_notN ?_ | with_reducible refine ev_chain ?_
  | with_reducible refine ev_andV ?_ | with_reducible refine ev_orV ?_ | with_reducible refine ev_notV ?_ | with_reducible refine ev_if ?_
  | with_reducible refine tv_test ?_ | with_reducible refine tv_B ?_ | with_reducible refine tv_and ?_ | with_reducible refine tv_or ?_ | with_reducible refine tv_not ?_ | with_reducible refine tv_yes ?_
  | with_reducible refine ev_isiInt ?_ | with_reducible refine ev_isiBool ?_ | with_reducible refine ev_isiSeq ?_
  | with_reducible refine av_cons ?_ | with_reducible refine av_nil ?_
  | with_reducible refine ev_pure ?_ | with_reducible refine ev_gcd ?_ | with_reducible refine ev_abs ?_ | with_reducible refine ev_int1 ?_
  | (with_reducible refine DL.ev_len ?_; refine av_cons ?_; refine ev_v rfl ?_; refine bnd_ok ?_; refine av_nil ?_; refine ⟨_, _, _, rfl, by first | rfl | assumption, ?_⟩)
  | with_reducible refine ev_fldD ?_ | with_reducible refine ev_ixS ?_
  | with_reducible refine sv_seq ?_ | with_reducible refine sv_next ?_ | with_reducible refine sv_brk ?_ | with_reducible refine sv_cont ?_ | with_reducible refine sv_ret ?_ | with_reducible refine sv_retN ?_ | with_reducible refine sv_if ?_ | with_reducible refine sv_drop ?_
  | with_reducible refine sv_asg ?_
  | refine ⟨_, rfl, fun hb => ?_, fun hb => ?_⟩
  | refine ⟨_, _, rfl, rfl, fun hb => ?_, fun hb => ?_⟩
  | refine ⟨_, _, rfl, rfl, ?_⟩
  | refine ⟨_, _, _, _, rfl, rfl, rfl, ?_⟩
  | refine ⟨_, rfl, ?_⟩ | refine ⟨_, _, rfl, ?_⟩
  | refine And.intro rfl ?_ | refine And.intro (Nat.le_of_ble_eq_true rfl) ?_ | refine And.intro (by assumption) ?_)
local macro_rules | `(tactic| walk_at "dls") => `(tactic| repeat (walk_at "dl"; all_goals try (first | (exact (nomatch ‹false = true›)) | (exact (nomatch ‹true = false›)))))
local macro_rules | `(tactic| walk_at "dla") => `(tactic| repeat' (first | (exact (nomatch ‹false = true›)) | (exact (nomatch ‹true = false›)) | walk_at "dl"))
local macro_rules | `(tactic| walk_at "dlr") => `(tactic| (refine ret_rt (pms_d _ _ (Nat.le_of_ble_eq_true rfl)) ?_))
local macro_rules | `(tactic| walk_at "dlt") => `(tactic| first | walk_at "dl" | with_reducible refine ev_tup2 ?_ | with_reducible refine ev_tup3 ?_)
local macro_rules | `(tactic| walk_at "dlts") => `(tactic| repeat walk_at "dlt")
section
variable {P : Program} {w : World} {K : PySem.W.Frag} [HasTabs K] {mg : Str → Option Value} {base : Heap} {CH CD : Addr}
abbrev s_check_story : Stmt := topS 26
abbrev N_check_story : List Str := ["hands", "value"]
theorem sc_check_story : FnScope N_check_story ["hands", "value"] (defScope s_check_story) := ⟨rfl, rfl, rfl, by decide +kernel, rfl, by decide +kernel, by decide +kernel⟩
def R_check_story (CH : Addr) : List Dat → Dat → Prop := fun ds d => ∃ (ms : List Int) (y : Dat) (t : Bool) (hs : List Int), ds = [hObj CH ms, y] ∧ y.tyn.isSome = true ∧ y.seq = some (t, hs.map Dat.int) ∧ hs.length ≤ 10000 ∧ (∀ h ∈ hs, 0 ≤ h ∧ h < ms.length) ∧ d = .tup (hs.map Dat.int)
theorem ok_check_story (T : Txt mg) (LH : ClHands K CH) (O_check_items : Ok P w K mg base 3 "check_items" ["value", "bound"] (pureR R_check_items)) (F : Dfn K mg "check_story" "check_story" s_check_story ["hands", "value"]) : Ok P w K mg base 4 "check_story" ["hands", "value"] (pureR (R_check_story CH)) := by
  refine F.ok sc_check_story (by decide) (fun os Pp h => ?_) pureR_noex (fun f cdv A outer s H E hr => ⟨_, (pss_one (ps_ret (pe_fn O_check_items ⟨rfl, rfl, rfl, rfl, rfl⟩ (hr.mono (by decide)) rfl (pa_cons (pv 1) (pa_cons (pe_fldK (K := K) rfl (pv 0) rfl) pa_nil))))), fun os Pp h => ?_⟩)
  · obtain ⟨ds, d, rfl, ⟨ms, y, t, hs, rfl, hx, hy, hl, hb, rfl⟩, q⟩ := h
    rfl
  · obtain ⟨ds, d, rfl, ⟨ms, y, t, hs, rfl, hx, hy, hl, hb, rfl⟩, q⟩ := h
    show SvP K E0 _ [some (.d (hObj CH ms)), some (.d y)] _
    refine sv_ret ?_
    refine ev_pure ?_
    refine av_cons (ev_v rfl (bnd_ok (av_cons (ev_fldD (ev_v rfl (bnd_ok ⟨_, _, _, rfl, LH.c, LH.n, rfl, ?_⟩))))))
    refine bnd_ok (av_nil ?_)
    refine ⟨[y, .int ms.length], _, rfl, ⟨_, y, t, hs, rfl, hx, hy, hl, hb, rfl⟩, ?_⟩
    refine bndS_ok ?_
    walk_at "dlr"
    exact q

end
end K23

namespace K23
open PySem L2 Evl DL
local macro_rules | `(tactic| walk_at "dl") => `(tactic| first
  | with_reducible refine bnd_ok ?_ | with_reducible refine bndS_ok ?_ | with_reducible refine onE_ok ?_ | with_reducible refine seq_nx ?_ | with_reducible refine seq_rt ?_ | with_reducible refine seq_bk ?_ | with_reducible refine seq_ct ?_ | with_reducible refine onT_rt ?_ | with_reducible refine onT_bk ?_ | with_reducible refine resS_nx ?_ | with_reducible refine resS_rt ?_
  | refine ev_v rfl ?_ | refine ev_l rfl ?_ | with_reducible refine ev_i ?_ | with_reducible refine ev_n ?_ | with_reducible refine ev_b ?_ | with_reducible refine ev_s ?_
  | with_reducible refine ev_oZ0 ?_ | with_reducible refine ev_oB0 ?_ | with_reducible refine ev_oZ ?_ | with_reducible refine ev_neg ?_ | with_reducible refine ev_neI ?_ | with_reducible refine ev_eqI ?_ | with_reducible refine ev_isN ?_ | with_reducible refine ev_notN ?_ | with_reducible refine ev_chain ?_
  | with_reducible refine ev_andV ?_ | with_reducible refine ev_orV ?_ | with_reducible refine ev_notV ?_ | with_reducible refine ev_if ?_
  | with_reducible refine tv_test ?_ | with_reducible refine tv_B ?_ | with_reducible refine tv_and ?_ | with_reducible refine tv_or ?_ | with_reducible refine tv_not ?_ | with_reducible refine tv_yes ?_
  | with_reducible refine ev_isiInt ?_ | with_reducible refine ev_isiBool ?_ | with_reducible refine ev_isiSeq ?_
  | with_reducible refine av_cons ?_ | with_reducible refine av_nil ?_
  | with_reducible refine ev_pure ?_ | with_reducible refine ev_gcd ?_ | with_reducible refine ev_abs ?_ | with_reducible refine ev_int1 ?_
  | (with_reducible refine DL.ev_len ?_; refine av_cons ?_; refine ev_v rfl ?_; refine bnd_ok ?_; refine av_nil ?_; refine ⟨_, _, _, rfl, by first | rfl | assumption, ?_⟩)
  | with_reducible refine ev_fldD ?_ | with_reducible refine ev_ixS ?_
  | with_reducible refine sv_seq ?_ | with_reducible refine sv_next ?_ | with_reducible refine sv_brk ?_ | with_reducible refine sv_cont ?_ | with_reducible refine sv_ret ?_ | with_reducible refine sv_retN ?_ | with_reducible refine sv_if ?_ | with_reducible refine sv_drop ?_
  | with_reducible refine sv_asg ?_
  | refine ⟨_, rfl, fun hb => ?_, fun hb => ?_⟩
  | refine ⟨_, _, rfl, rfl, fun hb => ?_, fun hb => ?_⟩
  | refine ⟨_, _, rfl, rfl, ?_⟩
  | refine ⟨_, _, _, _, rfl, rfl, rfl, ?_⟩
  | refine ⟨_, rfl, ?_⟩ | refine ⟨_, _, rfl, ?_⟩
  | refine And.intro rfl ?_ | refine And.intro (Nat.le_of_ble_eq_true rfl) ?_ | refine And.intro (by assumption) ?_)
local macro_rules | `(tactic| walk_at "dls") => `(tactic| repeat (walk_at "dl"; all_goals try (first | (exact (nomatch ‹false = true›)) | (exact (nomatch ‹true = false›)))))
local macro_rules | `(tactic| walk_at "dla") => `(tactic| repeat' (first | (exact (nomatch ‹false = true›)) | (exact (nomatch ‹true = false›)) | walk_at "dl"))
local macro_rules | `(tactic| walk_at "dlr") => `(tactic| (refine ret_rt (pms_d _ _ (Nat.le_of_ble_eq_true rfl)) ?_))
local macro_rules | `(tactic| walk_at "dlt") => `(tactic| first | walk_at "dl" | with_reducible refine ev_tup2 ?_ | with_reducible refine ev_tup3 ?_)
local macro_rules | `(tactic| walk_at "dlts") => `(tactic| repeat walk_at "dlt")
section
variable {P : Program} {w : World} {K : PySem.W.Frag} [HasTabs K] {mg : Str → Option Value} {base : Heap} {CH CD : Addr}
abbrev s_need_number : Stmt := topS 38
abbrev N_need_number : List Str := ["number"]
theorem sc_need_number : FnScope N_need_number ["number"] (defScope s_need_number) := ⟨rfl, rfl, rfl, by decide +kernel, rfl, by decide +kernel, by decide +kernel⟩
def R_need_number : List Dat → Dat → Prop := fun ds d => ∃ (n : Int), ds = [.int n] ∧ 0 ≤ n ∧ d = .int n
theorem ok_need_number (T : Txt mg) (O_is_number : Ok P w K mg base 1 "is_number" ["value"] (pureR R_is_number)) (F : Dfn K mg "need_number" "need_number" s_need_number ["number"]) : Ok P w K mg base 2 "need_number" ["number"] (pureR R_need_number) := by
  refine F.ok sc_need_number (by decide) (fun os Pp h => ?_) pureR_noex (fun f cdv A outer s H E hr => ⟨_, (pss_cons (ps_if (pt_not (pt_val (pe_fn O_is_number ⟨rfl, rfl, rfl, rfl, rfl⟩ (hr.mono (by decide)) rfl (pa_cons (pv 0) pa_nil)))) (pss_one ps_never) pss_nil) (pss_one (ps_ret (pv 0)))), fun os Pp h => ?_⟩)
  · obtain ⟨ds, d, rfl, ⟨n, rfl, h1, rfl⟩, q⟩ := h
    rfl
  · obtain ⟨ds, d, rfl, ⟨n, rfl, h1, rfl⟩, q⟩ := h
    show SvP K E0 _ [some (.d (.int n))] _
    walk_at "dls"
    refine ⟨[.int n], _, rfl, ⟨_, rfl, rfl, rfl⟩, ?_⟩
    rw [show isNum (.int n) = true from decide_eq_true h1]
    walk_at "dls"
    walk_at "dlr"
    exact q

end
end K23

namespace K23
open PySem L2 Evl DL
local macro_rules | `(tactic| walk_at "dl") => `(tactic| first
  | with_reducible refine bnd_ok ?_ | with_reducible refine bndS_ok ?_ | with_reducible refine onE_ok ?_ | with_reducible refine seq_nx ?_ | with_reducible refine seq_rt ?_ | with_reducible refine seq_bk ?_ | with_reducible refine seq_ct ?_ | with_reducible refine onT_rt ?_ | with_reducible refine onT_bk ?_ | with_reducible refine resS_nx ?_ | with_reducible refine resS_rt ?_
  | refine ev_v rfl ?_ | refine ev_l rfl ?_ | with_reducible refine ev_i ?_ | with_reducible refine ev_n ?_ | with_reducible refine ev_b ?_ | with_reducible refine ev_s ?_
  | with_reducible refine ev_oZ0 ?_ | with_reducible refine ev_oB0 ?_ | with_reducible refine ev_oZ ?_ | with_reducible refine ev_neg ?_ | with_reducible refine ev_neI ?_ | with_reducible refine ev_eqI ?_ | with_reducible refine ev_isN ?_ | with_reducible refine ev_notN ?_ | with_reducible refine ev_chain ?_
  | with_reducible refine ev_andV ?_ | with_reducible refine ev_orV ?_ | with_reducible refine ev_notV ?_ | with_reducible refine ev_if ?_
  | with_reducible refine tv_test ?_ | with_reducible refine tv_B ?_ | with_reducible refine tv_and ?_ | with_reducible refine tv_or ?_ | with_reducible refine tv_not ?_ | with_reducible refine tv_yes ?_
  | with_reducible refine ev_isiInt ?_ | with_reducible refine ev_isiBool ?_ | with_reducible refine ev_isiSeq ?_
  | with_reducible refine av_cons ?_ | with_reducible refine av_nil ?_
  | with_reducible refine ev_pure ?_ | with_reducible refine ev_gcd ?_ | with_reducible refine ev_abs ?_ | with_reducible refine ev_int1 ?_
  | (with_reducible refine DL.ev_len ?_; refine av_cons ?_; refine ev_v rfl ?_; refine bnd_ok ?_; refine av_nil ?_; refine ⟨_, _, _, rfl, by first | rfl | assumption, ?_⟩)
  | with_reducible refine ev_fldD ?_ | with_reducible refine ev_ixS ?_
  | with_reducible refine sv_seq ?_ | with_reducible refine sv_next ?_ | with_reducible refine sv_brk ?_ | with_reducible refine sv_cont ?_ | with_reducible refine sv_ret ?_ | with_reducible refine sv_retN ?_ | with_reducible refine sv_if ?_ | with_reducible refine sv_drop ?_
  | with_reducible refine sv_asg ?_
  | refine ⟨_, rfl, fun hb => ?_, fun hb => ?_⟩
  | refine ⟨_, _, rfl, rfl, fun hb => ?_, fun hb => ?_⟩
  | refine ⟨_, _, rfl, rfl, ?_⟩
  | refine ⟨_, _, _, _, rfl, rfl, rfl, ?_⟩
  | refine ⟨_, rfl, ?_⟩ | refine ⟨_, _, rfl, ?_⟩
  | refine And.intro rfl ?_ | refine And.intro (Nat.le_of_ble_eq_true rfl) ?_ | refine And.intro (by assumption) ?_)
local macro_rules | `(tactic| walk_at "dls") => `(tactic| repeat (walk_at "dl"; all_goals try (first | (exact (nomatch ‹false = true›)) | (exact (nomatch ‹true = false›)))))
local macro_rules | `(tactic| walk_at "dla") => `(tactic| repeat' (first | (exact (nomatch ‹false = true›)) | (exact (nomatch ‹true = false›)) | walk_at "dl"))
local macro_rules | `(tactic| walk_at "dlr") => `(tactic| (refine ret_rt (pms_d _ _ (Nat.le_of_ble_eq_true rfl)) ?_))
local macro_rules | `(tactic| walk_at "dlt") => `(tactic| first | walk_at "dl" | with_reducible refine ev_tup2 ?_ | with_reducible refine ev_tup3 ?_)
local macro_rules | `(tactic| walk_at "dlts") => `(tactic| repeat walk_at "dlt")
section
variable {P : Program} {w : World} {K : PySem.W.Frag} [HasTabs K] {mg : Str → Option Value} {base : Heap} {CH CD : Addr}
abbrev s_spans_of : Stmt := topS 33
abbrev N_spans_of : List Str := ["lengths", "spans", "first", "length"]
theorem sc_spans_of : FnScope N_spans_of ["lengths"] (defScope s_spans_of) := ⟨rfl, rfl, rfl, by decide +kernel, rfl, by decide +kernel, by decide +kernel⟩
def spD (p : Int × Int) : Dat := .tup [.int p.1, .int p.2]
def spF (p : List (Int × Int) × Int) (l : Int) : List (Int × Int) × Int := (p.1 ++ [(p.2, p.2 + l)], p.2 + l)
def spansI (ls : List Int) : List (Int × Int) := (ls.foldl spF ([], 0)).1
theorem spans_len : ∀ (ls : List Int) (p : List (Int × Int) × Int), (ls.foldl spF p).1.length = p.1.length + ls.length
  | [], p => rfl
  | l :: ls, p => by
    show (ls.foldl spF (spF p l)).1.length = _
    rw [spans_len ls]
    show (p.1 ++ [_]).length + _ = p.1.length + (ls.length + 1)
    rw [List.length_append]
    show p.1.length + 1 + _ = _
    omega
def R_spans_of : List Dat → Dat → Prop := fun ds d => ∃ (y : Dat) (t : Bool) (ls : List Int), ds = [y] ∧ y.seq = some (t, ls.map Dat.int) ∧ ls.length ≤ 1000 ∧ d = .tup ((spansI ls).map spD)
theorem ok_spans_of (T : Txt mg) (F : Dfn K mg "spans_of" "spans_of" s_spans_of ["lengths"]) : Ok P w K mg base 1 "spans_of" ["lengths"] (pureR R_spans_of) := by
  refine F.ok sc_spans_of (by decide) (fun os Pp h => ?_) pureR_noex (fun f cdv A outer s H E hr => ⟨_, (pss_cons (ps_set (i := 1) sc_spans_of.nd rfl (.inl rfl) (pe_lst pa_nil)) (pss_cons (ps_set (i := 2) sc_spans_of.nd rfl (.inl rfl) pe_int) (pss_cons (ps_for PassesOwn.never rfl (pi_anyK (K := K) rfl (pv 0)) (pg_name (i := 3) sc_spans_of.nd rfl (.inl rfl)) (pss_cons (ps_expr (pe_bmK (K := K) rfl PySem.F.plainAttrs_list PySem.F.slot_list_append PySem.F.type_list_append mt_append (pv 1) (pa_cons (pe_tup (pa_cons (pv 2) (pa_cons (pe_op op_add (pv 2) (pv 3)) pa_nil))) pa_nil))) (pss_one (ps_set (i := 2) sc_spans_of.nd rfl (.inl rfl) (pe_op op_add (pv 2) (pv 3)))))) (pss_one (ps_ret (pe_callTy (r := rTupO K) call_tuple_of (by rfl) T.b_tuple (by decide +kernel) (pa_cons (pv 1) pa_nil))))))), fun os Pp h => ?_⟩)
  · obtain ⟨ds, d, rfl, ⟨y, t, ls, rfl, hy, hl, rfl⟩, q⟩ := h
    rfl
  · obtain ⟨ds, d, rfl, ⟨y, t, ls, rfl, hy, hl, rfl⟩, q⟩ := h
    show SvP K E0 _ [some (.d y), none, none, none] _
    walk_at "dls"
    refine ev_lsto ?_
    walk_at "dls"
    intro a
    walk_at "dls"
    refine sv_for (ws := [3]) ?_
    refine iv_any ?_
    walk_at "dls"
    refine ⟨_, _, _, rfl, hy, ?_⟩
    refine loop_fold Dat.int spF (fun p => [some (.d y), some (.l a ((p.1.map spD).map Ow.d)), some (.d (.int p.2)), none]) ([], 0) ls rfl (fun i m b hi hb => ?_) ?_
    · have hlen : b.1.length ≤ 1000 := by
        rw [hb, spans_len, List.length_take]
        show 0 + _ ≤ 1000
        omega
      refine gv_name (Nat.le_of_ble_eq_true rfl) ?_
      walk_at "dls"
      refine ev_app ⟨a, _, rfl, ?_⟩
      refine ev_tup (ds := []) ?_
      walk_at "dls"
      refine ⟨[.int b.2, .int (b.2 + m)], rfl, Nat.le_of_ble_eq_true rfl, ?_⟩
      walk_at "dl"
      refine ⟨_, rfl, by rw [List.length_map, List.length_map]; omega, ?_⟩
      walk_at "dls"
      refine onT_nx (.cons (.cons (.cons (.skip .nil)))) ?_
      unfold spF
      rw [List.map_append, List.map_append]
      rfl
    · walk_at "dls"
      refine ev_tupO ?_
      walk_at "dls"
      simp only [bks, bk, List.set, bkG_d, bkG_at, bkG_n]
      walk_at "dlr"
      exact q

end
end K23

namespace K23
open PySem L2 Evl DL
local macro_rules | `(tactic| walk_at "dl") => `(tactic| first
  | with_reducible refine bnd_ok ?_ | with_reducible refine bndS_ok ?_ | with_reducible refine onE_ok ?_ | with_reducible refine seq_nx ?_ | with_reducible refine seq_rt ?_ | with_reducible refine seq_bk ?_ | with_reducible refine seq_ct ?_ | with_reducible refine onT_rt ?_ | with_reducible refine onT_bk ?_ | with_reducible refine resS_nx ?_ | with_reducible refine resS_rt ?_
  | refine ev_v rfl ?_ | refine ev_l rfl ?_ | with_reducible refine ev_i ?_ | with_reducible refine ev_n ?_ | with_reducible refine ev_b ?_ | with_reducible refine ev_s ?_
  | with_reducible refine ev_oZ0 ?_ | with_reducible refine ev_oB0 ?_ | with_reducible refine ev_oZ ?_ | with_reducible refine ev_neg ?_ | with_reducible refine ev_neI ?_ | with_reducible refine ev_eqI ?_ | with_reducible refine ev_isN ?_ | with_reducible refine ev_notN ?_ | with_reducible refine ev_chain ?_
  | with_reducible refine ev_andV ?_ | with_reducible refine ev_orV ?_ | with_reducible refine ev_notV ?_ | with_reducible refine ev_if ?_
  | with_reducible refine tv_test ?_ | with_reducible refine tv_B ?_ | with_reducible refine tv_and ?_ | with_reducible refine tv_or ?_ | with_reducible refine tv_not ?_ | with_reducible refine tv_yes ?_
  | with_reducible refine ev_isiInt ?_ | with_reducible refine ev_isiBool ?_ | with_reducible refine ev_isiSeq ?_
  | with_reducible refine av_cons ?_ | with_reducible refine av_nil ?_
  | with_reducible refine ev_pure ?_ | with_reducible refine ev_gcd ?_ | with_reducible refine ev_abs ?_ | with_reducible refine ev_int1 ?_
  | (with_reducible refine DL.ev_len ?_; refine av_cons ?_; refine ev_v rfl ?_; refine bnd_ok ?_; refine av_nil ?_; refine ⟨_, _, _, rfl, by first | rfl | assumption, ?_⟩)
  | with_reducible refine ev_fldD ?_ | with_reducible refine ev_ixS ?_
  | with_reducible refine sv_seq ?_ | with_reducible refine sv_next ?_ | with_reducible refine sv_brk ?_ | with_reducible refine sv_cont ?_ | with_reducible refine sv_ret ?_ | with_reducible refine sv_retN ?_ | with_reducible refine sv_if ?_ | with_reducible refine sv_drop ?_
  | with_reducible refine sv_asg ?_
  | refine ⟨_, rfl, fun hb => ?_, fun hb => ?_⟩
  | refine ⟨_, _, rfl, rfl, fun hb => ?_, fun hb => ?_⟩
  | refine ⟨_, _, rfl, rfl, ?_⟩
  | refine ⟨_, _, _, _, rfl, rfl, rfl, ?_⟩
  | refine ⟨_, rfl, ?_⟩ | refine ⟨_, _, rfl, ?_⟩
  | refine And.intro rfl ?_ | refine And.intro (Nat.le_of_ble_eq_true rfl) ?_ | refine And.intro (by assumption) ?_)
local macro_rules | `(tactic| walk_at "dls") => `(tactic| repeat (walk_at "dl"; all_goals try (first | (exact (nomatch ‹false = true›)) | (exact (nomatch ‹true = false›)))))
local macro_rules | `(tactic| walk_at "dla") => `(tactic| repeat' (first | (exact (nomatch ‹false = true›)) | (exact (nomatch ‹true = false›)) | walk_at "dl"))
local macro_rules | `(tactic| walk_at "dlr") => `(tactic| (refine ret_rt (pms_d _ _ (Nat.le_of_ble_eq_true rfl)) ?_))
local macro_rules | `(tactic| walk_at "dlt") => `(tactic| first | walk_at "dl" | with_reducible refine ev_tup2 ?_ | with_reducible refine ev_tup3 ?_)
local macro_rules | `(tactic| walk_at "dlts") => `(tactic| repeat walk_at "dlt")
section
variable {P : Program} {w : World} {K : PySem.W.Frag} [HasTabs K] {mg : Str → Option Value} {base : Heap} {CH CD : Addr}
theorem spans_fold_get : ∀ (ls : List Int) (p : List (Int × Int) × Int) (h : Nat), h < ls.length → (ls.foldl spF p).1[p.1.length + h]? = some (p.2 + (ls.take h).sum, p.2 + (ls.take (h + 1)).sum)
  | [], p, h, hh => by simp at hh
  | l :: ls, p, 0, _ => by
    have keep : ∀ (ls : List Int) (p : List (Int × Int) × Int) (i : Nat) (x : Int × Int), p.1[i]? = some x → (ls.foldl spF p).1[i]? = some x := by
      intro ls
      induction ls with
      | nil => intro p i x e; exact e
      | cons l ls ih =>
        intro p i x e
        refine ih (spF p l) i x ?_
        show (p.1 ++ [_])[i]? = _
        rw [List.getElem?_append_left (List.getElem?_eq_some_iff.mp e).1]
        exact e
    show (ls.foldl spF (spF p l)).1[p.1.length + 0]? = _
    refine keep ls (spF p l) _ _ ?_
    show (p.1 ++ [(p.2, p.2 + l)])[p.1.length + 0]? = _
    rw [Nat.add_zero, List.getElem?_append_right (Nat.le_refl _), Nat.sub_self]
    show some (p.2, p.2 + l) = some (p.2 + 0, p.2 + (l + 0))
    rw [Int.add_zero, Int.add_zero]
  | l :: ls, p, h + 1, hh => by
    have := spans_fold_get ls (spF p l) h (by simpa using hh)
    show (ls.foldl spF (spF p l)).1[p.1.length + (h + 1)]? = _
    rw [show p.1.length + (h + 1) = (spF p l).1.length + h by show _ = (p.1 ++ [_]).length + h; rw [List.length_append]; show _ = p.1.length + 1 + h; omega, this]
    show some (p.2 + l + _, p.2 + l + _) = _
    rw [List.take_succ_cons, List.take_succ_cons, List.sum_cons, List.sum_cons, Int.add_assoc, Int.add_assoc]
theorem spans_at {ls : List Int} {h : Nat} (hh : h < ls.length) : (spansI ls)[h]? = some ((ls.take h).sum, (ls.take (h + 1)).sum) := by
  have := spans_fold_get ls ([], 0) h hh
  rw [show ([] : List (Int × Int)).length + h = h by simp, Int.zero_add, Int.zero_add] at this
  exact this
theorem sum_nonneg : ∀ {ls : List Int}, (∀ l ∈ ls, 0 ≤ l) → 0 ≤ ls.sum
  | [], _ => by simp
  | l :: ls, h => by
    rw [List.sum_cons]
    have a := h l List.mem_cons_self
    have b := sum_nonneg (ls := ls) fun x hx => h x (List.mem_cons_of_mem _ hx)
    omega
theorem sum_take_le {ls : List Int} (h : ∀ l ∈ ls, 0 ≤ l) (i : Nat) : 0 ≤ (ls.take i).sum ∧ (ls.take i).sum ≤ ls.sum := by
  have e : (ls.take i).sum + (ls.drop i).sum = ls.sum := by rw [← List.sum_append, List.take_append_drop]
  have a := sum_nonneg (ls := ls.take i) fun l hl => h l (List.mem_of_mem_take hl)
  have b := sum_nonneg (ls := ls.drop i) fun l hl => h l (List.mem_of_mem_drop hl)
  omega
theorem sum_take_mono {ls : List Int} (h : ∀ l ∈ ls, 0 ≤ l) {i j : Nat} (hij : i ≤ j) : (ls.take i).sum ≤ (ls.take j).sum := by
  have e : (ls.take j).take i = ls.take i := by rw [List.take_take, Nat.min_eq_left hij]
  have := (sum_take_le (ls := ls.take j) (fun l hl => h l (List.mem_of_mem_take hl)) i).2
  rw [e] at this
  exact this

end
end K23

namespace K23
open PySem L2 Evl DL
local macro_rules | `(tactic| walk_at "dl") => `(tactic| first
  | with_reducible refine bnd_ok ?_ | with_reducible refine bndS_ok ?_ | with_reducible refine onE_ok ?_ | with_reducible refine seq_nx ?_ | with_reducible refine seq_rt ?_ | with_reducible refine seq_bk ?_ | with_reducible refine seq_ct ?_ | with_reducible refine onT_rt ?_ | with_reducible refine onT_bk ?_ | with_reducible refine resS_nx ?_ | with_reducible refine resS_rt ?_
  | refine ev_v rfl ?_ | refine ev_l rfl ?_ | with_reducible refine ev_i ?_ | with_reducible refine ev_n ?_ | with_reducible refine ev_b ?_ | with_reducible refine ev_s ?_
  | with_reducible refine ev_oZ0 ?_ | with_reducible refine ev_oB0 ?_ | with_reducible refine ev_oZ ?_ | with_reducible refine ev_neg ?_ | with_reducible refine ev_neI ?_ | with_reducible refine ev_eqI ?_ | with_reducible refine ev_isN ?_ | with_reducible refine ev_notN ?_ | with_reducible refine ev_chain ?_
  | with_reducible refine ev_andV ?_ | with_reducible refine ev_orV ?_ | with_reducible refine ev_notV ?_ | with_reducible refine ev_if ?_
  | with_reducible refine tv_test ?_ | with_reducible refine tv_B ?_ | with_reducible refine tv_and ?_ | with_reducible refine tv_or ?_ | with_reducible refine tv_not ?_ | with_reducible refine tv_yes ?_
  | with_reducible refine ev_isiInt ?_ | with_reducible refine ev_isiBool ?_ | with_reducible refine ev_isiSeq ?_
  | with_reducible refine av_cons ?_ | with_reducible refine av_nil ?_
  | with_reducible refine ev_pure ?_ | with_reducible refine ev_gcd ?_ | with_reducible refine ev_abs ?_ | with_reducible refine ev_int1 ?_
  | (with_reducible refine DL.ev_len ?_; refine av_cons ?_; refine ev_v rfl ?_; refine bnd_ok ?_; refine av_nil ?_; refine ⟨_, _, _, rfl, by first | rfl | assumption, ?_⟩)
  | with_reducible refine ev_fldD ?_ | with_reducible refine ev_ixS ?_
  | with_reducible refine sv_seq ?_ | with_reducible refine sv_next ?_ | with_reducible refine sv_brk ?_ | with_reducible refine sv_cont ?_ | with_reducible refine sv_ret ?_ | with_reducible refine sv_retN ?_ | with_reducible refine sv_if ?_ | with_reducible refine sv_drop ?_
  | with_reducible refine sv_asg ?_
  | refine ⟨_, rfl, fun hb => ?_, fun hb => ?_⟩
  | refine ⟨_, _, rfl, rfl, fun hb => ?_, fun hb => ?_⟩
  | refine ⟨_, _, rfl, rfl, ?_⟩
  | refine ⟨_, _, _, _, rfl, rfl, rfl, ?_⟩
  | refine ⟨_, rfl, ?_⟩ | refine ⟨_, _, rfl, ?_⟩
  | refine And.intro rfl ?_ | refine And.intro (Nat.le_of_ble_eq_true rfl) ?_ | refine And.intro (by assumption) ?_)
local macro_rules | `(tactic| walk_at "dls") => `(tactic| repeat (walk_at "dl"; all_goals try (first | (exact (nomatch ‹false = true›)) | (exact (nomatch ‹true = false›)))))
local macro_rules | `(tactic| walk_at "dla") => `(tactic| repeat' (first | (exact (nomatch ‹false = true›)) | (exact (nomatch ‹true = false›)) | walk_at "dl"))
local macro_rules | `(tactic| walk_at "dlr") => `(tactic| (refine ret_rt (pms_d _ _ (Nat.le_of_ble_eq_true rfl)) ?_))
local macro_rules | `(tactic| walk_at "dlt") => `(tactic| first | walk_at "dl" | with_reducible refine ev_tup2 ?_ | with_reducible refine ev_tup3 ?_)
local macro_rules | `(tactic| walk_at "dlts") => `(tactic| repeat walk_at "dlt")
section
variable {P : Program} {w : World} {K : PySem.W.Frag} [HasTabs K] {mg : Str → Option Value} {base : Heap} {CH CD : Addr}
abbrev s_sum_of_parts : Stmt := topS 7
abbrev N_sum_of_parts : List Str := ["tops", "bottoms", "above", "below", "common", "top", "bottom"]
theorem sc_sum_of_parts : FnScope N_sum_of_parts ["tops", "bottoms"] (defScope s_sum_of_parts) := ⟨rfl, rfl, rfl, by decide +kernel, rfl, by decide +kernel, by decide +kernel⟩
def tbF (p : Int × Int) (m : Int) : Int × Int := (p.1 * m + p.2, p.2 * m)
def tb (ms : List Int) : Int × Int := ms.foldl tbF (0, 1)
def gcdI (a b : Int) : Int := ((Nat.gcd a.natAbs b.natAbs : Nat) : Int)
def shT (ms : List Int) : Int := (tb ms).1 / gcdI (tb ms).1 (tb ms).2
def shB (ms : List Int) : Int := (tb ms).2 / gcdI (tb ms).1 (tb ms).2
theorem tb_bound : ∀ (ms : List Int) (p : Int × Int), (∀ m ∈ ms, 1 ≤ m ∧ m ≤ 60) → 0 < p.2 → 0 < (ms.foldl tbF p).2 ∧ (ms.foldl tbF p).2 ≤ p.2 * 60 ^ ms.length
  | [], p, _, h => by
    refine ⟨h, ?_⟩
    show p.2 ≤ p.2 * 60 ^ 0
    omega
  | m :: ms, p, g, h => by
    have hm := g m List.mem_cons_self
    have h2 : 0 < p.2 * m := Int.mul_pos h (by omega)
    obtain ⟨i1, i2⟩ := tb_bound ms (tbF p m) (fun x hx => g x (List.mem_cons_of_mem _ hx)) h2
    refine ⟨i1, Int.le_trans i2 ?_⟩
    show p.2 * m * 60 ^ ms.length ≤ p.2 * 60 ^ (ms.length + 1)
    have e : (60 : Int) ^ (ms.length + 1) = 60 * 60 ^ ms.length := by rw [Int.pow_succ]; exact Int.mul_comm _ _
    rw [e, Int.mul_assoc]
    refine Int.mul_le_mul_of_nonneg_left ?_ (by omega)
    exact Int.mul_le_mul_of_nonneg_right hm.2 (Int.le_of_lt (Int.pow_pos (by omega)))
theorem good_bot {ms : List Int} (g : Good ms) : 0 < (tb ms).2 ∧ (tb ms).2 ≤ 60 ^ 8 := by
  obtain ⟨h1, h2⟩ := tb_bound ms (0, 1) g.2.2 (by decide)
  refine ⟨h1, Int.le_trans h2 ?_⟩
  rw [Int.one_mul]
  have : (60 : Nat) ^ ms.length ≤ 60 ^ 8 := Nat.pow_le_pow_right (by decide) g.2.1
  exact_mod_cast this
theorem good_gcd {ms : List Int} (g : Good ms) : 0 < gcdI (tb ms).1 (tb ms).2 ∧ (gcdI (tb ms).1 (tb ms).2).natAbs.log2 < 9000 := by
  obtain ⟨h1, h2⟩ := good_bot g
  have hp : 0 < (tb ms).2.natAbs := by omega
  have h3 : 0 < Nat.gcd (tb ms).1.natAbs (tb ms).2.natAbs := Nat.gcd_pos_of_pos_right _ hp
  refine ⟨by unfold gcdI; omega, ?_⟩
  have h4 : Nat.gcd (tb ms).1.natAbs (tb ms).2.natAbs ≤ 60 ^ 8 := Nat.le_trans (Nat.gcd_le_right _ hp) (by omega)
  have e : (gcdI (tb ms).1 (tb ms).2).natAbs = Nat.gcd (tb ms).1.natAbs (tb ms).2.natAbs := by unfold gcdI; omega
  rw [e, Nat.log2_lt (by omega)]
  exact Nat.lt_of_le_of_lt h4 (by decide +kernel)
def R_sum_of_parts : List Dat → Dat → Prop := fun ds d => ∃ (ms : List Int), ds = [.lst (List.replicate ms.length (.int 1)), .tup (ms.map Dat.int)] ∧ Good ms ∧ d = .tup [.int (shT ms), .int (shB ms)]
theorem zipD_ones : ∀ (ms : List Int), zipD (List.replicate ms.length (Dat.int 1)) (ms.map Dat.int) = ms.map fun m => .tup [.int 1, .int m]
  | [] => rfl
  | m :: ms => congrArg (List.cons _) (zipD_ones ms)
theorem ok_sum_of_parts (T : Txt mg) (F : Dfn K mg "sum_of_parts" "sum_of_parts" s_sum_of_parts ["tops", "bottoms"]) : Ok P w K mg base 1 "sum_of_parts" ["tops", "bottoms"] (pureR R_sum_of_parts) := by
  refine F.ok sc_sum_of_parts (by decide) (fun os Pp h => ?_) pureR_noex (fun f cdv A outer s H E hr => ⟨_, (pss_cons (ps_set (i := 2) sc_sum_of_parts.nd rfl (.inl rfl) pe_int) (pss_cons (ps_set (i := 3) sc_sum_of_parts.nd rfl (.inl rfl) pe_int) (pss_cons (ps_for PassesOwn.never rfl (pi_zipK (K := K) rfl (by rfl) T.b_zip (pa_cons (pv 0) (pa_cons (pv 1) pa_nil))) (pg_tup rfl (pgs_cons (pg_name (i := 5) sc_sum_of_parts.nd rfl (.inl rfl)) (pgs_cons (pg_name (i := 6) sc_sum_of_parts.nd rfl (.inl rfl)) pgs_nil))) (pss_cons (ps_set (i := 2) sc_sum_of_parts.nd rfl (.inl rfl) (pe_op op_add (pe_op op_mul (pv 2) (pv 6)) (pe_op op_mul (pv 5) (pv 3)))) (pss_one (ps_set (i := 3) sc_sum_of_parts.nd rfl (.inl rfl) (pe_op op_mul (pv 3) (pv 6)))))) (pss_cons (ps_set (i := 4) sc_sum_of_parts.nd rfl (.inl rfl) (pe_callBfun cr_gcd (by rfl) T.m_gcd (pa_cons (pv 2) (pa_cons (pv 3) pa_nil)))) (pss_one (ps_ret (pe_tup (pa_cons (pe_op op_fdivW (pv 2) (pv 4)) (pa_cons (pe_op op_fdivW (pv 3) (pv 4)) pa_nil))))))))), fun os Pp h => ?_⟩)
  · obtain ⟨ds, d, rfl, ⟨ms, rfl, hg, rfl⟩, q⟩ := h
    rfl
  · obtain ⟨ds, d, rfl, ⟨ms, rfl, hg, rfl⟩, q⟩ := h
    show SvP K E0 _ [some (.d (.lst (List.replicate ms.length (.int 1)))), some (.d (.tup (ms.map Dat.int))), none, none, none, none, none] _
    walk_at "dls"
    refine sv_for (ws := [5] ++ ([6] ++ [])) ?_
    refine iv_zip ?_
    walk_at "dls"
    refine ⟨_, _, _, _, _, _, rfl, rfl, rfl, ?_⟩
    rw [zipD_ones]
    refine loop_fold (fun m => .tup [.int 1, .int m]) tbF (fun p => [some (.d (.lst (List.replicate ms.length (.int 1)))), some (.d (.tup (ms.map Dat.int))), some (.d (.int p.1)), some (.d (.int p.2)), none, none, none]) (0, 1) ms rfl (fun i m b hi hb => ?_) ?_
    · have hm := hg.2.2 m (List.mem_of_getElem? hi)
      have c : ∀ x : Int, CMul x m := fun x => .inr (by omega)
      refine gv_tup rfl (gs_cons (gv_name (Nat.le_of_ble_eq_true rfl) (gs_cons (gv_name (Nat.le_of_ble_eq_true rfl) (gs_nil ?_)))))
      walk_at "dls"
      refine ⟨c _, ?_⟩
      walk_at "dls"
      refine ⟨Or.inl ⟨by decide, by decide⟩, ?_⟩
      walk_at "dls"
      refine ⟨c _, ?_⟩
      walk_at "dls"
      refine onT_nx (.cons (.cons (.cons (.cons (.skip (.skip (.skip .nil))))))) ?_
      rw [Int.one_mul]
      rfl
    · obtain ⟨c1, c2⟩ := good_gcd hg
      walk_at "dls"
      refine ev_tup (ds := []) ?_
      walk_at "dls"
      refine ⟨⟨c1, c2⟩, ?_⟩
      walk_at "dls"
      refine ⟨⟨c1, c2⟩, ?_⟩
      walk_at "dls"
      refine ⟨[.int (shT ms), .int (shB ms)], rfl, Nat.le_of_ble_eq_true rfl, ?_⟩
      walk_at "dls"
      walk_at "dlr"
      exact q

end
end K23

namespace K23
open PySem L2 Evl DL
local macro_rules | `(tactic| walk_at "dl") => `(tactic| first
  | with_reducible refine bnd_ok ?_ | with_reducible refine bndS_ok ?_ | with_reducible refine onE_ok ?_ | with_reducible refine seq_nx ?_ | with_reducible refine seq_rt ?_ | with_reducible refine seq_bk ?_ | with_reducible refine seq_ct ?_ | with_reducible refine onT_rt ?_ | with_reducible refine onT_bk ?_ | with_reducible refine resS_nx ?_ | with_reducible refine resS_rt ?_
  | refine ev_v rfl ?_ | refine ev_l rfl ?_ | with_reducible refine ev_i ?_ | with_reducible refine ev_n ?_ | with_reducible refine ev_b ?_ | with_reducible refine ev_s ?_
  | with_reducible refine ev_oZ0 ?_ | with_reducible refine ev_oB0 ?_ | with_reducible refine ev_oZ ?_ | with_reducible refine ev_neg ?_ | with_reducible refine ev_neI ?_ | with_reducible refine ev_eqI ?_ | with_reducible refine ev_isN ?_ | with_reducible refine ev_notN ?_ | with_reducible refine ev_chain ?_
  | with_reducible refine ev_andV ?_ | with_reducible refine ev_orV ?_ | with_reducible refine ev_notV ?_ | with_reducible refine ev_if ?_
  | with_reducible refine tv_test ?_ | with_reducible refine tv_B ?_ | with_reducible refine tv_and ?_ | with_reducible refine tv_or ?_ | with_reducible refine tv_not ?_ | with_reducible refine tv_yes ?_
  | with_reducible refine ev_isiInt ?_ | with_reducible refine ev_isiBool ?_ | with_reducible refine ev_isiSeq ?_
  | with_reducible refine av_cons ?_ | with_reducible refine av_nil ?_
  | with_reducible refine ev_pure ?_ | with_reducible refine ev_gcd ?_ | with_reducible refine ev_abs ?_ | with_reducible refine ev_int1 ?_
  | (with_reducible refine DL.ev_len ?_; refine av_cons ?_; refine ev_v rfl ?_; refine bnd_ok ?_; refine av_nil ?_; refine ⟨_, _, _, rfl, by first | rfl | assumption, ?_⟩)
  | with_reducible refine ev_fldD ?_ | with_reducible refine ev_ixS ?_
  | with_reducible refine sv_seq ?_ | with_reducible refine sv_next ?_ | with_reducible refine sv_brk ?_ | with_reducible refine sv_cont ?_ | with_reducible refine sv_ret ?_ | with_reducible refine sv_retN ?_ | with_reducible refine sv_if ?_ | with_reducible refine sv_drop ?_
  | with_reducible refine sv_asg ?_
  | refine ⟨_, rfl, fun hb => ?_, fun hb => ?_⟩
  | refine ⟨_, _, rfl, rfl, fun hb => ?_, fun hb => ?_⟩
  | refine ⟨_, _, rfl, rfl, ?_⟩
  | refine ⟨_, _, _, _, rfl, rfl, rfl, ?_⟩
  | refine ⟨_, rfl, ?_⟩ | refine ⟨_, _, rfl, ?_⟩
  | refine And.intro rfl ?_ | refine And.intro (Nat.le_of_ble_eq_true rfl) ?_ | refine And.intro (by assumption) ?_)
local macro_rules | `(tactic| walk_at "dls") => `(tactic| repeat (walk_at "dl"; all_goals try (first | (exact (nomatch ‹false = true›)) | (exact (nomatch ‹true = false›)))))
local macro_rules | `(tactic| walk_at "dla") => `(tactic| repeat' (first | (exact (nomatch ‹false = true›)) | (exact (nomatch ‹true = false›)) | walk_at "dl"))
local macro_rules | `(tactic| walk_at "dlr") => `(tactic| (refine ret_rt (pms_d _ _ (Nat.le_of_ble_eq_true rfl)) ?_))
local macro_rules | `(tactic| walk_at "dlt") => `(tactic| first | walk_at "dl" | with_reducible refine ev_tup2 ?_ | with_reducible refine ev_tup3 ?_)
local macro_rules | `(tactic| walk_at "dlts") => `(tactic| repeat walk_at "dlt")
section
variable {P : Program} {w : World} {K : PySem.W.Frag} [HasTabs K] {mg : Str → Option Value} {base : Heap} {CH CD : Addr}
abbrev s_share : Stmt := topS 23
abbrev N_share : List Str := ["hands"]
theorem sc_share : FnScope N_share ["hands"] (defScope s_share) := ⟨rfl, rfl, rfl, by decide +kernel, rfl, by decide +kernel, by decide +kernel⟩
def R_share (CH : Addr) : List Dat → Dat → Prop := fun ds d => ∃ ms, ds = [hObj CH ms] ∧ Good ms ∧ d = .tup [.int (shT ms), .int (shB ms)]
theorem ok_share (T : Txt mg) (LH : ClHands K CH) (O_sum_of_parts : Ok P w K mg base 1 "sum_of_parts" ["tops", "bottoms"] (pureR R_sum_of_parts)) (F : Dfn K mg "share" "share" s_share ["hands"]) : Ok P w K mg base 2 "share" ["hands"] (pureR (R_share CH)) := by
  refine F.ok sc_share (by decide) (fun os Pp h => ?_) pureR_noex (fun f cdv A outer s H E hr => ⟨_, (pss_one (ps_ret (pe_fn O_sum_of_parts ⟨rfl, rfl, rfl, rfl, rfl⟩ (hr.mono (by decide)) rfl (pa_cons (pe_op op_rep (pe_lst (pa_cons pe_int pa_nil)) (pe_fldK (K := K) rfl (pv 0) rfl)) (pa_cons (pe_fldK (K := K) rfl (pv 0) rfl) pa_nil))))), fun os Pp h => ?_⟩)
  · obtain ⟨ds, d, rfl, ⟨ms, rfl, hg, rfl⟩, q⟩ := h
    rfl
  · obtain ⟨ds, d, rfl, ⟨ms, rfl, hg, rfl⟩, q⟩ := h
    show SvP K E0 _ [some (.d (hObj CH ms))] _
    refine sv_ret ?_
    refine ev_pure ?_
    refine av_cons ?_
    refine DL.ev_rep ?_
    refine DL.ev_lst (av_cons (ev_i (bnd_ok (av_nil ⟨[.int 1], rfl, Nat.le_of_ble_eq_true rfl, ?_⟩))))
    refine bnd_ok (ev_fldD (ev_v rfl (bnd_ok ⟨_, _, _, rfl, LH.c, LH.n, rfl, ?_⟩)))
    refine bnd_ok ⟨_, _, rfl, rfl, by omega, by have := hg.2.1; omega, ?_⟩
    rw [Int.toNat_natCast]
    refine bnd_ok (av_cons (ev_fldD (ev_v rfl (bnd_ok ⟨_, _, _, rfl, LH.c, LH.m, rfl, ?_⟩))))
    refine bnd_ok (av_nil ?_)
    refine ⟨[.lst (List.replicate ms.length (.int 1)), .tup (ms.map Dat.int)], _, rfl, ⟨ms, rfl, hg, rfl⟩, ?_⟩
    refine bndS_ok ?_
    walk_at "dlr"
    exact q

end
end K23

namespace K23
open PySem L2 Evl DL
local macro_rules | `(tactic| walk_at "dl") => `(tactic| first
  | with_reducible refine bnd_ok ?_ | with_reducible refine bndS_ok ?_ | with_reducible refine onE_ok ?_ | with_reducible refine seq_nx ?_ | with_reducible refine seq_rt ?_ | with_reducible refine seq_bk ?_ | with_reducible refine seq_ct ?_ | with_reducible refine onT_rt ?_ | with_reducible refine onT_bk ?_ | with_reducible refine resS_nx ?_ | with_reducible refine resS_rt ?_
  | refine ev_v rfl ?_ | refine ev_l rfl ?_ | with_reducible refine ev_i ?_ | with_reducible refine ev_n ?_ | with_reducible refine ev_b ?_ | with_reducible refine ev_s ?_
  | with_reducible refine ev_oZ0 ?_ | with_reducible refine ev_oB0 ?_ | with_reducible refine ev_oZ ?_ | with_reducible refine ev_neg ?_ | with_reducible refine ev_neI ?_ | with_reducible refine ev_eqI ?_ | with_reducible refine ev_isN ?_ | with_reducible refine ev_notN ?_ | with_reducible refine ev_chain ?_
  | with_reducible refine ev_andV ?_ | with_reducible refine ev_orV ?_ | with_reducible refine ev_notV ?_ | with_reducible refine ev_if ?_
  | with_reducible refine tv_test ?_ | with_reducible refine tv_B ?_ | with_reducible refine tv_and ?_ | with_reducible refine tv_or ?_ | with_reducible refine tv_not ?_ | with_reducible refine tv_yes ?_
  | with_reducible refine ev_isiInt ?_ | with_reducible refine ev_isiBool ?_ | with_reducible refine ev_isiSeq ?_
  | with_reducible refine av_cons ?_ | with_reducible refine av_nil ?_
  | with_reducible refine ev_pure ?_ | with_reducible refine ev_gcd ?_ | with_reducible refine ev_abs ?_ | with_reducible refine ev_int1 ?_
  | (with_reducible refine DL.ev_len ?_; refine av_cons ?_; refine ev_v rfl ?_; refine bnd_ok ?_; refine av_nil ?_; refine ⟨_, _, _, rfl, by first | rfl | assumption, ?_⟩)
  | with_reducible refine ev_fldD ?_ | with_reducible refine ev_ixS ?_
  | with_reducible refine sv_seq ?_ | with_reducible refine sv_next ?_ | with_reducible refine sv_brk ?_ | with_reducible refine sv_cont ?_ | with_reducible refine sv_ret ?_ | with_reducible refine sv_retN ?_ | with_reducible refine sv_if ?_ | with_reducible refine sv_drop ?_
  | with_reducible refine sv_asg ?_
  | refine ⟨_, rfl, fun hb => ?_, fun hb => ?_⟩
  | refine ⟨_, _, rfl, rfl, fun hb => ?_, fun hb => ?_⟩
  | refine ⟨_, _, rfl, rfl, ?_⟩
  | refine ⟨_, _, _, _, rfl, rfl, rfl, ?_⟩
  | refine ⟨_, rfl, ?_⟩ | refine ⟨_, _, rfl, ?_⟩
  | refine And.intro rfl ?_ | refine And.intro (Nat.le_of_ble_eq_true rfl) ?_ | refine And.intro (by assumption) ?_)
local macro_rules | `(tactic| walk_at "dls") => `(tactic| repeat (walk_at "dl"; all_goals try (first | (exact (nomatch ‹false = true›)) | (exact (nomatch ‹true = false›)))))
local macro_rules | `(tactic| walk_at "dla") => `(tactic| repeat' (first | (exact (nomatch ‹false = true›)) | (exact (nomatch ‹true = false›)) | walk_at "dl"))
local macro_rules | `(tactic| walk_at "dlr") => `(tactic| (refine ret_rt (pms_d _ _ (Nat.le_of_ble_eq_true rfl)) ?_))
local macro_rules | `(tactic| walk_at "dlt") => `(tactic| first | walk_at "dl" | with_reducible refine ev_tup2 ?_ | with_reducible refine ev_tup3 ?_)
local macro_rules | `(tactic| walk_at "dlts") => `(tactic| repeat walk_at "dlt")
section
variable {P : Program} {w : World} {K : PySem.W.Frag} [HasTabs K] {mg : Str → Option Value} {base : Heap} {CH CD : Addr}
abbrev s_common_multiple : Stmt := topS 27
abbrev N_common_multiple : List Str := ["hands", "multiple", "marks"]
theorem sc_common_multiple : FnScope N_common_multiple ["hands"] (defScope s_common_multiple) := ⟨rfl, rfl, rfl, by decide +kernel, rfl, by decide +kernel, by decide +kernel⟩
def lcF (a m : Int) : Int := ((Nat.lcm a.natAbs m.natAbs : Nat) : Int)
def lcI (ms : List Int) : Int := ms.foldl lcF 1
theorem lc_bound : ∀ (ms : List Int) (a : Int), (∀ m ∈ ms, 1 ≤ m ∧ m ≤ 60) → 0 < a → 0 < ms.foldl lcF a ∧ ms.foldl lcF a ≤ a * 60 ^ ms.length
  | [], p, _, h => by
    refine ⟨h, ?_⟩
    show p ≤ p * 60 ^ 0
    omega
  | m :: ms, p, g, h => by
    have hm := g m List.mem_cons_self
    have hp : 0 < p.natAbs := by omega
    have hmm : 0 < m.natAbs := by omega
    have h2 : 0 < Nat.lcm p.natAbs m.natAbs := Nat.lcm_pos hp hmm
    have h3 : Nat.lcm p.natAbs m.natAbs ≤ p.natAbs * m.natAbs := Nat.le_of_dvd (Nat.mul_pos hp hmm) (Nat.lcm_dvd (Nat.dvd_mul_right _ _) (Nat.dvd_mul_left _ _))
    have h4 : 0 < lcF p m := by unfold lcF; omega
    obtain ⟨i1, i2⟩ := lc_bound ms (lcF p m) (fun x hx => g x (List.mem_cons_of_mem _ hx)) h4
    refine ⟨i1, Int.le_trans i2 ?_⟩
    show lcF p m * 60 ^ ms.length ≤ p * 60 ^ (ms.length + 1)
    have e : (60 : Int) ^ (ms.length + 1) = 60 * 60 ^ ms.length := by rw [Int.pow_succ]; exact Int.mul_comm _ _
    rw [e, ← Int.mul_assoc]
    refine Int.mul_le_mul_of_nonneg_right ?_ (Int.le_of_lt (Int.pow_pos (by omega)))
    have h5 : lcF p m ≤ p * m := by
      have : ((p.natAbs * m.natAbs : Nat) : Int) = p * m := by
        rw [Int.natCast_mul, Int.natAbs_of_nonneg (by omega), Int.natAbs_of_nonneg (by omega)]
      unfold lcF
      rw [← this]
      exact_mod_cast h3
    exact Int.le_trans h5 (Int.mul_le_mul_of_nonneg_left hm.2 (by omega))
theorem good_take {ms : List Int} (g : Good ms) (i : Nat) : ∀ m ∈ ms.take i, 1 ≤ m ∧ m ≤ 60 := fun m h => g.2.2 m (List.mem_of_mem_take h)
theorem lc_good {ms : List Int} (g : Good ms) (i : Nat) : 0 < (ms.take i).foldl lcF 1 ∧ (ms.take i).foldl lcF 1 ≤ 60 ^ 8 := by
  obtain ⟨h1, h2⟩ := lc_bound (ms.take i) 1 (good_take g i) (by decide)
  refine ⟨h1, Int.le_trans h2 ?_⟩
  rw [Int.one_mul]
  have : (60 : Nat) ^ (ms.take i).length ≤ 60 ^ 8 := Nat.pow_le_pow_right (by decide) (by rw [List.length_take]; have := g.2.1; omega)
  exact_mod_cast this
def R_common_multiple (CH : Addr) : List Dat → Dat → Prop := fun ds d => ∃ ms, ds = [hObj CH ms] ∧ Good ms ∧ d = .int (lcI ms)
theorem ok_common_multiple (T : Txt mg) (LH : ClHands K CH) (F : Dfn K mg "common_multiple" "common_multiple" s_common_multiple ["hands"]) : Ok P w K mg base 1 "common_multiple" ["hands"] (pureR (R_common_multiple CH)) := by
  refine F.ok sc_common_multiple (by decide) (fun os Pp h => ?_) pureR_noex (fun f cdv A outer s H E hr => ⟨_, (pss_cons (ps_set (i := 1) sc_common_multiple.nd rfl (.inl rfl) pe_int) (pss_cons (ps_for PassesOwn.never rfl (pi_anyK (K := K) rfl (pe_fldK (K := K) rfl (pv 0) rfl)) (pg_name (i := 2) sc_common_multiple.nd rfl (.inl rfl)) (pss_one (ps_set (i := 1) sc_common_multiple.nd rfl (.inl rfl) (pe_callBfun cr_lcm (by rfl) T.m_lcm (pa_cons (pv 1) (pa_cons (pv 2) pa_nil)))))) (pss_one (ps_ret (pv 1))))), fun os Pp h => ?_⟩)
  · obtain ⟨ds, d, rfl, ⟨ms, rfl, hg, rfl⟩, q⟩ := h
    rfl
  · obtain ⟨ds, d, rfl, ⟨ms, rfl, hg, rfl⟩, q⟩ := h
    show SvP K E0 _ [some (.d (hObj CH ms)), none, none] _
    walk_at "dls"
    refine sv_for (ws := [2]) ?_
    refine iv_any ?_
    walk_at "dls"
    refine ⟨_, _, _, rfl, LH.c, LH.m, rfl, ?_⟩
    walk_at "dls"
    refine ⟨_, _, _, rfl, rfl, ?_⟩
    refine loop_fold Dat.int lcF (fun p => [some (.d (hObj CH ms)), some (.d (.int p)), none]) 1 ms rfl (fun i m b hi hb => ?_) ?_
    · have hm := hg.2.2 m (List.mem_of_getElem? hi)
      obtain ⟨b1, b2⟩ := lc_good hg i
      rw [← hb] at b1 b2
      refine gv_name (Nat.le_of_ble_eq_true rfl) ?_
      walk_at "dls"
      refine DL.ev_lcm ?_
      walk_at "dls"
      refine ⟨by omega, by omega, ?_⟩
      walk_at "dls"
      exact onT_nx (.cons (.cons (.skip .nil))) rfl
    · walk_at "dls"
      walk_at "dlr"
      exact q

end
end K23

namespace K23
open PySem L2 Evl DL
local macro_rules | `(tactic| walk_at "dl") => `(tactic| first
  | with_reducible refine bnd_ok ?_ | with_reducible refine bndS_ok ?_ | with_reducible refine onE_ok ?_ | with_reducible refine seq_nx ?_ | with_reducible refine seq_rt ?_ | with_reducible refine seq_bk ?_ | with_reducible refine seq_ct ?_ | with_reducible refine onT_rt ?_ | with_reducible refine onT_bk ?_ | with_reducible refine resS_nx ?_ | with_reducible refine resS_rt ?_
  | refine ev_v rfl ?_ | refine ev_l rfl ?_ | with_reducible refine ev_i ?_ | with_reducible refine ev_n ?_ | with_reducible refine ev_b ?_ | with_reducible refine ev_s ?_
  | with_reducible refine ev_oZ0 ?_ | with_reducible refine ev_oB0 ?_ | with_reducible refine ev_oZ ?_ | with_reducible refine ev_neg ?_ | with_reducible refine ev_neI ?_ | with_reducible refine ev_eqI ?_ | with_reducible refine ev_isN ?_ | with_reducible refine ev_notN ?_ | with_reducible refine ev_chain ?_
  | with_reducible refine ev_andV ?_ | with_reducible refine ev_orV ?_ | with_reducible refine ev_notV ?_ | with_reducible refine ev_if ?_
  | with_reducible refine tv_test ?_ | with_reducible refine tv_B ?_ | with_reducible refine tv_and ?_ | with_reducible refine tv_or ?_ | with_reducible refine tv_not ?_ | with_reducible refine tv_yes ?_
  | with_reducible refine ev_isiInt ?_ | with_reducible refine ev_isiBool ?_ | with_reducible refine ev_isiSeq ?_
  | with_reducible refine av_cons ?_ | with_reducible refine av_nil ?_
  | with_reducible refine ev_pure ?_ | with_reducible refine ev_gcd ?_ | with_reducible refine ev_abs ?_ | with_reducible refine ev_int1 ?_
  | (with_reducible refine DL.ev_len ?_; refine av_cons ?_; refine ev_v rfl ?_; refine bnd_ok ?_; refine av_nil ?_; refine ⟨_, _, _, rfl, by first | rfl | assumption, ?_⟩)
  | with_reducible refine ev_fldD ?_ | with_reducible refine ev_ixS ?_
  | with_reducible refine sv_seq ?_ | with_reducible refine sv_next ?_ | with_reducible refine sv_brk ?_ | with_reducible refine sv_cont ?_ | with_reducible refine sv_ret ?_ | with_reducible refine sv_retN ?_ | with_reducible refine sv_if ?_ | with_reducible refine sv_drop ?_
  | with_reducible refine sv_asg ?_
  | refine ⟨_, rfl, fun hb => ?_, fun hb => ?_⟩
  | refine ⟨_, _, rfl, rfl, fun hb => ?_, fun hb => ?_⟩
  | refine ⟨_, _, rfl, rfl, ?_⟩
  | refine ⟨_, _, _, _, rfl, rfl, rfl, ?_⟩
  | refine ⟨_, rfl, ?_⟩ | refine ⟨_, _, rfl, ?_⟩
  | refine And.intro rfl ?_ | refine And.intro (Nat.le_of_ble_eq_true rfl) ?_ | refine And.intro (by assumption) ?_)
local macro_rules | `(tactic| walk_at "dls") => `(tactic| repeat (walk_at "dl"; all_goals try (first | (exact (nomatch ‹false = true›)) | (exact (nomatch ‹true = false›)))))
local macro_rules | `(tactic| walk_at "dla") => `(tactic| repeat' (first | (exact (nomatch ‹false = true›)) | (exact (nomatch ‹true = false›)) | walk_at "dl"))
local macro_rules | `(tactic| walk_at "dlr") => `(tactic| (refine ret_rt (pms_d _ _ (Nat.le_of_ble_eq_true rfl)) ?_))
local macro_rules | `(tactic| walk_at "dlt") => `(tactic| first | walk_at "dl" | with_reducible refine ev_tup2 ?_ | with_reducible refine ev_tup3 ?_)
local macro_rules | `(tactic| walk_at "dlts") => `(tactic| repeat walk_at "dlt")
section
variable {P : Program} {w : World} {K : PySem.W.Frag} [HasTabs K] {mg : Str → Option Value} {base : Heap} {CH CD : Addr}
end
structure ClRates (K : PySem.W.Frag) (CT : Addr) : Prop where
  c : Cls K CT
  h : NoAttr K CT "hands"
  a : NoAttr K CT "ahead"
  s : NoAttr K CT "spans"
  b : NoAttr K CT "behind"
section
variable {P : Program} {w : World} {K : PySem.W.Frag} [HasTabs K] {mg : Str → Option Value} {base : Heap} {CH CD CT : Addr}

end
end K23

namespace K23
open PySem L2 Evl DL
local macro_rules | `(tactic| walk_at "dl") => `(tactic| first
  | with_reducible refine bnd_ok ?_ | with_reducible refine bndS_ok ?_ | with_reducible refine onE_ok ?_ | with_reducible refine seq_nx ?_ | with_reducible refine seq_rt ?_ | with_reducible refine seq_bk ?_ | with_reducible refine seq_ct ?_ | with_reducible refine onT_rt ?_ | with_reducible refine onT_bk ?_ | with_reducible refine resS_nx ?_ | with_reducible refine resS_rt ?_
  | refine ev_v rfl ?_ | refine ev_l rfl ?_ | with_reducible refine ev_i ?_ | with_reducible refine ev_n ?_ | with_reducible refine ev_b ?_ | with_reducible refine ev_s ?_
  | with_reducible refine ev_oZ0 ?_ | with_reducible refine ev_oB0 ?_ | with_reducible refine ev_oZ ?_ | with_reducible refine ev_neg ?_ | with_reducible refine ev_neI ?_ | with_reducible refine ev_eqI ?_ | with_reducible refine ev_isN ?_ | with_reducible refine ev_notN ?_ | with_reducible refine ev_chain ?_
  | with_reducible refine ev_andV ?_ | with_reducible refine ev_orV ?_ | with_reducible refine ev_notV ?_ | with_reducible refine ev_if ?_
  | with_reducible refine tv_test ?_ | with_reducible refine tv_B ?_ | with_reducible refine tv_and ?_ | with_reducible refine tv_or ?_ | with_reducible refine tv_not ?_ | with_reducible refine tv_yes ?_
  | with_reducible refine ev_isiInt ?_ | with_reducible refine ev_isiBool ?_ | with_reducible refine ev_isiSeq ?_
  | with_reducible refine av_cons ?_ | with_reducible refine av_nil ?_
  | with_reducible refine ev_pure ?_ | with_reducible refine ev_gcd ?_ | with_reducible refine ev_abs ?_ | with_reducible refine ev_int1 ?_
  | (with_reducible refine DL.ev_len ?_; refine av_cons ?_; refine ev_v rfl ?_; refine bnd_ok ?_; refine av_nil ?_; refine ⟨_, _, _, rfl, by first | rfl | assumption, ?_⟩)
  | with_reducible refine ev_fldD ?_ | with_reducible refine ev_ixS ?_
  | with_reducible refine sv_seq ?_ | with_reducible refine sv_next ?_ | with_reducible refine sv_brk ?_ | with_reducible refine sv_cont ?_ | with_reducible refine sv_ret ?_ | with_reducible refine sv_retN ?_ | with_reducible refine sv_if ?_ | with_reducible refine sv_drop ?_
  | with_reducible refine sv_asg ?_
  | refine ⟨_, rfl, fun hb => ?_, fun hb => ?_⟩
  | refine ⟨_, _, rfl, rfl, fun hb => ?_, fun hb => ?_⟩
  | refine ⟨_, _, rfl, rfl, ?_⟩
  | refine ⟨_, _, _, _, rfl, rfl, rfl, ?_⟩
  | refine ⟨_, rfl, ?_⟩ | refine ⟨_, _, rfl, ?_⟩
  | refine And.intro rfl ?_ | refine And.intro (Nat.le_of_ble_eq_true rfl) ?_ | refine And.intro (by assumption) ?_)
local macro_rules | `(tactic| walk_at "dls") => `(tactic| repeat (walk_at "dl"; all_goals try (first | (exact (nomatch ‹false = true›)) | (exact (nomatch ‹true = false›)))))
local macro_rules | `(tactic| walk_at "dla") => `(tactic| repeat' (first | (exact (nomatch ‹false = true›)) | (exact (nomatch ‹true = false›)) | walk_at "dl"))
local macro_rules | `(tactic| walk_at "dlr") => `(tactic| (refine ret_rt (pms_d _ _ (Nat.le_of_ble_eq_true rfl)) ?_))
local macro_rules | `(tactic| walk_at "dlt") => `(tactic| first | walk_at "dl" | with_reducible refine ev_tup2 ?_ | with_reducible refine ev_tup3 ?_)
local macro_rules | `(tactic| walk_at "dlts") => `(tactic| repeat walk_at "dlt")
section
variable {P : Program} {w : World} {K : PySem.W.Frag} [HasTabs K] {mg : Str → Option Value} {base : Heap} {CH CD : Addr}
theorem lcI_dvd : ∀ (ms : List Int) (a : Int), (∀ m ∈ ms, 1 ≤ m) → 0 < a → a ∣ ms.foldl lcF a ∧ ∀ m ∈ ms, m ∣ ms.foldl lcF a
  | [], a, _, _ => ⟨Int.dvd_refl a, fun m h => (List.not_mem_nil h).elim⟩
  | x :: ms, a, g, ha => by
    have hx := g x List.mem_cons_self
    have e1 : a ∣ lcF a x := by
      unfold lcF
      exact Int.natAbs_dvd.mp (Int.natCast_dvd_natCast.mpr (Nat.dvd_lcm_left _ _))
    have e2 : x ∣ lcF a x := by
      unfold lcF
      exact Int.natAbs_dvd.mp (Int.natCast_dvd_natCast.mpr (Nat.dvd_lcm_right _ _))
    have hp : 0 < lcF a x := by
      unfold lcF
      have := Nat.lcm_pos (show 0 < a.natAbs by omega) (show 0 < x.natAbs by omega)
      omega
    obtain ⟨h1, h2⟩ := lcI_dvd ms (lcF a x) (fun m h => g m (List.mem_cons_of_mem _ h)) hp
    refine ⟨Int.dvd_trans e1 h1, fun m h => ?_⟩
    rcases List.mem_cons.mp h with z | z
    · subst z; exact Int.dvd_trans e2 h1
    · exact h2 m z
theorem lcI_pos {ms : List Int} (g : Good ms) : 0 < lcI ms := by
  have := (lc_good g ms.length).1
  rw [List.take_length] at this
  exact this
theorem lcI_le {ms : List Int} (g : Good ms) : lcI ms ≤ 60 ^ 8 := by
  have := (lc_good g ms.length).2
  rw [List.take_length] at this
  exact this
def ptsI (ms : List Int) : List Int := ms.map fun m => lcI ms / m
def whI (ms : List Int) : Int := (ptsI ms).sum
def fsI (ms : List Int) (h : Nat) : Int := ((ptsI ms).take h).sum
/-- what a hand's part is made of -/
structure Part (ms : List Int) (h : Nat) (m w : Int) : Prop where
  hm : ms[h]? = some m
  m1 : 1 ≤ m
  m2 : m ≤ 60
  w1 : 1 ≤ w
  e : m * w = lcI ms
  sp : (spansI (ptsI ms))[h]? = some (fsI ms h, fsI ms h + w)
  f0 : 0 ≤ fsI ms h
  f1 : fsI ms h + w ≤ whI ms
theorem pts_pos {ms : List Int} (g : Good ms) : ∀ l ∈ ptsI ms, 1 ≤ l := fun l hl => by
  obtain ⟨m, hm, rfl⟩ := List.mem_map.mp hl
  have h1 := g.2.2 m hm
  have hd := (lcI_dvd ms 1 (fun x hx => (g.2.2 x hx).1) (by decide)).2 m hm
  have hp := lcI_pos g
  obtain ⟨c, hc⟩ := hd
  have hc : lcI ms = m * c := hc
  rw [hc, Int.mul_ediv_cancel_left _ (by omega)]
  rcases Int.lt_or_le 0 c with z | z
  · omega
  · have : m * c ≤ 0 := Int.mul_nonpos_of_nonneg_of_nonpos (by omega) z
    omega
theorem Good.part {ms : List Int} (g : Good ms) {h : Nat} (hh : h < ms.length) : ∃ m w, Part ms h m w := by
  have hl : h < (ptsI ms).length := by unfold ptsI; rw [List.length_map]; exact hh
  have hm := List.getElem?_eq_getElem hh
  have h1 := g.2.2 _ (List.getElem_mem hh)
  have hd := (lcI_dvd ms 1 (fun x hx => (g.2.2 x hx).1) (by decide)).2 _ (List.getElem_mem hh)
  have hs : (ptsI ms)[h]? = some (lcI ms / ms[h]) := by
    unfold ptsI
    rw [List.getElem?_map, hm]
    rfl
  have nn : ∀ l ∈ ptsI ms, 0 ≤ l := fun l hl => by have := pts_pos g l hl; omega
  have t := sum_take_le nn h
  have t2 := sum_take_le nn (h + 1)
  have e2 : ((ptsI ms).take (h + 1)).sum = fsI ms h + lcI ms / ms[h] := by
    rw [List.take_add_one, hs, List.sum_append]
    show _ + (_ + 0) = _
    rw [Int.add_zero]
    rfl
  refine ⟨_, _, hm, h1.1, h1.2, pts_pos g _ (List.mem_of_getElem? hs), Int.mul_ediv_cancel' hd, ?_, t.1, by rw [← e2]; exact t2.2⟩
  rw [spans_at hl, e2]
  rfl
def stepR (ms : List Int) (x : Int) (h : Nat) : Int := x / lcI ms * whI ms + fsI ms h + x % lcI ms / ms.getD h 1
theorem stepR_at {ms : List Int} {h : Nat} {m w x : Int} (p : Part ms h m w) : stepR ms x h = x / lcI ms * whI ms + fsI ms h + x % lcI ms / m := by
  unfold stepR
  rw [List.getD_eq_getElem?_getD, p.hm]
  rfl
/-- a deed and its way back -/
theorem stepR_back {ms : List Int} (g : Good ms) {h : Nat} {m w x : Int} (p : Part ms h m w) (h0 : 0 ≤ x) : stepR ms x h / whI ms = x / lcI ms ∧ stepR ms x h % whI ms = fsI ms h + x % lcI ms / m ∧ 0 ≤ x % lcI ms / m ∧ x % lcI ms / m < w ∧
    stepR ms x h / whI ms * lcI ms + (stepR ms x h % whI ms - fsI ms h) * m + x % m = x ∧ 0 ≤ stepR ms x h := by
  have hL := lcI_pos g
  have hm := p.m1
  have hw := p.w1
  have r0 : 0 ≤ x % lcI ms := Int.emod_nonneg _ (by omega)
  have r1 : x % lcI ms < lcI ms := Int.emod_lt_of_pos _ hL
  have q0 : 0 ≤ x % lcI ms / m := Int.ediv_nonneg r0 (by omega)
  have q1 : x % lcI ms / m < w := by
    refine Int.ediv_lt_of_lt_mul (by omega) ?_
    rw [Int.mul_comm, p.e]
    exact r1
  have hW : 0 < whI ms := by have := p.f0; have := p.f1; omega
  have e : stepR ms x h = (fsI ms h + x % lcI ms / m) + whI ms * (x / lcI ms) := by
    rw [stepR_at p, Int.mul_comm (whI ms)]
    omega
  have hlt : fsI ms h + x % lcI ms / m < whI ms := by have := p.f1; omega
  have d1 : stepR ms x h / whI ms = x / lcI ms := by
    rw [e, Int.add_mul_ediv_left _ _ (by omega), Int.ediv_eq_zero_of_lt (by have := p.f0; omega) hlt, Int.zero_add]
  have d2 : stepR ms x h % whI ms = fsI ms h + x % lcI ms / m := by
    rw [e, Int.add_mul_emod_self_left]
    exact Int.emod_eq_of_lt (by have := p.f0; omega) hlt
  refine ⟨d1, d2, q0, q1, ?_, ?_⟩
  · rw [d1, d2]
    have e3 : x % lcI ms % m = x % m := Int.emod_emod_of_dvd _ ⟨w, p.e.symm⟩
    have e4 := Int.mul_ediv_add_emod (x % lcI ms) m
    have e5 := Int.mul_ediv_add_emod x (lcI ms)
    rw [e3] at e4
    rw [show fsI ms h + x % lcI ms / m - fsI ms h = x % lcI ms / m by omega, Int.mul_comm (x / lcI ms), Int.mul_comm (x % lcI ms / m)]
    omega
  · rw [e]
    have := Int.mul_nonneg (Int.le_of_lt hW) (Int.ediv_nonneg h0 (Int.le_of_lt hL))
    have := p.f0
    omega
theorem stepR_mono {ms : List Int} (g : Good ms) {h : Nat} (hh : h < ms.length) {x y : Int} (h0 : 0 ≤ x) (hxy : x ≤ y) : stepR ms x h ≤ stepR ms y h := by
  obtain ⟨m, w, p⟩ := g.part hh
  have hL := lcI_pos g
  have hm := p.m1
  have b := stepR_back g p h0
  have c := stepR_back g p (show 0 ≤ y by omega)
  rw [stepR_at p, stepR_at p]
  have hq : x / lcI ms ≤ y / lcI ms := Int.ediv_le_ediv hL hxy
  rcases Int.lt_or_eq_of_le hq with z | z
  · have hW : 0 ≤ whI ms := by have := p.f0; have := p.f1; have := p.w1; omega
    have hmul : (x / lcI ms + 1) * whI ms ≤ y / lcI ms * whI ms := Int.mul_le_mul_of_nonneg_right (by omega) hW
    rw [Int.add_mul, Int.one_mul] at hmul
    have := p.f0
    have := p.f1
    have := b.2.2.2.1
    have := c.2.2.1
    omega
  · rw [z]
    have hr : x % lcI ms ≤ y % lcI ms := by
      have e1 := Int.mul_ediv_add_emod x (lcI ms)
      have e2 := Int.mul_ediv_add_emod y (lcI ms)
      rw [z] at e1
      omega
    have := Int.ediv_le_ediv (show 0 < m by omega) hr
    omega
theorem fs_mono {ms : List Int} (g : Good ms) {h k : Nat} (hk : h ≤ k) : fsI ms h ≤ fsI ms k := sum_take_mono (fun l hl => by have := pts_pos g l hl; omega) hk
/-- the last hand leads furthest -/
theorem stepR_last {ms : List Int} (g : Good ms) {h : Nat} (hh : h < ms.length) {x : Int} (h0 : 0 ≤ x) : stepR ms x h ≤ stepR ms x (ms.length - 1) := by
  obtain ⟨m, w, p⟩ := g.part hh
  have hl := g.1
  obtain ⟨m2, w2, p2⟩ := g.part (show ms.length - 1 < ms.length by omega)
  have b := stepR_back g p h0
  have c := stepR_back g p2 h0
  by_cases e : h = ms.length - 1
  · rw [e]
    exact Int.le_refl _
  · have e2 : fsI ms h + w ≤ fsI ms (ms.length - 1) := by
      have e3 : fsI ms (h + 1) = fsI ms h + w := by
        have q := p.sp
        have hl : h < (ptsI ms).length := by unfold ptsI; rw [List.length_map]; exact hh
        rw [spans_at hl] at q
        exact (Prod.mk.inj (Option.some.inj q)).2
      have := fs_mono g (show h + 1 ≤ ms.length - 1 by omega)
      omega
    rw [stepR_at p, stepR_at p2]
    have := b.2.2.2.1
    have := c.2.2.1
    omega
theorem stepR_nn {ms : List Int} (g : Good ms) {h : Nat} (hh : h < ms.length) {x : Int} (h0 : 0 ≤ x) : 0 ≤ stepR ms x h := by
  obtain ⟨m, w, p⟩ := g.part hh
  exact (stepR_back g p h0).2.2.2.2.2
theorem wh_span {ms : List Int} (g : Good ms) : (spansI (ptsI ms))[ms.length - 1]? = some (fsI ms (ms.length - 1), whI ms) := by
  have hl := g.1
  have h1 : ms.length - 1 < (ptsI ms).length := by unfold ptsI; rw [List.length_map]; omega
  have e : (ptsI ms).take (ms.length - 1 + 1) = ptsI ms := List.take_of_length_le (by unfold ptsI; rw [List.length_map]; omega)
  rw [spans_at h1, e]
  rfl

end
end K23

namespace K23
open PySem L2 Evl DL
local macro_rules | `(tactic| walk_at "dl") => `(tactic| first
  | with_reducible refine bnd_ok ?_ | with_reducible refine bndS_ok ?_ | with_reducible refine onE_ok ?_ | with_reducible refine seq_nx ?_ | with_reducible refine seq_rt ?_ | with_reducible refine seq_bk ?_ | with_reducible refine seq_ct ?_ | with_reducible refine onT_rt ?_ | with_reducible refine onT_bk ?_ | with_reducible refine resS_nx ?_ | with_reducible refine resS_rt ?_
  | refine ev_v rfl ?_ | refine ev_l rfl ?_ | with_reducible refine ev_i ?_ | with_reducible refine ev_n ?_ | with_reducible refine ev_b ?_ | with_reducible refine ev_s ?_
  | with_reducible refine ev_oZ0 ?_ | with_reducible refine ev_oB0 ?_ | with_reducible refine ev_oZ ?_ | with_reducible refine ev_neg ?_ | with_reducible refine ev_neI ?_ | with_reducible refine ev_eqI ?_ | with_reducible refine ev_isN ?_ | with_reducible refine ev_notN ?_ | with_reducible refine ev_chain ?_
  | with_reducible refine ev_andV ?_ | with_reducible refine ev_orV ?_ | with_reducible refine ev_notV ?_ | with_reducible refine ev_if ?_
  | with_reducible refine tv_test ?_ | with_reducible refine tv_B ?_ | with_reducible refine tv_and ?_ | with_reducible refine tv_or ?_ | with_reducible refine tv_not ?_ | with_reducible refine tv_yes ?_
  | with_reducible refine ev_isiInt ?_ | with_reducible refine ev_isiBool ?_ | with_reducible refine ev_isiSeq ?_
  | with_reducible refine av_cons ?_ | with_reducible refine av_nil ?_
  | with_reducible refine ev_pure ?_ | with_reducible refine ev_gcd ?_ | with_reducible refine ev_abs ?_ | with_reducible refine ev_int1 ?_
  | (with_reducible refine DL.ev_len ?_; refine av_cons ?_; refine ev_v rfl ?_; refine bnd_ok ?_; refine av_nil ?_; refine ⟨_, _, _, rfl, by first | rfl | assumption, ?_⟩)
  | with_reducible refine ev_fldD ?_ | with_reducible refine ev_ixS ?_
  | with_reducible refine sv_seq ?_ | with_reducible refine sv_next ?_ | with_reducible refine sv_brk ?_ | with_reducible refine sv_cont ?_ | with_reducible refine sv_ret ?_ | with_reducible refine sv_retN ?_ | with_reducible refine sv_if ?_ | with_reducible refine sv_drop ?_
  | with_reducible refine sv_asg ?_
  | refine ⟨_, rfl, fun hb => ?_, fun hb => ?_⟩
  | refine ⟨_, _, rfl, rfl, fun hb => ?_, fun hb => ?_⟩
  | refine ⟨_, _, rfl, rfl, ?_⟩
  | refine ⟨_, _, _, _, rfl, rfl, rfl, ?_⟩
  | refine ⟨_, rfl, ?_⟩ | refine ⟨_, _, rfl, ?_⟩
  | refine And.intro rfl ?_ | refine And.intro (Nat.le_of_ble_eq_true rfl) ?_ | refine And.intro (by assumption) ?_)
local macro_rules | `(tactic| walk_at "dls") => `(tactic| repeat (walk_at "dl"; all_goals try (first | (exact (nomatch ‹false = true›)) | (exact (nomatch ‹true = false›)))))
local macro_rules | `(tactic| walk_at "dla") => `(tactic| repeat' (first | (exact (nomatch ‹false = true›)) | (exact (nomatch ‹true = false›)) | walk_at "dl"))
local macro_rules | `(tactic| walk_at "dlr") => `(tactic| (refine ret_rt (pms_d _ _ (Nat.le_of_ble_eq_true rfl)) ?_))
local macro_rules | `(tactic| walk_at "dlt") => `(tactic| first | walk_at "dl" | with_reducible refine ev_tup2 ?_ | with_reducible refine ev_tup3 ?_)
local macro_rules | `(tactic| walk_at "dlts") => `(tactic| repeat walk_at "dlt")
section
variable {P : Program} {w : World} {K : PySem.W.Frag} [HasTabs K] {mg : Str → Option Value} {base : Heap} {CH CD : Addr}
abbrev rtFs (CH : Addr) (ms : List Int) : List (Str × Dat) := [("hands", hObj CH ms), ("ahead", .int (lcI ms)), ("spans", .tup ((spansI (ptsI ms)).map spD)), ("behind", .int (whI ms))]
abbrev rObj (CH CT : Addr) (ms : List Int) : Dat := .obj CT (rtFs CH ms)
/-- hands whose common multiple is not great -/
structure Sm (ms : List Int) : Prop where
  g : Good ms
  s : lcI ms ≤ 100000000
abbrev s_Rates___init__ : Stmt := inClass (topS 37) 0
abbrev N_Rates___init__ : List Str := ["self", "hands", "_", "marks"]
theorem sc_Rates___init__ : FnScope N_Rates___init__ ["self", "hands"] (defScope s_Rates___init__) := ⟨rfl, rfl, rfl, by decide +kernel, rfl, by decide +kernel, by decide +kernel⟩
theorem atR_last {xs : List Dat} {w : Dat} (h : xs[xs.length - 1]? = some w) : atI xs (-1) = some w := by
  have hj : xs.length - 1 < xs.length := (List.getElem?_eq_some_iff.mp h).1
  unfold atI
  rw [show ixN xs.length (-1) = some (xs.length - 1) by
    unfold ixN
    rw [if_neg (by omega), if_pos (by omega)]
    congr 1
    omega]
  exact h
theorem Sm.wh {ms : List Int} (S : Sm ms) : 0 < whI ms ∧ whI ms ≤ 800000000 := by
  have hl := S.g.2.1
  have h1 := S.g.1
  have hL := lcI_pos S.g
  have hle : ∀ l ∈ ptsI ms, l ≤ 100000000 := fun l hl => by
    obtain ⟨m, hm, rfl⟩ := List.mem_map.mp hl
    have := S.g.2.2 m hm
    have h3 := S.s
    have : lcI ms / m ≤ lcI ms := Int.ediv_le_self _ (by omega)
    omega
  have key : ∀ ls : List Int, (∀ l ∈ ls, 1 ≤ l ∧ l ≤ 100000000) → (ls.length : Int) ≤ ls.sum ∧ ls.sum ≤ 100000000 * ls.length := by
    intro ls
    induction ls with
    | nil => intro _; exact ⟨by simp, by simp⟩
    | cons l ls ih =>
      intro h
      have a := h l List.mem_cons_self
      have b := ih fun x hx => h x (List.mem_cons_of_mem _ hx)
      rw [List.sum_cons, List.length_cons]
      omega
  have k := key (ptsI ms) fun l hl => ⟨pts_pos S.g l hl, hle l hl⟩
  have e : (ptsI ms).length = ms.length := by unfold ptsI; rw [List.length_map]
  unfold whI
  rw [e] at k
  omega
def R_Rates (CH CT : Addr) : Pr := fun os Pp => ∃ (a : Addr) (ms : List Int), os = [.o a CT [], .d (hObj CH ms)] ∧ Sm ms ∧ Pp (.ok (.d .non)) [.o a CT (rtFs CH ms), .d (hObj CH ms)]
theorem R_Rates_noex {CT : Addr} (os : List Ow) (Pp : Re → List Ow → Prop) (h : R_Rates CH CT os Pp) : R_Rates CH CT os (fun r us => (match r with | .ok _ => True | .ex _ _ => False) ∧ Pp r us) := by
  obtain ⟨a, ms, h1, h2, q⟩ := h
  exact ⟨a, ms, h1, h2, trivial, q⟩
theorem R_Rates_mono {CT : Addr} (os : List Ow) (A B : Re → List Ow → Prop) (m : ∀ r os, A r os → B r os) (h : R_Rates CH CT os A) : R_Rates CH CT os B := by
  obtain ⟨a, ms, h1, h2, q⟩ := h
  exact ⟨a, ms, h1, h2, m _ _ q⟩
theorem ok_Rates {CT : Addr} (T : Txt mg) (LR : ClRates K CT) (LH : ClHands K CH) (O_common_multiple : Ok P w K mg base 1 "common_multiple" ["hands"] (pureR (R_common_multiple CH))) (O_spans_of : Ok P w K mg base 1 "spans_of" ["lengths"] (pureR R_spans_of)) (F : Cfn K mg "Rates" "Rates.__init__" s_Rates___init__ ["self", "hands"] CT) : OkC P w K mg base 2 "Rates" ["self", "hands"] CT (R_Rates CH CT) := by
  refine F.ok sc_Rates___init__ (by decide) (fun os Pp h => ?_) R_Rates_noex (fun f cdv A outer s H E hr => ⟨_, (pss_cons (ps_fldK (K := K) rfl (pv 0) (pv 1) rfl) (pss_cons (ps_fldK (K := K) rfl (pv 0) (pe_fn O_common_multiple ⟨rfl, rfl, rfl, rfl, rfl⟩ (hr.mono (by decide)) rfl (pa_cons (pv 1) pa_nil)) rfl) (pss_cons (ps_fldK (K := K) rfl (pv 0) (pe_fn O_spans_of ⟨rfl, rfl, rfl, rfl, rfl⟩ (hr.mono (by decide)) rfl (pa_cons (pe_lc (own := [("marks", 3)]) (g := gName 3) (tt := tYes) rfl sc_Rates___init__.nd (pi_anyK (K := K) rfl (pe_fldK (K := K) rfl (pv 1) rfl)) (blkOk_by (own := [("marks", 3)]) (N := N_Rates___init__) (sc := defScope s_Rates___init__) (by decide +kernel)) (fun _ _ _ _ _ => (pg_name (i := 3) sc_Rates___init__.nd rfl (.inl rfl))) (fun _ _ _ _ _ => pts_nil) (fun _ _ _ _ _ => (pe_op op_fdiv (pe_fldK (K := K) rfl (pv 0) rfl) (pv 3)))) pa_nil)) rfl) (pss_one (ps_asg (pe_ix (r := rIx K) ix_seq (pe_fldK (K := K) rfl (pv 0) rfl) (pe_un un_neg pe_int) (fun _ _ => rfl)) (pg_tup rfl (pgs_cons (pg_name (i := 2) sc_Rates___init__.nd rfl (.inl rfl)) (pgs_cons (pg_fldK (K := K) rfl (pv 0)) pgs_nil)))))))), fun os Pp h => ?_⟩)
  · obtain ⟨a, ms, rfl, hd, q⟩ := h
    rfl
  · obtain ⟨a, ms, rfl, hd, q⟩ := h
    have hg := hd.g
    have hl1 := hg.1
    show SvP K E0 _ [some (.o a CT []), some (.d (hObj CH ms)), none, none] _
    walk_at "dls"
    refine sv_fld ?_
    walk_at "dls"
    refine ⟨_, _, _, _, rfl, rfl, LR.c, LR.h, Nat.le_of_ble_eq_true rfl, ?_⟩
    walk_at "dls"
    refine sv_fld ?_
    walk_at "dls"
    refine ⟨[hObj CH ms], _, rfl, ⟨ms, rfl, hg, rfl⟩, ?_⟩
    walk_at "dls"
    refine ⟨_, _, _, _, rfl, rfl, LR.c, LR.a, Nat.le_of_ble_eq_true rfl, ?_⟩
    walk_at "dls"
    refine sv_fld ?_
    walk_at "dls"
    refine ev_lcM (ws := [3]) Dat.int (fun m => .int (lcI ms / m)) (by decide) ?_
    refine iv_any ?_
    walk_at "dls"
    refine ⟨_, _, _, rfl, LH.c, LH.m, rfl, ?_⟩
    walk_at "dls"
    refine ⟨_, _, _, rfl, rfl, ms, rfl, by have := hg.2.1; omega, fun m hm => ?_, ?_⟩
    · have := hg.2.2 m hm
      refine gv_name (Nat.le_of_ble_eq_true rfl) ⟨rfl, ?_⟩
      refine ev_oZ ?_
      refine ev_fldO ⟨_, _, _, _, rfl, LR.c, LR.a, rfl, ?_⟩
      walk_at "dls"
      refine ⟨⟨by omega, by omega⟩, ?_⟩
      exact ⟨rfl, rfl⟩
    · walk_at "dls"
      refine ⟨[.lst (ms.map fun m => .int (lcI ms / m))], _, rfl, ⟨_, false, ptsI ms, rfl, by unfold ptsI; rw [List.map_map]; rfl, by unfold ptsI; rw [List.length_map]; have := hg.2.1; omega, rfl⟩, ?_⟩
      walk_at "dls"
      refine ⟨_, _, _, _, rfl, rfl, LR.c, LR.s, Nat.le_of_ble_eq_true rfl, ?_⟩
      walk_at "dls"
      refine sv_asgG (ws := [2] ++ ([] ++ [])) ?_
      refine ev_ixS ?_
      refine ev_fldO ⟨_, _, _, _, rfl, LR.c, LR.s, rfl, ?_⟩
      walk_at "dls"
      have hsp : atI ((spansI (ptsI ms)).map spD) (-1) = some (spD (fsI ms (ms.length - 1), whI ms)) := by
        have hsl : (spansI (ptsI ms)).length = ms.length := by
          have := spans_len (ptsI ms) ([], 0)
          unfold spansI
          rw [this]
          show 0 + (ptsI ms).length = _
          unfold ptsI
          rw [List.length_map, Nat.zero_add]
        refine atR_last ?_
        rw [List.length_map, hsl, List.getElem?_map, wh_span hg]
        rfl
      refine ⟨_, _, _, _, _, rfl, rfl, rfl, hsp, ?_⟩
      refine bndS_ok ⟨_, rfl, ?_⟩
      refine gv_tup rfl (gs_cons (gv_name (Nat.le_of_ble_eq_true rfl) (gs_cons (gv_fld (i := 0) rfl LR.c LR.b (Nat.le_of_ble_eq_true rfl) (gs_nil ?_)))))
      refine ret_nx (.own rfl rfl (.dat .nil)) ?_
      exact q

end
end K23

namespace K23
open PySem L2 Evl DL
local macro_rules | `(tactic| walk_at "dl") => `(tactic| first
  | with_reducible refine bnd_ok ?_ | with_reducible refine bndS_ok ?_ | with_reducible refine onE_ok ?_ | with_reducible refine seq_nx ?_ | with_reducible refine seq_rt ?_ | with_reducible refine seq_bk ?_ | with_reducible refine seq_ct ?_ | with_reducible refine onT_rt ?_ | with_reducible refine onT_bk ?_ | with_reducible refine resS_nx ?_ | with_reducible refine resS_rt ?_
  | refine ev_v rfl ?_ | refine ev_l rfl ?_ | with_reducible refine ev_i ?_ | with_reducible refine ev_n ?_ | with_reducible refine ev_b ?_ | with_reducible refine ev_s ?_
  | with_reducible refine ev_oZ0 ?_ | with_reducible refine ev_oB0 ?_ | with_reducible refine ev_oZ ?_ | with_reducible refine ev_neg ?_ | with_reducible refine ev_neI ?_ | with_reducible refine ev_eqI ?_ | with_reducible refine ev_isN ?_ | with_reducible refine ev_notN ?_ | with_reducible refine ev_chain ?_
  | with_reducible refine ev_andV ?_ | with_reducible refine ev_orV ?_ | with_reducible refine ev_notV ?_ | with_reducible refine ev_if ?_
  | with_reducible refine tv_test ?_ | with_reducible refine tv_B ?_ | with_reducible refine tv_and ?_ | with_reducible refine tv_or ?_ | with_reducible refine tv_not ?_ | with_reducible refine tv_yes ?_
  | with_reducible refine ev_isiInt ?_ | with_reducible refine ev_isiBool ?_ | with_reducible refine ev_isiSeq ?_
  | with_reducible refine av_cons ?_ | with_reducible refine av_nil ?_
  | with_reducible refine ev_pure ?_ | with_reducible refine ev_gcd ?_ | with_reducible refine ev_abs ?_ | with_reducible refine ev_int1 ?_
  | (with_reducible refine DL.ev_len ?_; refine av_cons ?_; refine ev_v rfl ?_; refine bnd_ok ?_; refine av_nil ?_; refine ⟨_, _, _, rfl, by first | rfl | assumption, ?_⟩)
  | with_reducible refine ev_fldD ?_ | with_reducible refine ev_ixS ?_
  | with_reducible refine sv_seq ?_ | with_reducible refine sv_next ?_ | with_reducible refine sv_brk ?_ | with_reducible refine sv_cont ?_ | with_reducible refine sv_ret ?_ | with_reducible refine sv_retN ?_ | with_reducible refine sv_if ?_ | with_reducible refine sv_drop ?_
  | with_reducible refine sv_asg ?_
  | refine ⟨_, rfl, fun hb => ?_, fun hb => ?_⟩
  | refine ⟨_, _, rfl, rfl, fun hb => ?_, fun hb => ?_⟩
  | refine ⟨_, _, rfl, rfl, ?_⟩
  | refine ⟨_, _, _, _, rfl, rfl, rfl, ?_⟩
  | refine ⟨_, rfl, ?_⟩ | refine ⟨_, _, rfl, ?_⟩
  | refine And.intro rfl ?_ | refine And.intro (Nat.le_of_ble_eq_true rfl) ?_ | refine And.intro (by assumption) ?_)
local macro_rules | `(tactic| walk_at "dls") => `(tactic| repeat (walk_at "dl"; all_goals try (first | (exact (nomatch ‹false = true›)) | (exact (nomatch ‹true = false›)))))
local macro_rules | `(tactic| walk_at "dla") => `(tactic| repeat' (first | (exact (nomatch ‹false = true›)) | (exact (nomatch ‹true = false›)) | walk_at "dl"))
local macro_rules | `(tactic| walk_at "dlr") => `(tactic| (refine ret_rt (pms_d _ _ (Nat.le_of_ble_eq_true rfl)) ?_))
local macro_rules | `(tactic| walk_at "dlt") => `(tactic| first | walk_at "dl" | with_reducible refine ev_tup2 ?_ | with_reducible refine ev_tup3 ?_)
local macro_rules | `(tactic| walk_at "dlts") => `(tactic| repeat walk_at "dlt")
section
variable {P : Program} {w : World} {K : PySem.W.Frag} [HasTabs K] {mg : Str → Option Value} {base : Heap} {CH CD : Addr}
abbrev s_number_behind : Stmt := topS 40
abbrev N_number_behind : List Str := ["rates", "number", "hand", "first", "_"]
theorem sc_number_behind : FnScope N_number_behind ["rates", "number", "hand"] (defScope s_number_behind) := ⟨rfl, rfl, rfl, by decide +kernel, rfl, by decide +kernel, by decide +kernel⟩
def R_number_behind (CH CT : Addr) : List Dat → Dat → Prop := fun ds d => ∃ (ms : List Int) (x : Int) (h : Nat), ds = [rObj CH CT ms, .int x, .int h] ∧ Sm ms ∧ 0 ≤ x ∧ h < ms.length ∧ d = .int (stepR ms x h)
theorem Part.ix {ms : List Int} {h : Nat} {m w : Int} (x : Part ms h m w) : atI ((spansI (ptsI ms)).map spD) (h : Int) = some (spD (fsI ms h, fsI ms h + w)) := atD_nat (by rw [List.getElem?_map, x.sp]; rfl)
theorem Part.mx {ms : List Int} {h : Nat} {m w : Int} (x : Part ms h m w) : atI (ms.map Dat.int) (h : Int) = some (.int m) := atD_nat (by rw [List.getElem?_map, x.hm]; rfl)
theorem ok_number_behind {CT : Addr} (T : Txt mg) (LR : ClRates K CT) (LH : ClHands K CH) (F : Dfn K mg "number_behind" "number_behind" s_number_behind ["rates", "number", "hand"]) : Ok P w K mg base 1 "number_behind" ["rates", "number", "hand"] (pureR (R_number_behind CH CT)) := by
  refine F.ok sc_number_behind (by decide) (fun os Pp h => ?_) pureR_noex (fun f cdv A outer s H E hr => ⟨_, (pss_cons (ps_asg (pe_ix (r := rIx K) ix_seq (pe_fldK (K := K) rfl (pv 0) rfl) (pv 2) (fun _ _ => rfl)) (pg_tup rfl (pgs_cons (pg_name (i := 3) sc_number_behind.nd rfl (.inl rfl)) (pgs_cons (pg_name (i := 4) sc_number_behind.nd rfl (.inl rfl)) pgs_nil)))) (pss_one (ps_ret (pe_op op_add (pe_op op_add (pe_op op_mul (pe_op op_fdiv (pv 1) (pe_fldK (K := K) rfl (pv 0) rfl)) (pe_fldK (K := K) rfl (pv 0) rfl)) (pv 3)) (pe_op op_fdiv (pe_op op_mod (pv 1) (pe_fldK (K := K) rfl (pv 0) rfl)) (pe_ix (r := rIx K) ix_seq (pe_fldK (K := K) rfl (pe_fldK (K := K) rfl (pv 0) rfl) rfl) (pv 2) (fun _ _ => rfl))))))), fun os Pp h => ?_⟩)
  · obtain ⟨ds, d, rfl, ⟨ms, x, h, rfl, hS, h0, hh, rfl⟩, q⟩ := h
    rfl
  · obtain ⟨ds, d, rfl, ⟨ms, x, h, rfl, hS, h0, hh, rfl⟩, q⟩ := h
    obtain ⟨m, w, p⟩ := hS.g.part hh
    have hL := lcI_pos hS.g
    have hs := hS.s
    have hw := hS.wh
    have hm := p.m1
    have hm2 := p.m2
    rw [stepR_at p] at q
    show SvP K E0 _ [some (.d (rObj CH CT ms)), some (.d (.int x)), some (.d (.int h)), none, none] _
    walk_at "dls"
    refine sv_asgG (ws := [3] ++ ([4] ++ [])) ?_
    walk_at "dls"
    refine ⟨_, _, _, rfl, LR.c, LR.s, rfl, ?_⟩
    walk_at "dls"
    refine ⟨_, _, _, _, _, rfl, rfl, rfl, p.ix, ?_⟩
    walk_at "dls"
    refine gv_tup rfl (gs_cons (gv_name (Nat.le_of_ble_eq_true rfl) (gs_cons (gv_name (Nat.le_of_ble_eq_true rfl) (gs_nil ?_)))))
    walk_at "dls"
    refine ⟨_, _, _, rfl, LR.c, LR.a, rfl, ?_⟩
    walk_at "dls"
    refine ⟨⟨by omega, by omega⟩, ?_⟩
    walk_at "dls"
    refine ⟨_, _, _, rfl, LR.c, LR.b, rfl, ?_⟩
    walk_at "dls"
    refine ⟨.inr ⟨by omega, by omega⟩, ?_⟩
    walk_at "dls"
    refine ⟨_, _, _, rfl, LR.c, LR.a, rfl, ?_⟩
    walk_at "dls"
    refine ⟨_, _, _, rfl, LR.c, LR.h, rfl, ?_⟩
    walk_at "dls"
    refine ⟨_, _, _, rfl, LH.c, LH.m, rfl, ?_⟩
    walk_at "dls"
    refine ⟨_, _, _, _, _, rfl, rfl, rfl, p.mx, ?_⟩
    walk_at "dls"
    refine ⟨⟨by omega, by omega⟩, ?_⟩
    walk_at "dls"
    walk_at "dlr"
    exact q

end
end K23

namespace K23
open PySem L2 Evl DL
local macro_rules | `(tactic| walk_at "dl") => `(tactic| first
  | with_reducible refine bnd_ok ?_ | with_reducible refine bndS_ok ?_ | with_reducible refine onE_ok ?_ | with_reducible refine seq_nx ?_ | with_reducible refine seq_rt ?_ | with_reducible refine seq_bk ?_ | with_reducible refine seq_ct ?_ | with_reducible refine onT_rt ?_ | with_reducible refine onT_bk ?_ | with_reducible refine resS_nx ?_ | with_reducible refine resS_rt ?_
  | refine ev_v rfl ?_ | refine ev_l rfl ?_ | with_reducible refine ev_i ?_ | with_reducible refine ev_n ?_ | with_reducible refine ev_b ?_ | with_reducible refine ev_s ?_
  | with_reducible refine ev_oZ0 ?_ | with_reducible refine ev_oB0 ?_ | with_reducible refine ev_oZ ?_ | with_reducible refine ev_neg ?_ | with_reducible refine ev_neI ?_ | with_reducible refine ev_eqI ?_ | with_reducible refine ev_isN ?_ | with_reducible refine ev_notN ?_ | with_reducible refine ev_chain ?_
  | with_reducible refine ev_andV ?_ | with_reducible refine ev_orV ?_ | with_reducible refine ev_notV ?_ | with_reducible refine ev_if ?_
  | with_reducible refine tv_test ?_ | with_reducible refine tv_B ?_ | with_reducible refine tv_and ?_ | with_reducible refine tv_or ?_ | with_reducible refine tv_not ?_ | with_reducible refine tv_yes ?_
  | with_reducible refine ev_isiInt ?_ | with_reducible refine ev_isiBool ?_ | with_reducible refine ev_isiSeq ?_
  | with_reducible refine av_cons ?_ | with_reducible refine av_nil ?_
  | with_reducible refine ev_pure ?_ | with_reducible refine ev_gcd ?_ | with_reducible refine ev_abs ?_ | with_reducible refine ev_int1 ?_
  | (with_reducible refine DL.ev_len ?_; refine av_cons ?_; refine ev_v rfl ?_; refine bnd_ok ?_; refine av_nil ?_; refine ⟨_, _, _, rfl, by first | rfl | assumption, ?_⟩)
  | with_reducible refine ev_fldD ?_ | with_reducible refine ev_ixS ?_
  | with_reducible refine sv_seq ?_ | with_reducible refine sv_next ?_ | with_reducible refine sv_brk ?_ | with_reducible refine sv_cont ?_ | with_reducible refine sv_ret ?_ | with_reducible refine sv_retN ?_ | with_reducible refine sv_if ?_ | with_reducible refine sv_drop ?_
  | with_reducible refine sv_asg ?_
  | refine ⟨_, rfl, fun hb => ?_, fun hb => ?_⟩
  | refine ⟨_, _, rfl, rfl, fun hb => ?_, fun hb => ?_⟩
  | refine ⟨_, _, rfl, rfl, ?_⟩
  | refine ⟨_, _, _, _, rfl, rfl, rfl, ?_⟩
  | refine ⟨_, rfl, ?_⟩ | refine ⟨_, _, rfl, ?_⟩
  | refine And.intro rfl ?_ | refine And.intro (Nat.le_of_ble_eq_true rfl) ?_ | refine And.intro (by assumption) ?_)
local macro_rules | `(tactic| walk_at "dls") => `(tactic| repeat (walk_at "dl"; all_goals try (first | (exact (nomatch ‹false = true›)) | (exact (nomatch ‹true = false›)))))
local macro_rules | `(tactic| walk_at "dla") => `(tactic| repeat' (first | (exact (nomatch ‹false = true›)) | (exact (nomatch ‹true = false›)) | walk_at "dl"))
local macro_rules | `(tactic| walk_at "dlr") => `(tactic| (refine ret_rt (pms_d _ _ (Nat.le_of_ble_eq_true rfl)) ?_))
local macro_rules | `(tactic| walk_at "dlt") => `(tactic| first | walk_at "dl" | with_reducible refine ev_tup2 ?_ | with_reducible refine ev_tup3 ?_)
local macro_rules | `(tactic| walk_at "dlts") => `(tactic| repeat walk_at "dlt")
section
variable {P : Program} {w : World} {K : PySem.W.Frag} [HasTabs K] {mg : Str → Option Value} {base : Heap} {CH CD : Addr}
abbrev s_as_tuples : Stmt := topS 6
abbrev N_as_tuples : List Str := ["rows", "row"]
theorem sc_as_tuples : FnScope N_as_tuples ["rows"] (defScope s_as_tuples) := ⟨rfl, rfl, rfl, by decide +kernel, rfl, by decide +kernel, by decide +kernel⟩
def R_as_tuples : List Dat → Dat → Prop := fun ds d => ∃ (y : Dat) (t : Bool) (rs : List Dat), ds = [y] ∧ y.seq = some (t, rs) ∧ rs.length ≤ 100000 ∧ (∀ r ∈ rs, ∃ tr vs, r.seq = some (tr, vs)) ∧ d = .tup (rs.map tupOf)
theorem ok_as_tuples (T : Txt mg) (F : Dfn K mg "as_tuples" "as_tuples" s_as_tuples ["rows"]) : Ok P w K mg base 1 "as_tuples" ["rows"] (pureR R_as_tuples) := by
  refine F.ok sc_as_tuples (by decide) (fun os Pp h => ?_) pureR_noex (fun f cdv A outer s H E hr => ⟨_, (pss_one (ps_ret (pe_callTy (r := rTupO K) call_tuple_of (by rfl) T.b_tuple (by decide +kernel) (pa_cons (pe_lc (own := [("row", 1)]) (g := gName 1) (tt := tYes) rfl sc_as_tuples.nd (pi_anyK (K := K) rfl (pv 0)) (blkOk_by (own := [("row", 1)]) (N := N_as_tuples) (sc := defScope s_as_tuples) (by decide +kernel)) (fun _ _ _ _ _ => (pg_name (i := 1) sc_as_tuples.nd rfl (.inl rfl))) (fun _ _ _ _ _ => pts_nil) (fun _ _ _ _ _ => (pe_callTy (r := rTupO K) call_tuple_of (by rfl) T.b_tuple (by decide +kernel) (pa_cons (pv 1) pa_nil)))) pa_nil)))), fun os Pp h => ?_⟩)
  · obtain ⟨ds, d, rfl, ⟨y, t, rs, rfl, hy, hl, hz, rfl⟩, q⟩ := h
    rfl
  · obtain ⟨ds, d, rfl, ⟨y, t, rs, rfl, hy, hl, hz, rfl⟩, q⟩ := h
    show SvP K E0 _ [some (.d y), none] _
    walk_at "dls"
    refine DL.ev_tupD ?_
    walk_at "dls"
    refine ev_lcM (ws := [1]) id tupOf (by decide) ?_
    refine iv_any ?_
    walk_at "dls"
    refine ⟨y, t, rs, rfl, hy, rs, (List.map_id _).symm, hl, fun r hr2 => ?_, ?_⟩
    · obtain ⟨tr, vs, hv⟩ := hz r hr2
      refine gv_name (Nat.le_of_ble_eq_true rfl) ⟨rfl, ?_⟩
      refine DL.ev_tupD ?_
      walk_at "dls"
      refine ⟨_, _, _, rfl, hv, ?_⟩
      refine onE_ok ⟨?_, rfl⟩
      unfold tupOf
      rw [hv]
    · walk_at "dls"
      refine ⟨_, _, _, rfl, rfl, ?_⟩
      walk_at "dls"; walk_at "dlr"
      exact q

end
end K23

namespace K23
open PySem L2 Evl DL
local macro_rules | `(tactic| walk_at "dl") => `(tactic| first
  | with_reducible refine bnd_ok ?_ | with_reducible refine bndS_ok ?_ | with_reducible refine onE_ok ?_ | with_reducible refine seq_nx ?_ | with_reducible refine seq_rt ?_ | with_reducible refine seq_bk ?_ | with_reducible refine seq_ct ?_ | with_reducible refine onT_rt ?_ | with_reducible refine onT_bk ?_ | with_reducible refine resS_nx ?_ | with_reducible refine resS_rt ?_
  | refine ev_v rfl ?_ | refine ev_l rfl ?_ | with_reducible refine ev_i ?_ | with_reducible refine ev_n ?_ | with_reducible refine ev_b ?_ | with_reducible refine ev_s ?_
  | with_reducible refine ev_oZ0 ?_ | with_reducible refine ev_oB0 ?_ | with_reducible refine ev_oZ ?_ | with_reducible refine ev_neg ?_ | with_reducible refine ev_neI ?_ | with_reducible refine ev_eqI ?_ | with_reducible refine ev_isN ?_ | with_reducible refine ev_notN ?_ | with_reducible refine ev_chain ?_
  | with_reducible refine ev_andV ?_ | with_reducible refine ev_orV ?_ | with_reducible refine ev_notV ?_ | with_reducible refine ev_if ?_
  | with_reducible refine tv_test ?_ | with_reducible refine tv_B ?_ | with_reducible refine tv_and ?_ | with_reducible refine tv_or ?_ | with_reducible refine tv_not ?_ | with_reducible refine tv_yes ?_
  | with_reducible refine ev_isiInt ?_ | with_reducible refine ev_isiBool ?_ | with_reducible refine ev_isiSeq ?_
  | with_reducible refine av_cons ?_ | with_reducible refine av_nil ?_
  | with_reducible refine ev_pure ?_ | with_reducible refine ev_gcd ?_ | with_reducible refine ev_abs ?_ | with_reducible refine ev_int1 ?_
  | (with_reducible refine DL.ev_len ?_; refine av_cons ?_; refine ev_v rfl ?_; refine bnd_ok ?_; refine av_nil ?_; refine ⟨_, _, _, rfl, by first | rfl | assumption, ?_⟩)
  | with_reducible refine ev_fldD ?_ | with_reducible refine ev_ixS ?_
  | with_reducible refine sv_seq ?_ | with_reducible refine sv_next ?_ | with_reducible refine sv_brk ?_ | with_reducible refine sv_cont ?_ | with_reducible refine sv_ret ?_ | with_reducible refine sv_retN ?_ | with_reducible refine sv_if ?_ | with_reducible refine sv_drop ?_
  | with_reducible refine sv_asg ?_
  | refine ⟨_, rfl, fun hb => ?_, fun hb => ?_⟩
  | refine ⟨_, _, rfl, rfl, fun hb => ?_, fun hb => ?_⟩
  | refine ⟨_, _, rfl, rfl, ?_⟩
  | refine ⟨_, _, _, _, rfl, rfl, rfl, ?_⟩
  | refine ⟨_, rfl, ?_⟩ | refine ⟨_, _, rfl, ?_⟩
  | refine And.intro rfl ?_ | refine And.intro (Nat.le_of_ble_eq_true rfl) ?_ | refine And.intro (by assumption) ?_)
local macro_rules | `(tactic| walk_at "dls") => `(tactic| repeat (walk_at "dl"; all_goals try (first | (exact (nomatch ‹false = true›)) | (exact (nomatch ‹true = false›)))))
local macro_rules | `(tactic| walk_at "dla") => `(tactic| repeat' (first | (exact (nomatch ‹false = true›)) | (exact (nomatch ‹true = false›)) | walk_at "dl"))
local macro_rules | `(tactic| walk_at "dlr") => `(tactic| (refine ret_rt (pms_d _ _ (Nat.le_of_ble_eq_true rfl)) ?_))
local macro_rules | `(tactic| walk_at "dlt") => `(tactic| first | walk_at "dl" | with_reducible refine ev_tup2 ?_ | with_reducible refine ev_tup3 ?_)
local macro_rules | `(tactic| walk_at "dlts") => `(tactic| repeat walk_at "dlt")
section
variable {P : Program} {w : World} {K : PySem.W.Frag} [HasTabs K] {mg : Str → Option Value} {base : Heap} {CH CD : Addr}
abbrev s_empty_logs : Stmt := topS 31
abbrev N_empty_logs : List Str := ["hands", "hand"]
theorem sc_empty_logs : FnScope N_empty_logs ["hands"] (defScope s_empty_logs) := ⟨rfl, rfl, rfl, by decide +kernel, rfl, by decide +kernel, by decide +kernel⟩
def emptyRows (n : Nat) (ro : List Ow) : Prop := All2 (fun (_ : Nat) (o : Ow) => ∃ b, o = .l b (([] : List Dat).map Ow.d)) (List.range n) ro
def R_empty_logs (CH : Addr) : Pr := fun os Pp => ∃ ms : List Int, os = [.d (hObj CH ms)] ∧ ms.length ≤ 100000 ∧ ∀ a ro, emptyRows ms.length ro → Pp (.ok (.l a ro)) [.d (hObj CH ms)]
theorem R_empty_logs_noex (os : List Ow) (Pp : Re → List Ow → Prop) (h : R_empty_logs CH os Pp) : R_empty_logs CH os (fun r us => (match r with | .ok _ => True | .ex _ _ => False) ∧ Pp r us) := by
  obtain ⟨ms, h1, h2, q⟩ := h
  exact ⟨ms, h1, h2, fun a ro hr => ⟨trivial, q a ro hr⟩⟩
theorem ok_empty_logs (T : Txt mg) (LH : ClHands K CH) (F : Dfn K mg "empty_logs" "empty_logs" s_empty_logs ["hands"]) : Ok P w K mg base 1 "empty_logs" ["hands"] (R_empty_logs CH) := by
  refine F.ok sc_empty_logs (by decide) (fun os Pp h => ?_) R_empty_logs_noex (fun f cdv A outer s H E hr => ⟨_, (pss_one (ps_ret (pe_lc (own := [("hand", 1)]) (g := gName 1) (tt := tYes) rfl sc_empty_logs.nd (pi_range1 (by rfl) T.b_range (pa_cons (pe_fldK (K := K) rfl (pv 0) rfl) pa_nil)) (blkOk_by (own := [("hand", 1)]) (N := N_empty_logs) (sc := defScope s_empty_logs) (by decide +kernel)) (fun _ _ _ _ _ => (pg_name (i := 1) sc_empty_logs.nd rfl (.inl rfl))) (fun _ _ _ _ _ => pts_nil) (fun _ _ _ _ _ => (pe_lst pa_nil))))), fun os Pp h => ?_⟩)
  · obtain ⟨ms, rfl, hl, q⟩ := h
    rfl
  · obtain ⟨ms, rfl, hl, q⟩ := h
    show SvP K E0 _ [some (.d (hObj CH ms)), none] _
    walk_at "dls"
    refine ev_lcR (ws := [1]) (fun n : Nat => .int (n : Int)) (fun (_ : Nat) (o : Ow) => ∃ b, o = .l b (([] : List Dat).map Ow.d)) (by decide) ?_
    refine iv_rng1 ?_
    walk_at "dls"
    refine ⟨_, _, _, rfl, LH.c, LH.n, rfl, ?_⟩
    walk_at "dls"
    refine ⟨by omega, by omega, ?_⟩
    refine ⟨List.range ms.length, ?_, by rw [List.length_range]; exact hl, fun n hn => ?_, fun rs hr2 b => ?_⟩
    · unfold rangeD
      simp
    · refine gv_name (Nat.le_of_ble_eq_true rfl) ?_
      refine ev_lsto (av_nil ⟨Nat.le_of_ble_eq_true rfl, fun a => ?_⟩)
      exact ⟨⟨a, rfl⟩, rfl⟩
    · walk_at "dls"
      refine ret_rt (.dat .nil) ?_
      exact q b rs hr2

end
end K23

namespace K23
open PySem L2 Evl DL
local macro_rules | `(tactic| walk_at "dl") => `(tactic| first
  | with_reducible refine bnd_ok ?_ | with_reducible refine bndS_ok ?_ | with_reducible refine onE_ok ?_ | with_reducible refine seq_nx ?_ | with_reducible refine seq_rt ?_ | with_reducible refine seq_bk ?_ | with_reducible refine seq_ct ?_ | with_reducible refine onT_rt ?_ | with_reducible refine onT_bk ?_ | with_reducible refine resS_nx ?_ | with_reducible refine resS_rt ?_
  | refine ev_v rfl ?_ | refine ev_l rfl ?_ | with_reducible refine ev_i ?_ | with_reducible refine ev_n ?_ | with_reducible refine ev_b ?_ | with_reducible refine ev_s ?_
  | with_reducible refine ev_oZ0 ?_ | with_reducible refine ev_oB0 ?_ | with_reducible refine ev_oZ ?_ | with_reducible refine ev_neg ?_ | with_reducible refine ev_neI ?_ | with_reducible refine ev_eqI ?_ | with_reducible refine ev_isN ?_ | with_reducible refine ev_notN ?_ | with_reducible refine ev_chain ?_
  | with_reducible refine ev_andV ?_ | with_reducible refine ev_orV ?_ | with_reducible refine ev_notV ?_ | with_reducible refine ev_if ?_
  | with_reducible refine tv_test ?_ | with_reducible refine tv_B ?_ | with_reducible refine tv_and ?_ | with_reducible refine tv_or ?_ | with_reducible refine tv_not ?_ | with_reducible refine tv_yes ?_
  | with_reducible refine ev_isiInt ?_ | with_reducible refine ev_isiBool ?_ | with_reducible refine ev_isiSeq ?_
  | with_reducible refine av_cons ?_ | with_reducible refine av_nil ?_
  | with_reducible refine ev_pure ?_ | with_reducible refine ev_gcd ?_ | with_reducible refine ev_abs ?_ | with_reducible refine ev_int1 ?_
  | (with_reducible refine DL.ev_len ?_; refine av_cons ?_; refine ev_v rfl ?_; refine bnd_ok ?_; refine av_nil ?_; refine ⟨_, _, _, rfl, by first | rfl | assumption, ?_⟩)
  | with_reducible refine ev_fldD ?_ | with_reducible refine ev_ixS ?_
  | with_reducible refine sv_seq ?_ | with_reducible refine sv_next ?_ | with_reducible refine sv_brk ?_ | with_reducible refine sv_cont ?_ | with_reducible refine sv_ret ?_ | with_reducible refine sv_retN ?_ | with_reducible refine sv_if ?_ | with_reducible refine sv_drop ?_
  | with_reducible refine sv_asg ?_
  | refine ⟨_, rfl, fun hb => ?_, fun hb => ?_⟩
  | refine ⟨_, _, rfl, rfl, fun hb => ?_, fun hb => ?_⟩
  | refine ⟨_, _, rfl, rfl, ?_⟩
  | refine ⟨_, _, _, _, rfl, rfl, rfl, ?_⟩
  | refine ⟨_, rfl, ?_⟩ | refine ⟨_, _, rfl, ?_⟩
  | refine And.intro rfl ?_ | refine And.intro (Nat.le_of_ble_eq_true rfl) ?_ | refine And.intro (by assumption) ?_)
local macro_rules | `(tactic| walk_at "dls") => `(tactic| repeat (walk_at "dl"; all_goals try (first | (exact (nomatch ‹false = true›)) | (exact (nomatch ‹true = false›)))))
local macro_rules | `(tactic| walk_at "dla") => `(tactic| repeat' (first | (exact (nomatch ‹false = true›)) | (exact (nomatch ‹true = false›)) | walk_at "dl"))
local macro_rules | `(tactic| walk_at "dlr") => `(tactic| (refine ret_rt (pms_d _ _ (Nat.le_of_ble_eq_true rfl)) ?_))
local macro_rules | `(tactic| walk_at "dlt") => `(tactic| first | walk_at "dl" | with_reducible refine ev_tup2 ?_ | with_reducible refine ev_tup3 ?_)
local macro_rules | `(tactic| walk_at "dlts") => `(tactic| repeat walk_at "dlt")
section
variable {P : Program} {w : World} {K : PySem.W.Frag} [HasTabs K] {mg : Str → Option Value} {base : Heap} {CH CD : Addr}
def rowsD (rows : List (List Int)) : List Dat := rows.map fun r => .tup (r.map Dat.int)
def RowsOw (rows : List (List Int)) (ro : List Ow) : Prop := All2 (fun (r : List Int) (o : Ow) => ∃ b, o = .l b ((r.map Dat.int).map Ow.d)) rows ro
theorem RowsOw.get {rows : List (List Int)} {ro : List Ow} (h : RowsOw rows ro) : ∀ {j : Nat} {r : List Int}, rows[j]? = some r → ∃ b, ro[j]? = some (.l b ((r.map Dat.int).map Ow.d)) := by
  unfold RowsOw at h
  induction h with
  | nil => intro j r e; simp at e
  | cons q t ih =>
    intro j r e
    cases j with
    | zero => simp at e; subst e; obtain ⟨b, hb⟩ := q; exact ⟨b, by rw [hb]; rfl⟩
    | succ j => exact ih (by simpa using e)
theorem RowsOw.set {rows : List (List Int)} {ro : List Ow} (h : RowsOw rows ro) (r : List Int) (b : Addr) : ∀ (j : Nat), RowsOw (rows.set j r) (ro.set j (.l b ((r.map Dat.int).map Ow.d))) := by
  unfold RowsOw at h ⊢
  induction h with
  | nil => intro j; exact .nil
  | cons q t ih =>
    intro j
    cases j with
    | zero => exact .cons ⟨b, rfl⟩ t
    | succ j => exact .cons q (ih j)
theorem RowsOw.len {rows : List (List Int)} {ro : List Ow} (h : RowsOw rows ro) : rows.length = ro.length := by
  unfold RowsOw at h
  induction h with
  | nil => rfl
  | cons _ _ ih => simp [ih]
theorem RowsOw.okR {rows : List (List Int)} {ro : List Ow} (h : RowsOw rows ro) : okRs ro = true ∧ dats ro = rows.map fun r => Dat.lst (r.map Dat.int) := by
  unfold RowsOw at h
  induction h with
  | nil => exact ⟨rfl, rfl⟩
  | cons q t ih =>
    obtain ⟨b, rfl⟩ := q
    refine ⟨?_, ?_⟩
    · show ((okRs _) && okRs _) = true
      rw [okRs_map, ih.1]
      rfl
    · show Dat.lst (dats _) :: dats _ = _
      rw [dats_map, ih.2]
      rfl
theorem RowsOw.ofEmpty {n : Nat} {ro : List Ow} (h : emptyRows n ro) : RowsOw (List.replicate n []) ro := by
  have key : ∀ {l : List Nat} {ro : List Ow}, All2 (fun (_ : Nat) (o : Ow) => ∃ b, o = .l b (([] : List Dat).map Ow.d)) l ro → RowsOw (List.replicate l.length []) ro := by
    intro l ro h
    induction h with
    | nil => exact .nil
    | cons q t ih => exact .cons q ih
  have := key h
  rw [List.length_range] at this
  exact this

end
end K23

namespace K23
open PySem L2 Evl DL
local macro_rules | `(tactic| walk_at "dl") => `(tactic| first
  | with_reducible refine bnd_ok ?_ | with_reducible refine bndS_ok ?_ | with_reducible refine onE_ok ?_ | with_reducible refine seq_nx ?_ | with_reducible refine seq_rt ?_ | with_reducible refine seq_bk ?_ | with_reducible refine seq_ct ?_ | with_reducible refine onT_rt ?_ | with_reducible refine onT_bk ?_ | with_reducible refine resS_nx ?_ | with_reducible refine resS_rt ?_
  | refine ev_v rfl ?_ | refine ev_l rfl ?_ | with_reducible refine ev_i ?_ | with_reducible refine ev_n ?_ | with_reducible refine ev_b ?_ | with_reducible refine ev_s ?_
  | with_reducible refine ev_oZ0 ?_ | with_reducible refine ev_oB0 ?_ | with_reducible refine ev_oZ ?_ | with_reducible refine ev_neg ?_ | with_reducible refine ev_neI ?_ | with_reducible refine ev_eqI ?_ | with_reducible refine ev_isN ?_ | with_reducible refine ev_notN ?_ | with_reducible refine ev_chain ?_
  | with_reducible refine ev_andV ?_ | with_reducible refine ev_orV ?_ | with_reducible refine ev_notV ?_ | with_reducible refine ev_if ?_
  | with_reducible refine tv_test ?_ | with_reducible refine tv_B ?_ | with_reducible refine tv_and ?_ | with_reducible refine tv_or ?_ | with_reducible refine tv_not ?_ | with_reducible refine tv_yes ?_
  | with_reducible refine ev_isiInt ?_ | with_reducible refine ev_isiBool ?_ | with_reducible refine ev_isiSeq ?_
  | with_reducible refine av_cons ?_ | with_reducible refine av_nil ?_
  | with_reducible refine ev_pure ?_ | with_reducible refine ev_gcd ?_ | with_reducible refine ev_abs ?_ | with_reducible refine ev_int1 ?_
  | (with_reducible refine DL.ev_len ?_; refine av_cons ?_; refine ev_v rfl ?_; refine bnd_ok ?_; refine av_nil ?_; refine ⟨_, _, _, rfl, by first | rfl | assumption, ?_⟩)
  | with_reducible refine ev_fldD ?_ | with_reducible refine ev_ixS ?_
  | with_reducible refine sv_seq ?_ | with_reducible refine sv_next ?_ | with_reducible refine sv_brk ?_ | with_reducible refine sv_cont ?_ | with_reducible refine sv_ret ?_ | with_reducible refine sv_retN ?_ | with_reducible refine sv_if ?_ | with_reducible refine sv_drop ?_
  | with_reducible refine sv_asg ?_
  | refine ⟨_, rfl, fun hb => ?_, fun hb => ?_⟩
  | refine ⟨_, _, rfl, rfl, fun hb => ?_, fun hb => ?_⟩
  | refine ⟨_, _, rfl, rfl, ?_⟩
  | refine ⟨_, _, _, _, rfl, rfl, rfl, ?_⟩
  | refine ⟨_, rfl, ?_⟩ | refine ⟨_, _, rfl, ?_⟩
  | refine And.intro rfl ?_ | refine And.intro (Nat.le_of_ble_eq_true rfl) ?_ | refine And.intro (by assumption) ?_)
local macro_rules | `(tactic| walk_at "dls") => `(tactic| repeat (walk_at "dl"; all_goals try (first | (exact (nomatch ‹false = true›)) | (exact (nomatch ‹true = false›)))))
local macro_rules | `(tactic| walk_at "dla") => `(tactic| repeat' (first | (exact (nomatch ‹false = true›)) | (exact (nomatch ‹true = false›)) | walk_at "dl"))
local macro_rules | `(tactic| walk_at "dlr") => `(tactic| (refine ret_rt (pms_d _ _ (Nat.le_of_ble_eq_true rfl)) ?_))
local macro_rules | `(tactic| walk_at "dlt") => `(tactic| first | walk_at "dl" | with_reducible refine ev_tup2 ?_ | with_reducible refine ev_tup3 ?_)
local macro_rules | `(tactic| walk_at "dlts") => `(tactic| repeat walk_at "dlt")
section
variable {P : Program} {w : World} {K : PySem.W.Frag} [HasTabs K] {mg : Str → Option Value} {base : Heap} {CH CD : Addr}
abbrev s_grow_logs : Stmt := topS 44
abbrev N_grow_logs : List Str := ["hands", "story", "number", "told", "now", "rates", "logs", "hand"]
theorem sc_grow_logs : FnScope N_grow_logs ["hands", "story", "number"] (defScope s_grow_logs) := ⟨rfl, rfl, rfl, by decide +kernel, rfl, by decide +kernel, by decide +kernel⟩
/-- one deed: the number behind, the mark to its hand's row -/
def grF (ms : List Int) (p : Int × List (List Int)) (h : Nat) : Int × List (List Int) := (stepR ms p.1 h, p.2.set h (p.2.getD h [] ++ [p.1 % ms.getD h 1]))
def grI (ms : List Int) (x : Int) (hs : List Nat) : Int × List (List Int) := hs.foldl (grF ms) (x, List.replicate ms.length [])
theorem gr_rows (ms : List Int) : ∀ (hs : List Nat) (p : Int × List (List Int)), p.2.length = ms.length → (hs.foldl (grF ms) p).2.length = ms.length
  | [], p, h => h
  | x :: hs, p, h => gr_rows ms hs _ (by show (p.2.set _ _).length = _; rw [List.length_set]; exact h)
theorem gr_nn {ms : List Int} (g : Good ms) : ∀ (hs : List Nat) (p : Int × List (List Int)), (∀ h ∈ hs, h < ms.length) → 0 ≤ p.1 → 0 ≤ (hs.foldl (grF ms) p).1
  | [], p, _, h => h
  | x :: hs, p, hb, h => gr_nn g hs _ (fun k hk => hb k (List.mem_cons_of_mem _ hk)) (stepR_nn g (hb x List.mem_cons_self) h)
theorem gr_rowlen (ms : List Int) : ∀ (hs : List Nat) (p : Int × List (List Int)) (c : Nat), (∀ r ∈ p.2, r.length ≤ c) → ∀ r ∈ (hs.foldl (grF ms) p).2, r.length ≤ c + hs.length
  | [], p, c, h => fun r hr => h r hr
  | x :: hs, p, c, h => fun r hr => by
    have := gr_rowlen ms hs (grF ms p x) (c + 1) (fun r hr => by
      rcases List.mem_or_eq_of_mem_set hr with z | z
      · have := h r z; omega
      · subst z
        rw [List.length_append, List.getD_eq_getElem?_getD]
        show _ + 1 ≤ c + 1
        cases e : p.2[x]? with
        | none => simp
        | some r => have := h r (List.mem_of_getElem? e); simp; omega) r hr
    rw [List.length_cons]
    omega
def R_grow_logs (CH : Addr) : List Dat → Dat → Prop := fun ds d => ∃ (ms : List Int) (x : Int) (y : Dat) (t : Bool) (hs : List Nat), ds = [hObj CH ms, y, .int x] ∧ Sm ms ∧ 0 ≤ x ∧ y.tyn.isSome = true ∧ y.seq = some (t, hs.map fun (h : Nat) => Dat.int h) ∧ hs.length ≤ 10000 ∧ (∀ h ∈ hs, h < ms.length) ∧
  d = .tup [.int (grI ms x hs).1, .tup (rowsD (grI ms x hs).2)]
theorem ok_grow_logs {CT : Addr} (T : Txt mg) (LR : ClRates K CT) (LH : ClHands K CH) (O_check_story : Ok P w K mg base 4 "check_story" ["hands", "value"] (pureR (R_check_story CH))) (O_need_number : Ok P w K mg base 2 "need_number" ["number"] (pureR R_need_number)) (O_empty_logs : Ok P w K mg base 1 "empty_logs" ["hands"] (R_empty_logs CH))
    (O_Rates : OkC P w K mg base 2 "Rates" ["self", "hands"] CT (R_Rates CH CT)) (O_number_behind : Ok P w K mg base 1 "number_behind" ["rates", "number", "hand"] (pureR (R_number_behind CH CT))) (O_as_tuples : Ok P w K mg base 1 "as_tuples" ["rows"] (pureR R_as_tuples)) (F : DfnO K mg "grow_logs" "grow_logs" s_grow_logs ["hands", "story"] "number" (.int 0)) :
    OkN P w K mg base 5 "grow_logs" ["hands", "story"] "number" (pureR (R_grow_logs CH)) ∧ OkM P w K mg base 5 "grow_logs" ["hands", "story"] "number" (pureR (R_grow_logs CH)) (.int 0) := by
  refine F.ok sc_grow_logs (by decide) (fun os Pp h => ?_) pureR_noex (fun f cdv A outer s H E hr => ⟨_, (pss_cons (ps_set (i := 3) sc_grow_logs.nd rfl (.inl rfl) (pe_fn O_check_story ⟨rfl, rfl, rfl, rfl, rfl⟩ (hr.mono (by decide)) rfl (pa_cons (pv 0) (pa_cons (pv 1) pa_nil)))) (pss_cons (ps_set (i := 4) sc_grow_logs.nd rfl (.inl rfl) (pe_fn O_need_number ⟨rfl, rfl, rfl, rfl, rfl⟩ (hr.mono (by decide)) rfl (pa_cons (pv 2) pa_nil))) (pss_cons (ps_set (i := 5) sc_grow_logs.nd rfl (.inl rfl) (pe_cls O_Rates ⟨rfl, rfl, rfl, rfl, rfl⟩ (hr.mono (by decide)) rfl (pa_cons (pv 0) pa_nil))) (pss_cons (ps_set (i := 6) sc_grow_logs.nd rfl (.inl rfl) (pe_fn O_empty_logs ⟨rfl, rfl, rfl, rfl, rfl⟩ (hr.mono (by decide)) rfl (pa_cons (pv 0) pa_nil))) (pss_cons (ps_for PassesOwn.never rfl (pi_anyK (K := K) rfl (pv 3)) (pg_name (i := 7) sc_grow_logs.nd rfl (.inl rfl)) (pss_cons (ps_expr (pe_bmK (K := K) rfl PySem.F.plainAttrs_list PySem.F.slot_list_append PySem.F.type_list_append mt_append (pe_ix (r := rIxL K) ix_list (pv 6) (pv 7) (fun _ _ => rfl)) (pa_cons (pe_op op_mod (pv 4) (pe_ix (r := rIx K) ix_seq (pe_fldK (K := K) rfl (pv 0) rfl) (pv 7) (fun _ _ => rfl))) pa_nil))) (pss_one (ps_set (i := 4) sc_grow_logs.nd rfl (.inl rfl) (pe_fn O_number_behind ⟨rfl, rfl, rfl, rfl, rfl⟩ (hr.mono (by decide)) rfl (pa_cons (pv 5) (pa_cons (pv 4) (pa_cons (pv 7) pa_nil)))))))) (pss_one (ps_ret (pe_tup (pa_cons (pv 4) (pa_cons (pe_fn O_as_tuples ⟨rfl, rfl, rfl, rfl, rfl⟩ (hr.mono (by decide)) rfl (pa_cons (pv 6) pa_nil)) pa_nil)))))))))), fun os Pp h => ?_⟩)
  · obtain ⟨ds, d, rfl, ⟨ms, x, y, t, hs, rfl, hS, h0, hx, hy, hl, hb, rfl⟩, q⟩ := h
    rfl
  · obtain ⟨ds, d, rfl, ⟨ms, x, y, t, hs, rfl, hS, h0, hx, hy, hl, hb, rfl⟩, q⟩ := h
    have hg := hS.g
    show SvP K E0 _ [some (.d (hObj CH ms)), some (.d y), some (.d (.int x)), none, none, none, none, none] _
    have hy2 : y.seq = some (t, (hs.map fun (h : Nat) => (h : Int)).map Dat.int) := by rw [hy, List.map_map]; rfl
    walk_at "dls"
    refine ⟨[hObj CH ms, y], _, rfl, ⟨ms, y, t, _, rfl, hx, hy2, by rw [List.length_map]; exact hl, fun h hh => ?_, rfl⟩, ?_⟩
    · obtain ⟨k, hk, rfl⟩ := List.mem_map.mp hh
      have := hb k hk
      omega
    walk_at "dls"
    refine ⟨[.int x], _, rfl, ⟨_, rfl, h0, rfl⟩, ?_⟩
    walk_at "dls"
    refine DL.ev_make ?_ R_Rates_mono
    refine av_cons (ev_v rfl (bnd_ok (av_nil fun a => ?_)))
    refine ⟨a, ms, rfl, hS, rfl, _, _, rfl, ?_⟩
    walk_at "dls"
    refine ev_call ?_
    walk_at "dls"
    refine ⟨by have := hg.2.1; omega, fun a ro hro => ?_⟩
    walk_at "dls"
    refine sv_for (ws := [7]) ?_
    refine iv_any ?_
    walk_at "dls"
    refine ⟨_, _, _, rfl, rfl, ?_⟩
    refine loop_inv (fun i ρ' => ∃ ro, RowsOw ((hs.take i).foldl (grF ms) (x, List.replicate ms.length [])).2 ro ∧ ρ' = [some (.d (hObj CH ms)), some (.d y), some (.d (.int x)), some (.d (.tup ((hs.map fun (h : Nat) => (h : Int)).map Dat.int))), some (.d (.int ((hs.take i).foldl (grF ms) (x, List.replicate ms.length [])).1)), some (.d (rObj CH CT ms)), some (.l a ro), none]) ⟨ro, .ofEmpty hro, rfl⟩ (fun i d ρ' hi he => ?_) (fun ρ' he => ?_)
    · obtain ⟨ro, hr1, rfl⟩ := he
      obtain ⟨h, hh, rfl⟩ : ∃ h, hs[i]? = some h ∧ d = .int (h : Int) := by
        rw [List.getElem?_map, List.getElem?_map] at hi
        cases hx2 : hs[i]? with
        | none => rw [hx2] at hi; cases hi
        | some h => rw [hx2] at hi; exact ⟨h, rfl, (Option.some.inj hi).symm⟩
      have hlt := hb h (List.mem_of_getElem? hh)
      obtain ⟨m, w, p⟩ := hg.part hlt
      have hm1 := p.m1
      have hstep := take_fold (f := grF ms) (b0 := (x, List.replicate ms.length [])) hh
      have hnn := gr_nn hg (hs.take i) (x, List.replicate ms.length []) (fun h hh => hb h (List.mem_of_mem_take hh)) h0
      generalize hq : (hs.take i).foldl (grF ms) (x, List.replicate ms.length []) = w at hr1 hstep hnn ⊢
      have hwl : w.2.length = ms.length := by rw [← hq]; exact gr_rows ms _ _ (by simp)
      have hwr : ∀ r ∈ w.2, r.length ≤ 10000 := fun r hr => by
        rw [← hq] at hr
        have := gr_rowlen ms (hs.take i) (x, List.replicate ms.length []) 0 (fun r hr => by rw [List.eq_of_mem_replicate hr]; simp) r hr
        rw [List.length_take] at this
        omega
      have hrow := List.getElem?_eq_getElem (l := w.2) (i := h) (by omega)
      obtain ⟨b, hb1⟩ := hr1.get hrow
      refine gv_name (Nat.le_of_ble_eq_true rfl) ?_
      walk_at "dls"
      refine ev_app2 ⟨a, ro, rfl⟩ ?_
      walk_at "dls"
      refine ⟨a, b, ro, _, h, rfl, rfl, hb1, by rw [List.length_map, List.length_map]; have := hwr _ (List.mem_of_getElem? hrow); omega, ?_⟩
      walk_at "dls"
      refine ⟨_, _, _, rfl, LH.c, LH.m, rfl, ?_⟩
      walk_at "dls"
      refine ⟨_, _, _, _, _, rfl, rfl, rfl, p.mx, ?_⟩
      walk_at "dls"
      refine ⟨[rObj CH CT ms, .int w.1, .int h], _, rfl, ⟨ms, w.1, h, rfl, hS, hnn, hlt, rfl⟩, ?_⟩
      walk_at "dls"
      refine onT_nx (.cons (.cons (.cons (.cons (.cons (.cons (.cons (.skip .nil)))))))) ?_
      have hset := hr1.set (w.2[h] ++ [w.1 % m]) b h
      rw [hstep]
      refine ⟨ro.set h (.l b (((w.2[h] ++ [w.1 % m]).map Dat.int).map Ow.d)), ?_, ?_⟩
      · show RowsOw (w.2.set h (w.2.getD h [] ++ [w.1 % ms.getD h 1])) _
        rw [List.getD_eq_getElem?_getD, hrow, List.getD_eq_getElem?_getD, p.hm]
        exact hset
      · rw [List.map_append, List.map_append]
        rfl
    · obtain ⟨ro, hr1, rfl⟩ := he
      rw [List.length_map, List.length_map, List.take_length] at *
      walk_at "dls"
      refine ev_tup (ds := []) ?_
      refine av_cons ?_
      refine ev_v rfl ?_
      refine bnd_ok ?_
      refine av_cons ?_
      refine ev_pure ?_
      refine av_cons ?_
      refine ev_lF rfl hr1.okR.1 ?_
      refine bnd_ok ?_
      refine av_nil ?_
      have hwl : (grI ms x hs).2.length = ms.length := gr_rows ms hs _ (by simp)
      have hd : dats ro = (grI ms x hs).2.map fun r => Dat.lst (r.map Dat.int) := hr1.okR.2
      refine ⟨[.lst (dats ro)], _, rfl, ⟨_, false, dats ro, rfl, rfl, ?_, ?_, rfl⟩, ?_⟩
      · rw [hd, List.length_map, hwl]
        have := hg.2.1
        omega
      · intro r hr3
        rw [hd] at hr3
        obtain ⟨z, _, rfl⟩ := List.mem_map.mp hr3
        exact ⟨_, _, rfl⟩
      · rw [show (dats ro).map tupOf = rowsD (grI ms x hs).2 by rw [hd, List.map_map]; rfl]
        walk_at "dls"
        refine ⟨[.int (grI ms x hs).1, .tup (rowsD (grI ms x hs).2)], rfl, Nat.le_of_ble_eq_true rfl, ?_⟩
        walk_at "dls"
        walk_at "dlr"
        exact q

end
end K23

namespace K23
open PySem L2 Evl DL
local macro_rules | `(tactic| walk_at "dl") => `(tactic| first
  | with_reducible refine bnd_ok ?_ | with_reducible refine bndS_ok ?_ | with_reducible refine onE_ok ?_ | with_reducible refine seq_nx ?_ | with_reducible refine seq_rt ?_ | with_reducible refine seq_bk ?_ | with_reducible refine seq_ct ?_ | with_reducible refine onT_rt ?_ | with_reducible refine onT_bk ?_ | with_reducible refine resS_nx ?_ | with_reducible refine resS_rt ?_
  | refine ev_v rfl ?_ | refine ev_l rfl ?_ | with_reducible refine ev_i ?_ | with_reducible refine ev_n ?_ | with_reducible refine ev_b ?_ | with_reducible refine ev_s ?_
  | with_reducible refine ev_oZ0 ?_ | with_reducible refine ev_oB0 ?_ | with_reducible refine ev_oZ ?_ | with_reducible refine ev_neg ?_ | with_reducible refine ev_neI ?_ | with_reducible refine ev_eqI ?_ | with_reducible refine ev_isN ?_ | with_reducible refine ev_notN ?_ | with_reducible refine ev_chain ?_
  | with_reducible refine ev_andV ?_ | with_reducible refine ev_orV ?_ | with_reducible refine ev_notV ?_ | with_reducible refine ev_if ?_
  | with_reducible refine tv_test ?_ | with_reducible refine tv_B ?_ | with_reducible refine tv_and ?_ | with_reducible refine tv_or ?_ | with_reducible refine tv_not ?_ | with_reducible refine tv_yes ?_
  | with_reducible refine ev_isiInt ?_ | with_reducible refine ev_isiBool ?_ | with_reducible refine ev_isiSeq ?_
  | with_reducible refine av_cons ?_ | with_reducible refine av_nil ?_
  | with_reducible refine ev_pure ?_ | with_reducible refine ev_gcd ?_ | with_reducible refine ev_abs ?_ | with_reducible refine ev_int1 ?_
  | (with_reducible refine DL.ev_len ?_; refine av_cons ?_; refine ev_v rfl ?_; refine bnd_ok ?_; refine av_nil ?_; refine ⟨_, _, _, rfl, by first | rfl | assumption, ?_⟩)
  | with_reducible refine ev_fldD ?_ | with_reducible refine ev_ixS ?_
  | with_reducible refine sv_seq ?_ | with_reducible refine sv_next ?_ | with_reducible refine sv_brk ?_ | with_reducible refine sv_cont ?_ | with_reducible refine sv_ret ?_ | with_reducible refine sv_retN ?_ | with_reducible refine sv_if ?_ | with_reducible refine sv_drop ?_
  | with_reducible refine sv_asg ?_
  | refine ⟨_, rfl, fun hb => ?_, fun hb => ?_⟩
  | refine ⟨_, _, rfl, rfl, fun hb => ?_, fun hb => ?_⟩
  | refine ⟨_, _, rfl, rfl, ?_⟩
  | refine ⟨_, _, _, _, rfl, rfl, rfl, ?_⟩
  | refine ⟨_, rfl, ?_⟩ | refine ⟨_, _, rfl, ?_⟩
  | refine And.intro rfl ?_ | refine And.intro (Nat.le_of_ble_eq_true rfl) ?_ | refine And.intro (by assumption) ?_)
local macro_rules | `(tactic| walk_at "dls") => `(tactic| repeat (walk_at "dl"; all_goals try (first | (exact (nomatch ‹false = true›)) | (exact (nomatch ‹true = false›)))))
local macro_rules | `(tactic| walk_at "dla") => `(tactic| repeat' (first | (exact (nomatch ‹false = true›)) | (exact (nomatch ‹true = false›)) | walk_at "dl"))
local macro_rules | `(tactic| walk_at "dlr") => `(tactic| (refine ret_rt (pms_d _ _ (Nat.le_of_ble_eq_true rfl)) ?_))
local macro_rules | `(tactic| walk_at "dlt") => `(tactic| first | walk_at "dl" | with_reducible refine ev_tup2 ?_ | with_reducible refine ev_tup3 ?_)
local macro_rules | `(tactic| walk_at "dlts") => `(tactic| repeat walk_at "dlt")
section
variable {P : Program} {w : World} {K : PySem.W.Frag} [HasTabs K] {mg : Str → Option Value} {base : Heap} {CH CD : Addr}
abbrev s_fits_bounds : Stmt := topS 5
abbrev N_fits_bounds : List Str := ["value", "bounds", "item", "bound"]
theorem sc_fits_bounds : FnScope N_fits_bounds ["value", "bounds"] (defScope s_fits_bounds) := ⟨rfl, rfl, rfl, by decide +kernel, rfl, by decide +kernel, by decide +kernel⟩
def fitsL (vs : List Dat) (bs : List Int) : Bool := decide (vs.length = bs.length) && (vs.zip bs).all fun p => isBelow p.1 p.2
def fitsB (x : Dat) (bs : List Int) : Bool := match x with
  | .lst vs => fitsL vs bs
  | .tup vs => fitsL vs bs
  | _ => false
def tynAll (x : Dat) : Prop := match x with
  | .lst vs => vs.length ≤ 100000 ∧ ∀ v ∈ vs, v.tyn.isSome = true
  | .tup vs => vs.length ≤ 100000 ∧ ∀ v ∈ vs, v.tyn.isSome = true
  | _ => True
def R_fits_bounds : List Dat → Dat → Prop := fun ds d => ∃ (x y : Dat) (t : Bool) (bs : List Int), ds = [x, y] ∧ x.tyn.isSome = true ∧ tynAll x ∧ y.seq = some (t, bs.map Dat.int) ∧ d = .bl (fitsB x bs)
theorem zipD_emb (vs : List Dat) (bs : List Int) : zipD vs (bs.map Dat.int) = (vs.zip bs).map fun p => .tup [p.1, .int p.2] := by
  unfold zipD
  induction vs generalizing bs with
  | nil => rfl
  | cons v vs ih =>
    cases bs with
    | nil => rfl
    | cons b bs =>
      have e := ih bs
      exact congrArg (List.cons _) e
theorem ok_fits_bounds (T : Txt mg) (O_is_sequence : Ok P w K mg base 1 "is_sequence" ["value"] (pureR R_is_sequence)) (O_is_below : Ok P w K mg base 2 "is_below" ["value", "bound"] (pureR R_is_below)) (F : Dfn K mg "fits_bounds" "fits_bounds" s_fits_bounds ["value", "bounds"]) : Ok P w K mg base 3 "fits_bounds" ["value", "bounds"] (pureR R_fits_bounds) := by
  refine F.ok sc_fits_bounds (by decide) (fun os Pp h => ?_) pureR_noex (fun f cdv A outer s H E hr => ⟨_, (pss_cons (ps_if (PW.pt (pw_or (pt_not (pt_val (pe_fn O_is_sequence ⟨rfl, rfl, rfl, rfl, rfl⟩ (hr.mono (by decide)) rfl (pa_cons (pv 0) pa_nil)))) (pw_or1 (pt_cmpR op_ne (pe_callB (r := rLenQ K) call_len_seq (by rfl) T.b_len (by decide +kernel) (pa_cons (pv 0) pa_nil)) (pe_callB (r := rLenQ K) call_len_seq (by rfl) T.b_len (by decide +kernel) (pa_cons (pv 1) pa_nil)) (nomark _))))) (pss_one (ps_ret pe_bl)) pss_nil) (pss_one (ps_ret (pe_callB (r := rAll K) (cr_all rfl) (by rfl) T.b_all (by decide +kernel) (pa_cons (pe_lc (own := [("item", 2), ("bound", 3)]) (g := gTup K 2 (gCons (gName 2) (gCons (gName 3) (gNil)))) (tt := tYes) rfl sc_fits_bounds.nd (pi_zipK (K := K) rfl (by rfl) T.b_zip (pa_cons (pv 0) (pa_cons (pv 1) pa_nil))) (blkOk_by (own := [("item", 2), ("bound", 3)]) (N := N_fits_bounds) (sc := defScope s_fits_bounds) (by decide +kernel)) (fun _ _ _ _ _ => (pg_tup rfl (pgs_cons (pg_name (i := 2) sc_fits_bounds.nd rfl (.inl rfl)) (pgs_cons (pg_name (i := 3) sc_fits_bounds.nd rfl (.inl rfl)) pgs_nil)))) (fun _ _ _ _ _ => pts_nil) (fun _ _ _ _ _ => (pe_fn O_is_below ⟨rfl, rfl, rfl, rfl, rfl⟩ (hr.mono (by decide)) rfl (pa_cons (pv 2) (pa_cons (pv 3) pa_nil))))) pa_nil))))), fun os Pp h => ?_⟩)
  · obtain ⟨ds, d, rfl, ⟨x, y, t, bs, rfl, hx, hz, hy, rfl⟩, q⟩ := h
    rfl
  · obtain ⟨ds, d, rfl, ⟨x, y, t, bs, rfl, hx, hz, hy, rfl⟩, q⟩ := h
    show SvP K E0 _ [some (.d x), some (.d y), none, none] _
    have fin : ∀ (r : Bool) (ρ : Rh), ρ.length = 4 → fitsB x bs = r → retS (List.map Ow.d [x, y]) Pp (.rt (.d (.bl r)) ρ) := fun r ρ hl e => by
      refine ret_rt (pms_d _ _ (by rw [hl]; exact Nat.le_of_ble_eq_true rfl)) ?_
      rw [← e]
      exact q
    walk_at "dls"
    refine ⟨[x], _, rfl, ⟨x, rfl, hx, rfl⟩, ?_⟩
    walk_at "dls"
    · rename_i hb _
      refine fin _ _ rfl ?_
      cases x <;> first | rfl | (exact absurd (show false = true from hb) (by decide))
    · rename_i hb
      obtain ⟨tx, vs, hs, he, hv⟩ : ∃ tx vs, x.seq = some (tx, vs) ∧ fitsB x bs = fitsL vs bs ∧ (vs.length ≤ 100000 ∧ ∀ v ∈ vs, v.tyn.isSome = true) := by
        cases x with
        | lst vs => exact ⟨_, vs, rfl, rfl, hz⟩
        | tup vs => exact ⟨_, vs, rfl, rfl, hz⟩
        | _ => exact absurd (show true = false from hb) (by decide)
      walk_at "dls"
      · rename_i hc
        refine fin _ _ rfl ?_
        rw [he]
        unfold fitsL
        rw [List.length_map] at hc
        have : ¬ vs.length = bs.length := fun e => by rw [e] at hc; simp at hc
        rw [decide_eq_false this, Bool.false_and]
      · rename_i hc
        rw [List.length_map] at hc
        have hlen : vs.length = bs.length := by
          by_cases e : vs.length = bs.length
          · exact e
          · exfalso
            have : ¬ ((vs.length : Int) = (bs.length : Int)) := fun z => e (by omega)
            rw [decide_eq_false this] at hc
            exact (nomatch hc)
        walk_at "dls"
        refine DL.ev_all ?_
        walk_at "dl"
        refine ev_lcM (ws := [2] ++ ([3] ++ [])) (α := Dat × Int) (fun p => .tup [p.1, .int p.2]) (fun p => .bl (isBelow p.1 p.2)) (by decide) ?_
        refine iv_zip ?_
        walk_at "dls"
        refine ⟨x, y, tx, t, vs, bs.map Dat.int, rfl, hs, hy, vs.zip bs, zipD_emb vs bs, by rw [List.length_zip]; omega, fun p hp => ?_, ?_⟩
        · refine gv_tup rfl (gs_cons (gv_name (Nat.le_of_ble_eq_true rfl) (gs_cons (gv_name (Nat.le_of_ble_eq_true rfl) (gs_nil ⟨rfl, ?_⟩)))))
          walk_at "dls"
          refine ⟨[p.1, .int p.2], _, rfl, ⟨p.1, p.2, rfl, hv.2 _ (List.of_mem_zip hp).1, rfl⟩, ?_⟩
          walk_at "dl"
          exact ⟨rfl, rfl⟩
        · walk_at "dls"
          refine ⟨(vs.zip bs).map fun p => isBelow p.1 p.2, by rw [List.map_map]; rfl, ?_⟩
          walk_at "dls"
          refine fin _ _ rfl ?_
          rw [he]
          unfold fitsL
          rw [decide_eq_true hlen, Bool.true_and, List.all_map]
          rfl

end
end K23

namespace K23
open PySem L2 Evl DL
local macro_rules | `(tactic| walk_at "dl") => `(tactic| first
  | with_reducible refine bnd_ok ?_ | with_reducible refine bndS_ok ?_ | with_reducible refine onE_ok ?_ | with_reducible refine seq_nx ?_ | with_reducible refine seq_rt ?_ | with_reducible refine seq_bk ?_ | with_reducible refine seq_ct ?_ | with_reducible refine onT_rt ?_ | with_reducible refine onT_bk ?_ | with_reducible refine resS_nx ?_ | with_reducible refine resS_rt ?_
  | refine ev_v rfl ?_ | refine ev_l rfl ?_ | with_reducible refine ev_i ?_ | with_reducible refine ev_n ?_ | with_reducible refine ev_b ?_ | with_reducible refine ev_s ?_
  | with_reducible refine ev_oZ0 ?_ | with_reducible refine ev_oB0 ?_ | with_reducible refine ev_oZ ?_ | with_reducible refine ev_neg ?_ | with_reducible refine ev_neI ?_ | with_reducible refine ev_eqI ?_ | with_reducible refine ev_isN ?_ | with_reducible refine ev_notN ?_ | with_reducible refine ev_chain ?_
  | with_reducible refine ev_andV ?_ | with_reducible refine ev_orV ?_ | with_reducible refine ev_notV ?_ | with_reducible refine ev_if ?_
  | with_reducible refine tv_test ?_ | with_reducible refine tv_B ?_ | with_reducible refine tv_and ?_ | with_reducible refine tv_or ?_ | with_reducible refine tv_not ?_ | with_reducible refine tv_yes ?_
  | with_reducible refine ev_isiInt ?_ | with_reducible refine ev_isiBool ?_ | with_reducible refine ev_isiSeq ?_
  | with_reducible refine av_cons ?_ | with_reducible refine av_nil ?_
  | with_reducible refine ev_pure ?_ | with_reducible refine ev_gcd ?_ | with_reducible refine ev_abs ?_ | with_reducible refine ev_int1 ?_
  | (with_reducible refine DL.ev_len ?_; refine av_cons ?_; refine ev_v rfl ?_; refine bnd_ok ?_; refine av_nil ?_; refine ⟨_, _, _, rfl, by first | rfl | assumption, ?_⟩)
  | with_reducible refine ev_fldD ?_ | with_reducible refine ev_ixS ?_
  | with_reducible refine sv_seq ?_ | with_reducible refine sv_next ?_ | with_reducible refine sv_brk ?_ | with_reducible refine sv_cont ?_ | with_reducible refine sv_ret ?_ | with_reducible refine sv_retN ?_ | with_reducible refine sv_if ?_ | with_reducible refine sv_drop ?_
  | with_reducible refine sv_asg ?_
  | refine ⟨_, rfl, fun hb => ?_, fun hb => ?_⟩
  | refine ⟨_, _, rfl, rfl, fun hb => ?_, fun hb => ?_⟩
  | refine ⟨_, _, rfl, rfl, ?_⟩
  | refine ⟨_, _, _, _, rfl, rfl, rfl, ?_⟩
  | refine ⟨_, rfl, ?_⟩ | refine ⟨_, _, rfl, ?_⟩
  | refine And.intro rfl ?_ | refine And.intro (Nat.le_of_ble_eq_true rfl) ?_ | refine And.intro (by assumption) ?_)
local macro_rules | `(tactic| walk_at "dls") => `(tactic| repeat (walk_at "dl"; all_goals try (first | (exact (nomatch ‹false = true›)) | (exact (nomatch ‹true = false›)))))
local macro_rules | `(tactic| walk_at "dla") => `(tactic| repeat' (first | (exact (nomatch ‹false = true›)) | (exact (nomatch ‹true = false›)) | walk_at "dl"))
local macro_rules | `(tactic| walk_at "dlr") => `(tactic| (refine ret_rt (pms_d _ _ (Nat.le_of_ble_eq_true rfl)) ?_))
local macro_rules | `(tactic| walk_at "dlt") => `(tactic| first | walk_at "dl" | with_reducible refine ev_tup2 ?_ | with_reducible refine ev_tup3 ?_)
local macro_rules | `(tactic| walk_at "dlts") => `(tactic| repeat walk_at "dlt")
section
variable {P : Program} {w : World} {K : PySem.W.Frag} [HasTabs K] {mg : Str → Option Value} {base : Heap} {CH CD : Addr}
abbrev s_is_log : Stmt := topS 29
abbrev N_is_log : List Str := ["value", "marks"]
theorem sc_is_log : FnScope N_is_log ["value", "marks"] (defScope s_is_log) := ⟨rfl, rfl, rfl, by decide +kernel, rfl, by decide +kernel, by decide +kernel⟩
def isLog (x : Dat) (m : Int) : Bool := match x.seq with
  | some (_, vs) => decide (vs.length ≤ 10000) && fitsL vs (List.replicate vs.length m)
  | none => false
def R_is_log : List Dat → Dat → Prop := fun ds d => ∃ (x : Dat) (m : Int), ds = [x, .int m] ∧ x.tyn.isSome = true ∧ tynAll x ∧ d = .bl (isLog x m)
theorem seq_none {x : Dat} (h : x.isSeq = false) : x.seq = none := by
  cases x <;> first | rfl | (exact absurd h (by intro z; cases z))
theorem seq_some {x : Dat} (h : x.isSeq = true) : ∃ t vs, x.seq = some (t, vs) := by
  cases x <;> first | exact ⟨_, _, rfl⟩ | (exact absurd h (by intro z; cases z))
theorem fitsB_seq {x : Dat} {t : Bool} {vs : List Dat} {bs : List Int} (h : x.seq = some (t, vs)) : fitsB x bs = fitsL vs bs := by
  cases x <;> first | (cases h; rfl) | (exact absurd h (by intro z; cases z))
theorem tynAll_seq {x : Dat} {t : Bool} {vs : List Dat} (h : x.seq = some (t, vs)) (z : tynAll x) : vs.length ≤ 100000 ∧ ∀ v ∈ vs, v.tyn.isSome = true := by
  cases x <;> first | (cases h; exact z) | (exact absurd h (by intro z; cases z))
theorem ok_is_log (T : Txt mg) (O_is_sequence : Ok P w K mg base 1 "is_sequence" ["value"] (pureR R_is_sequence)) (O_fits_bounds : Ok P w K mg base 3 "fits_bounds" ["value", "bounds"] (pureR R_fits_bounds)) (F : Dfn K mg "is_log" "is_log" s_is_log ["value", "marks"]) : Ok P w K mg base 4 "is_log" ["value", "marks"] (pureR R_is_log) := by
  refine F.ok sc_is_log (by decide) (fun os Pp h => ?_) pureR_noex (fun f cdv A outer s H E hr => ⟨_, (pss_cons (ps_if (PW.pt (pw_or (pt_not (pt_val (pe_fn O_is_sequence ⟨rfl, rfl, rfl, rfl, rfl⟩ (hr.mono (by decide)) rfl (pa_cons (pv 0) pa_nil)))) (pw_or1 (pt_cmpR op_gt (pe_callB (r := rLenQ K) call_len_seq (by rfl) T.b_len (by decide +kernel) (pa_cons (pv 0) pa_nil)) (pe_const T.c_LONGEST rfl) (nomark _))))) (pss_one (ps_ret pe_bl)) pss_nil) (pss_one (ps_ret (pe_fn O_fits_bounds ⟨rfl, rfl, rfl, rfl, rfl⟩ (hr.mono (by decide)) rfl (pa_cons (pv 0) (pa_cons (pe_op op_rep (pe_lst (pa_cons (pv 1) pa_nil)) (pe_callB (r := rLenQ K) call_len_seq (by rfl) T.b_len (by decide +kernel) (pa_cons (pv 0) pa_nil))) pa_nil)))))), fun os Pp h => ?_⟩)
  · obtain ⟨ds, d, rfl, ⟨x, m, rfl, hx, hz, rfl⟩, q⟩ := h
    rfl
  · obtain ⟨ds, d, rfl, ⟨x, m, rfl, hx, hz, rfl⟩, q⟩ := h
    show SvP K E0 _ [some (.d x), some (.d (.int m))] _
    have fin : ∀ (r : Bool) (ρ : Rh), ρ.length = 2 → isLog x m = r → retS (List.map Ow.d [x, .int m]) Pp (.rt (.d (.bl r)) ρ) := fun r ρ hl e => by
      refine ret_rt (pms_d _ _ (by rw [hl]; exact Nat.le_of_ble_eq_true rfl)) ?_
      rw [← e]
      exact q
    walk_at "dls"
    refine ⟨[x], _, rfl, ⟨x, rfl, hx, rfl⟩, ?_⟩
    walk_at "dls"
    · rename_i hb _
      refine fin _ _ rfl ?_
      unfold isLog
      rw [seq_none (by cases h : x.isSeq; rfl; rw [h] at hb; exact nomatch hb)]
    · rename_i hb
      obtain ⟨t, vs, hs⟩ := seq_some (x := x) (by cases h : x.isSeq; rw [h] at hb; exact nomatch hb; rfl)
      obtain ⟨z1, z2⟩ := tynAll_seq hs hz
      walk_at "dls"
      · rename_i hb2
        refine fin _ _ rfl ?_
        unfold isLog
        rw [hs]
        have : ¬ vs.length ≤ 10000 := by
          simp at hb2
          omega
        show (decide (vs.length ≤ 10000) && _) = false
        rw [decide_eq_false this, Bool.false_and]
      · rename_i hb2
        have hb3 : vs.length ≤ 10000 := by
          simp at hb2
          omega
        walk_at "dls"
        refine ev_rep ?_
        refine DL.ev_lst ?_
        walk_at "dls"
        refine ⟨[.int m], rfl, Nat.le_of_ble_eq_true rfl, ?_⟩
        walk_at "dls"
        refine ⟨by omega, by omega, ?_⟩
        walk_at "dls"
        refine ⟨[x, .lst (List.replicate (vs.length : Int).toNat (.int m))], _, rfl, ⟨x, _, false, List.replicate vs.length m, rfl, hx, hz, ?_, rfl⟩, ?_⟩
        · rw [List.map_replicate]
          rfl
        · walk_at "dls"
          refine fin _ _ rfl ?_
          rw [fitsB_seq hs]
          unfold isLog
          rw [hs]
          show (decide (vs.length ≤ 10000) && _) = _
          rw [decide_eq_true hb3, Bool.true_and]

end
end K23

namespace K23
open PySem L2 Evl DL
local macro_rules | `(tactic| walk_at "dl") => `(tactic| first
  | with_reducible refine bnd_ok ?_ | with_reducible refine bndS_ok ?_ | with_reducible refine onE_ok ?_ | with_reducible refine seq_nx ?_ | with_reducible refine seq_rt ?_ | with_reducible refine seq_bk ?_ | with_reducible refine seq_ct ?_ | with_reducible refine onT_rt ?_ | with_reducible refine onT_bk ?_ | with_reducible refine resS_nx ?_ | with_reducible refine resS_rt ?_
  | refine ev_v rfl ?_ | refine ev_l rfl ?_ | with_reducible refine ev_i ?_ | with_reducible refine ev_n ?_ | with_reducible refine ev_b ?_ | with_reducible refine ev_s ?_
  | with_reducible refine ev_oZ0 ?_ | with_reducible refine ev_oB0 ?_ | with_reducible refine ev_oZ ?_ | with_reducible refine ev_neg ?_ | with_reducible refine ev_neI ?_ | with_reducible refine ev_eqI ?_ | with_reducible refine ev_isN ?_ | with_reducible refine ev_notN ?_ | with_reducible refine ev_chain ?_
  | with_reducible refine ev_andV ?_ | with_reducible refine ev_orV ?_ | with_reducible refine ev_notV ?_ | with_reducible refine ev_if ?_
  | with_reducible refine tv_test ?_ | with_reducible refine tv_B ?_ | with_reducible refine tv_and ?_ | with_reducible refine tv_or ?_ | with_reducible refine tv_not ?_ | with_reducible refine tv_yes ?_
  | with_reducible refine ev_isiInt ?_ | with_reducible refine ev_isiBool ?_ | with_reducible refine ev_isiSeq ?_
  | with_reducible refine av_cons ?_ | with_reducible refine av_nil ?_
  | with_reducible refine ev_pure ?_ | with_reducible refine ev_gcd ?_ | with_reducible refine ev_abs ?_ | with_reducible refine ev_int1 ?_
  | (with_reducible refine DL.ev_len ?_; refine av_cons ?_; refine ev_v rfl ?_; refine bnd_ok ?_; refine av_nil ?_; refine ⟨_, _, _, rfl, by first | rfl | assumption, ?_⟩)
  | with_reducible refine ev_fldD ?_ | with_reducible refine ev_ixS ?_
  | with_reducible refine sv_seq ?_ | with_reducible refine sv_next ?_ | with_reducible refine sv_brk ?_ | with_reducible refine sv_cont ?_ | with_reducible refine sv_ret ?_ | with_reducible refine sv_retN ?_ | with_reducible refine sv_if ?_ | with_reducible refine sv_drop ?_
  | with_reducible refine sv_asg ?_
  | refine ⟨_, rfl, fun hb => ?_, fun hb => ?_⟩
  | refine ⟨_, _, rfl, rfl, fun hb => ?_, fun hb => ?_⟩
  | refine ⟨_, _, rfl, rfl, ?_⟩
  | refine ⟨_, _, _, _, rfl, rfl, rfl, ?_⟩
  | refine ⟨_, rfl, ?_⟩ | refine ⟨_, _, rfl, ?_⟩
  | refine And.intro rfl ?_ | refine And.intro (Nat.le_of_ble_eq_true rfl) ?_ | refine And.intro (by assumption) ?_)
local macro_rules | `(tactic| walk_at "dls") => `(tactic| repeat (walk_at "dl"; all_goals try (first | (exact (nomatch ‹false = true›)) | (exact (nomatch ‹true = false›)))))
local macro_rules | `(tactic| walk_at "dla") => `(tactic| repeat' (first | (exact (nomatch ‹false = true›)) | (exact (nomatch ‹true = false›)) | walk_at "dl"))
local macro_rules | `(tactic| walk_at "dlr") => `(tactic| (refine ret_rt (pms_d _ _ (Nat.le_of_ble_eq_true rfl)) ?_))
local macro_rules | `(tactic| walk_at "dlt") => `(tactic| first | walk_at "dl" | with_reducible refine ev_tup2 ?_ | with_reducible refine ev_tup3 ?_)
local macro_rules | `(tactic| walk_at "dlts") => `(tactic| repeat walk_at "dlt")
section
variable {P : Program} {w : World} {K : PySem.W.Frag} [HasTabs K] {mg : Str → Option Value} {base : Heap} {CH CD : Addr}
abbrev s_check_logs : Stmt := topS 30
abbrev N_check_logs : List Str := ["hands", "value", "hand", "log"]
theorem sc_check_logs : FnScope N_check_logs ["hands", "value"] (defScope s_check_logs) := ⟨rfl, rfl, rfl, by decide +kernel, rfl, by decide +kernel, by decide +kernel⟩
structure LogsOk (ms : List Int) (rs : List Dat) : Prop where
  len : rs.length = ms.length
  row : ∀ (i : Nat) (r : Dat) (m : Int), rs[i]? = some r → ms[i]? = some m → isLog r m = true ∧ r.tyn.isSome = true ∧ tynAll r
def R_check_logs (CH : Addr) : List Dat → Dat → Prop := fun ds d => ∃ (ms : List Int) (y : Dat) (t : Bool) (rs : List Dat), ds = [hObj CH ms, y] ∧ Good ms ∧ y.tyn.isSome = true ∧ y.seq = some (t, rs) ∧ LogsOk ms rs ∧ d = .tup (rs.map tupOf)
theorem isLog_seq {x : Dat} {m : Int} (h : isLog x m = true) : ∃ t vs, x.seq = some (t, vs) := by
  unfold isLog at h
  cases hs : x.seq with
  | none => rw [hs] at h; exact nomatch h
  | some p => exact ⟨p.1, p.2, rfl⟩
theorem ok_check_logs (T : Txt mg) (LH : ClHands K CH) (O_is_sequence : Ok P w K mg base 1 "is_sequence" ["value"] (pureR R_is_sequence)) (O_is_log : Ok P w K mg base 4 "is_log" ["value", "marks"] (pureR R_is_log)) (O_as_tuples : Ok P w K mg base 1 "as_tuples" ["rows"] (pureR R_as_tuples)) (F : Dfn K mg "check_logs" "check_logs" s_check_logs ["hands", "value"]) : Ok P w K mg base 5 "check_logs" ["hands", "value"] (pureR (R_check_logs CH)) := by
  refine F.ok sc_check_logs (by decide) (fun os Pp h => ?_) pureR_noex (fun f cdv A outer s H E hr => ⟨_, (pss_cons (ps_if (PW.pt (pw_or (pt_not (pt_val (pe_fn O_is_sequence ⟨rfl, rfl, rfl, rfl, rfl⟩ (hr.mono (by decide)) rfl (pa_cons (pv 1) pa_nil)))) (pw_or1 (pt_cmpR op_ne (pe_callB (r := rLenQ K) call_len_seq (by rfl) T.b_len (by decide +kernel) (pa_cons (pv 1) pa_nil)) (pe_fldK (K := K) rfl (pv 0) rfl) (nomark _))))) (pss_one ps_never) pss_nil) (pss_cons (ps_for PassesOwn.never rfl (pi_enumK (K := K) rfl (by rfl) T.b_enumerate (pa_cons (pv 1) pa_nil)) (pg_tup rfl (pgs_cons (pg_name (i := 2) sc_check_logs.nd rfl (.inl rfl)) (pgs_cons (pg_name (i := 3) sc_check_logs.nd rfl (.inl rfl)) pgs_nil))) (pss_one (ps_if (pt_not (pt_val (pe_fn O_is_log ⟨rfl, rfl, rfl, rfl, rfl⟩ (hr.mono (by decide)) rfl (pa_cons (pv 3) (pa_cons (pe_ix (r := rIx K) ix_seq (pe_fldK (K := K) rfl (pv 0) rfl) (pv 2) (fun _ _ => rfl)) pa_nil))))) (pss_one ps_never) pss_nil))) (pss_one (ps_ret (pe_fn O_as_tuples ⟨rfl, rfl, rfl, rfl, rfl⟩ (hr.mono (by decide)) rfl (pa_cons (pv 1) pa_nil)))))), fun os Pp h => ?_⟩)
  · obtain ⟨ds, d, rfl, ⟨ms, y, t, rs, rfl, hg, hx, hy, hl, rfl⟩, q⟩ := h
    rfl
  · obtain ⟨ds, d, rfl, ⟨ms, y, t, rs, rfl, hg, hx, hy, hl, rfl⟩, q⟩ := h
    show SvP K E0 _ [some (.d (hObj CH ms)), some (.d y), none, none] _
    have hle : rs.length ≤ 8 := by rw [hl.len]; exact hg.2.1
    walk_at "dls"
    refine ⟨[y], _, rfl, ⟨y, rfl, hx, rfl⟩, ?_⟩
    walk_at "dls"
    · rename_i hb _
      rw [seq_isSeq hy] at hb
      exact nomatch hb
    · walk_at "dls"
      refine ⟨_, _, _, rfl, LH.c, LH.n, rfl, ?_⟩
      walk_at "dls"
      · rename_i hb
        rw [hl.len] at hb
        simp at hb
      · walk_at "dls"
        refine sv_for (ws := [2] ++ ([3] ++ [])) ?_
        refine iv_enum ?_
        walk_at "dls"
        refine ⟨_, _, _, rfl, hy, ?_⟩
        refine loop_inv (fun i ρ' => ∃ u v, ρ' = [some (.d (hObj CH ms)), some (.d y), u, v]) ⟨_, _, rfl⟩ (fun i d ρ' hi he => ?_) (fun ρ' he => ?_)
        · obtain ⟨u, v, rfl⟩ := he
          have hd : ∃ r, rs[i]? = some r ∧ d = .tup [.int (i : Int), r] := by
            cases hm : rs[i]? with
            | none =>
              have : (enumD rs)[i]? = none := by
                rw [List.getElem?_eq_none_iff] at hm ⊢
                rw [enumD_len]
                exact hm
              rw [this] at hi
              cases hi
            | some z =>
              rw [enumD_get hm] at hi
              exact ⟨z, rfl, (Option.some.inj hi).symm⟩
          obtain ⟨r, hr2, rfl⟩ := hd
          have hi2 : i < ms.length := by
            have := (List.getElem?_eq_some_iff.mp hr2).1
            rw [hl.len] at this
            exact this
          obtain ⟨hlog, ht, hz⟩ := hl.row i r ms[i] hr2 (List.getElem?_eq_getElem hi2)
          refine gv_tup rfl (gs_cons (gv_name (Nat.le_of_ble_eq_true rfl) (gs_cons (gv_name (Nat.le_of_ble_eq_true rfl) (gs_nil ?_)))))
          walk_at "dls"
          refine ⟨_, _, _, rfl, LH.c, LH.m, rfl, ?_⟩
          walk_at "dls"
          refine ⟨.tup (ms.map Dat.int), true, ms.map Dat.int, (i : Int), .int ms[i], rfl, rfl, rfl, ?_, ?_⟩
          · exact atD_nat (by rw [List.getElem?_map, List.getElem?_eq_getElem hi2]; rfl)
          · walk_at "dls"
            refine ⟨[r, .int ms[i]], _, rfl, ⟨r, _, rfl, ht, hz, rfl⟩, ?_⟩
            rw [hlog]
            walk_at "dls"
            exact onT_nx (Wk.refl _) ⟨_, _, rfl⟩
        · obtain ⟨u, v, rfl⟩ := he
          walk_at "dls"
          refine ⟨[y], _, rfl, ⟨y, t, rs, rfl, hy, by omega, fun r hr2 => ?_, rfl⟩, ?_⟩
          · obtain ⟨i, hi, rfl⟩ := List.getElem_of_mem hr2
            exact isLog_seq (hl.row i _ (ms[i]'(by rw [← hl.len]; exact hi)) (List.getElem?_eq_getElem hi) (List.getElem?_eq_getElem _)).1
          · walk_at "dls"
            walk_at "dlr"
            exact q

end
end K23

namespace K23
open PySem L2 Evl DL
local macro_rules | `(tactic| walk_at "dl") => `(tactic| first
  | with_reducible refine bnd_ok ?_ | with_reducible refine bndS_ok ?_ | with_reducible refine onE_ok ?_ | with_reducible refine seq_nx ?_ | with_reducible refine seq_rt ?_ | with_reducible refine seq_bk ?_ | with_reducible refine seq_ct ?_ | with_reducible refine onT_rt ?_ | with_reducible refine onT_bk ?_ | with_reducible refine resS_nx ?_ | with_reducible refine resS_rt ?_
  | refine ev_v rfl ?_ | refine ev_l rfl ?_ | with_reducible refine ev_i ?_ | with_reducible refine ev_n ?_ | with_reducible refine ev_b ?_ | with_reducible refine ev_s ?_
  | with_reducible refine ev_oZ0 ?_ | with_reducible refine ev_oB0 ?_ | with_reducible refine ev_oZ ?_ | with_reducible refine ev_neg ?_ | with_reducible refine ev_neI ?_ | with_reducible refine ev_eqI ?_ | with_reducible refine ev_isN ?_ | with_reducible refine ev_notN ?_ | with_reducible refine ev_chain ?_
  | with_reducible refine ev_andV ?_ | with_reducible refine ev_orV ?_ | with_reducible refine ev_notV ?_ | with_reducible refine ev_if ?_
  | with_reducible refine tv_test ?_ | with_reducible refine tv_B ?_ | with_reducible refine tv_and ?_ | with_reducible refine tv_or ?_ | with_reducible refine tv_not ?_ | with_reducible refine tv_yes ?_
  | with_reducible refine ev_isiInt ?_ | with_reducible refine ev_isiBool ?_ | with_reducible refine ev_isiSeq ?_
  | with_reducible refine av_cons ?_ | with_reducible refine av_nil ?_
  | with_reducible refine ev_pure ?_ | with_reducible refine ev_gcd ?_ | with_reducible refine ev_abs ?_ | with_reducible refine ev_int1 ?_
  | (with_reducible refine DL.ev_len ?_; refine av_cons ?_; refine ev_v rfl ?_; refine bnd_ok ?_; refine av_nil ?_; refine ⟨_, _, _, rfl, by first | rfl | assumption, ?_⟩)
  | with_reducible refine ev_fldD ?_ | with_reducible refine ev_ixS ?_
  | with_reducible refine sv_seq ?_ | with_reducible refine sv_next ?_ | with_reducible refine sv_brk ?_ | with_reducible refine sv_cont ?_ | with_reducible refine sv_ret ?_ | with_reducible refine sv_retN ?_ | with_reducible refine sv_if ?_ | with_reducible refine sv_drop ?_
  | with_reducible refine sv_asg ?_
  | refine ⟨_, rfl, fun hb => ?_, fun hb => ?_⟩
  | refine ⟨_, _, rfl, rfl, fun hb => ?_, fun hb => ?_⟩
  | refine ⟨_, _, rfl, rfl, ?_⟩
  | refine ⟨_, _, _, _, rfl, rfl, rfl, ?_⟩
  | refine ⟨_, rfl, ?_⟩ | refine ⟨_, _, rfl, ?_⟩
  | refine And.intro rfl ?_ | refine And.intro (Nat.le_of_ble_eq_true rfl) ?_ | refine And.intro (by assumption) ?_)
local macro_rules | `(tactic| walk_at "dls") => `(tactic| repeat (walk_at "dl"; all_goals try (first | (exact (nomatch ‹false = true›)) | (exact (nomatch ‹true = false›)))))
local macro_rules | `(tactic| walk_at "dla") => `(tactic| repeat' (first | (exact (nomatch ‹false = true›)) | (exact (nomatch ‹true = false›)) | walk_at "dl"))
local macro_rules | `(tactic| walk_at "dlr") => `(tactic| (refine ret_rt (pms_d _ _ (Nat.le_of_ble_eq_true rfl)) ?_))
local macro_rules | `(tactic| walk_at "dlt") => `(tactic| first | walk_at "dl" | with_reducible refine ev_tup2 ?_ | with_reducible refine ev_tup3 ?_)
local macro_rules | `(tactic| walk_at "dlts") => `(tactic| repeat walk_at "dlt")
section
variable {P : Program} {w : World} {K : PySem.W.Frag} [HasTabs K] {mg : Str → Option Value} {base : Heap} {CH CD : Addr}
/-- the marks that deeds write stand within their hand's -/
def InM (ms : List Int) (rows : List (List Int)) : Prop := ∀ (j : Nat) (r : List Int) (m : Int), rows[j]? = some r → ms[j]? = some m → ∀ k ∈ r, 0 ≤ k ∧ k < m
theorem gr_vals {ms : List Int} (g : Good ms) : ∀ (hs : List Nat) (p : Int × List (List Int)), (∀ h ∈ hs, h < ms.length) → InM ms p.2 → InM ms (hs.foldl (grF ms) p).2
  | [], p, _, h => h
  | x :: hs, p, hb, h => by
    refine gr_vals g hs (grF ms p x) (fun k hk => hb k (List.mem_cons_of_mem _ hk)) (fun j r m e1 e2 k hk => ?_)
    have hx := hb x List.mem_cons_self
    obtain ⟨mx, w, q⟩ := g.part hx
    have e1 : (p.2.set x (p.2.getD x [] ++ [p.1 % ms.getD x 1]))[j]? = some r := e1
    by_cases z : x = j
    · subst z
      have hl : x < p.2.length := by
        have := (List.getElem?_eq_some_iff.mp e1).1
        rw [List.length_set] at this
        exact this
      rw [List.getElem?_set_self hl] at e1
      cases e1
      have em : mx = m := Option.some.inj (q.hm.symm.trans e2)
      subst em
      have hrow := List.getElem?_eq_getElem hl
      rw [List.getD_eq_getElem?_getD, hrow, List.getD_eq_getElem?_getD, q.hm] at hk
      rcases List.mem_append.mp hk with a | a
      · exact h x _ mx hrow e2 k a
      · have a : k = p.1 % mx := by simpa using a
        have := q.m1
        rw [a]
        exact ⟨Int.emod_nonneg _ (by omega), Int.emod_lt_of_pos _ (by omega)⟩
    · rw [List.getElem?_set_ne z] at e1
      exact h j r m e1 e2 k hk
theorem grI_vals {ms : List Int} (g : Good ms) {x : Int} {hs : List Nat} (hb : ∀ h ∈ hs, h < ms.length) : InM ms (grI ms x hs).2 :=
  gr_vals g hs _ hb fun j r m e1 _ k hk => by
    have := List.mem_of_getElem? e1
    rw [List.eq_of_mem_replicate this] at hk
    exact absurd hk List.not_mem_nil
theorem fits_rowM {r : List Int} {m : Int} (h : ∀ k ∈ r, 0 ≤ k ∧ k < m) : fitsL (r.map Dat.int) (List.replicate r.length m) = true := by
  unfold fitsL
  rw [Bool.and_eq_true]
  refine ⟨by rw [List.length_map, List.length_replicate]; simp, ?_⟩
  rw [List.all_eq_true]
  intro x hx
  obtain ⟨a, b⟩ := x
  have h1 := (List.of_mem_zip hx).1
  have h2 := (List.of_mem_zip hx).2
  obtain ⟨k, hk, rfl⟩ := List.mem_map.mp h1
  have h2 := List.eq_of_mem_replicate h2
  subst h2
  have := h k hk
  show isBelow (.int k) b = true
  unfold isBelow
  simp [isNum, this.1, this.2]
theorem logs_okM {ms : List Int} {rows : List (List Int)} (hl : rows.length = ms.length) (hM : InM ms rows) (hr : ∀ r ∈ rows, r.length ≤ 10000) : LogsOk ms (rowsD rows) := by
  refine ⟨by unfold rowsD; rw [List.length_map]; exact hl, fun i d m h1 h2 => ?_⟩
  unfold rowsD at h1
  rw [List.getElem?_map] at h1
  cases hx : rows[i]? with
  | none => rw [hx] at h1; exact nomatch h1
  | some r =>
    rw [hx] at h1
    cases h1
    have hlr := hr r (List.mem_of_getElem? hx)
    have hf := fits_rowM (hM i r m hx h2)
    have ht : ∀ v ∈ r.map Dat.int, v.tyn.isSome = true := fun v hv => by
      obtain ⟨k, _, rfl⟩ := List.mem_map.mp hv
      rfl
    have hd : decide ((r.map Dat.int).length ≤ 10000) = true := decide_eq_true (by rw [List.length_map]; exact hlr)
    have hq : fitsL (r.map Dat.int) (List.replicate (r.map Dat.int).length m) = true := by rw [List.length_map]; exact hf
    refine ⟨?_, rfl, by rw [List.length_map]; omega, ht⟩
    show (decide ((r.map Dat.int).length ≤ 10000) && fitsL (r.map Dat.int) (List.replicate (r.map Dat.int).length m)) = true
    rw [hd, hq]; rfl
theorem tup_rowsM (rows : List (List Int)) : (rowsD rows).map tupOf = rowsD rows := by
  unfold rowsD
  rw [List.map_map]
  rfl
theorem shw_rowsM {ms : List Int} (hg : Good ms) {rows : List (List Int)} (hM : InM ms rows) (hl : rows.length = ms.length) (hr : ∀ r ∈ rows, r.length ≤ 400) : Shw 2 45000 (.tup (rowsD rows)) := by
  refine shw_tup (n := 1) (c := 5204) (fun d hd => ?_) (by unfold rowsD; rw [List.length_map]; have := hg.2.1; omega)
  obtain ⟨r, hr2, rfl⟩ := List.mem_map.mp hd
  obtain ⟨j, hj⟩ := List.getElem?_of_mem hr2
  have hj2 : j < ms.length := by have := (List.getElem?_eq_some_iff.mp hj).1; omega
  refine shw_tup (n := 0) (c := 11) (shw_map fun k hk => shw_int ?_) (by rw [List.length_map]; have := hr r hr2; omega)
  have := hM j r ms[j] hj (List.getElem?_eq_getElem hj2) k hk
  have := hg.2.2 ms[j] (List.getElem_mem _)
  omega

end
end K23

namespace K23
open PySem L2 Evl DL
local macro_rules | `(tactic| walk_at "dl") => `(tactic| first
  | with_reducible refine bnd_ok ?_ | with_reducible refine bndS_ok ?_ | with_reducible refine onE_ok ?_ | with_reducible refine seq_nx ?_ | with_reducible refine seq_rt ?_ | with_reducible refine seq_bk ?_ | with_reducible refine seq_ct ?_ | with_reducible refine onT_rt ?_ | with_reducible refine onT_bk ?_ | with_reducible refine resS_nx ?_ | with_reducible refine resS_rt ?_
  | refine ev_v rfl ?_ | refine ev_l rfl ?_ | with_reducible refine ev_i ?_ | with_reducible refine ev_n ?_ | with_reducible refine ev_b ?_ | with_reducible refine ev_s ?_
  | with_reducible refine ev_oZ0 ?_ | with_reducible refine ev_oB0 ?_ | with_reducible refine ev_oZ ?_ | with_reducible refine ev_neg ?_ | with_reducible refine ev_neI ?_ | with_reducible refine ev_eqI ?_ | with_reducible refine ev_isN ?_ | with_reducible refine ev_notN ?_ | with_reducible refine ev_chain ?_
  | with_reducible refine ev_andV ?_ | with_reducible refine ev_orV ?_ | with_reducible refine ev_notV ?_ | with_reducible refine ev_if ?_
  | with_reducible refine tv_test ?_ | with_reducible refine tv_B ?_ | with_reducible refine tv_and ?_ | with_reducible refine tv_or ?_ | with_reducible refine tv_not ?_ | with_reducible refine tv_yes ?_
  | with_reducible refine ev_isiInt ?_ | with_reducible refine ev_isiBool ?_ | with_reducible refine ev_isiSeq ?_
  | with_reducible refine av_cons ?_ | with_reducible refine av_nil ?_
  | with_reducible refine ev_pure ?_ | with_reducible refine ev_gcd ?_ | with_reducible refine ev_abs ?_ | with_reducible refine ev_int1 ?_
  | (with_reducible refine DL.ev_len ?_; refine av_cons ?_; refine ev_v rfl ?_; refine bnd_ok ?_; refine av_nil ?_; refine ⟨_, _, _, rfl, by first | rfl | assumption, ?_⟩)
  | with_reducible refine ev_fldD ?_ | with_reducible refine ev_ixS ?_
  | with_reducible refine sv_seq ?_ | with_reducible refine sv_next ?_ | with_reducible refine sv_brk ?_ | with_reducible refine sv_cont ?_ | with_reducible refine sv_ret ?_ | with_reducible refine sv_retN ?_ | with_reducible refine sv_if ?_ | with_reducible refine sv_drop ?_
  | with_reducible refine sv_asg ?_
  | refine ⟨_, rfl, fun hb => ?_, fun hb => ?_⟩
  | refine ⟨_, _, rfl, rfl, fun hb => ?_, fun hb => ?_⟩
  | refine ⟨_, _, rfl, rfl, ?_⟩
  | refine ⟨_, _, _, _, rfl, rfl, rfl, ?_⟩
  | refine ⟨_, rfl, ?_⟩ | refine ⟨_, _, rfl, ?_⟩
  | refine And.intro rfl ?_ | refine And.intro (Nat.le_of_ble_eq_true rfl) ?_ | refine And.intro (by assumption) ?_)
local macro_rules | `(tactic| walk_at "dls") => `(tactic| repeat (walk_at "dl"; all_goals try (first | (exact (nomatch ‹false = true›)) | (exact (nomatch ‹true = false›)))))
local macro_rules | `(tactic| walk_at "dla") => `(tactic| repeat' (first | (exact (nomatch ‹false = true›)) | (exact (nomatch ‹true = false›)) | walk_at "dl"))
local macro_rules | `(tactic| walk_at "dlr") => `(tactic| (refine ret_rt (pms_d _ _ (Nat.le_of_ble_eq_true rfl)) ?_))
local macro_rules | `(tactic| walk_at "dlt") => `(tactic| first | walk_at "dl" | with_reducible refine ev_tup2 ?_ | with_reducible refine ev_tup3 ?_)
local macro_rules | `(tactic| walk_at "dlts") => `(tactic| repeat walk_at "dlt")
section
variable {P : Program} {w : World} {K : PySem.W.Frag} [HasTabs K] {mg : Str → Option Value} {base : Heap} {CH CD : Addr}
abbrev s__law_box : Stmt := topS 51
abbrev N__law_box : List Str := ["script", "k", "cell", "great"]
theorem sc__law_box : FnScope N__law_box ["script", "k"] (defScope s__law_box) := ⟨rfl, rfl, rfl, by decide +kernel, rfl, by decide +kernel, by decide +kernel⟩
local macro_rules | `(tactic| walk_at "boxs") => `(tactic| first | walk_at "dl" | refine And.intro (show (0 : Int) < _ by decide) ?_ | refine And.intro (Or.inr ⟨by decide, by decide⟩) ?_ | refine And.intro (Or.inl ⟨by decide, by decide⟩) ?_ | refine And.intro (Or.inl ⟨by omega, by omega⟩) ?_)
local macro_rules | `(tactic| walk_at "boxe") => `(tactic| (refine ⟨⟨by decide, by decide, by decide⟩, ?_⟩; walk_at "dls" <;> (walk_at "dls"; refine ev_lsto ?_; (repeat walk_at "boxs"); (intro a); (repeat walk_at "boxs"); (refine ret_rt (.dat (.dat .nil)) ?_))))
abbrev boxO (a : Addr) (g s : Int) : Ow := .l a ([Dat.int g, Dat.int s].map Ow.d)
def R_law_box : Pr := fun os Pp => ∃ (ns : List Int) (k : Int), os = [.d (.scr ns), .d (.int k)] ∧ 0 ≤ k ∧ k < 1000000 ∧ ∀ a g s, Pp (.ok (boxO a g s)) [.d (.scr ns), .d (.int k)]
theorem R_law_box_noex (os : List Ow) (Pp : Re → List Ow → Prop) (h : R_law_box os Pp) : R_law_box os (fun r us => (match r with | .ok _ => True | .ex _ _ => False) ∧ Pp r us) := by
  obtain ⟨ns, k, h1, h2, h3, q⟩ := h
  exact ⟨ns, k, h1, h2, h3, fun a g s => ⟨trivial, q a g s⟩⟩
theorem ok__law_box (T : Txt mg) (F : Dfn K mg "_law_box" "_law_box" s__law_box ["script", "k"]) : Ok P w K mg base 1 "_law_box" ["script", "k"] R_law_box := by
  refine F.ok sc__law_box (by decide) (fun os Pp h => ?_) R_law_box_noex (fun f cdv A outer s H E hr => ⟨_, (pss_cons (ps_set (i := 2) sc__law_box.nd rfl (.inl rfl) (pe_op op_add (pe_op op_mul pe_int (pv 1)) pe_int)) (pss_cons (ps_if (pt_cmpR op_lt (pv 1) (pe_callB (r := rLenQ K) call_len_seq (by rfl) T.b_len (by decide +kernel) (pa_cons (pv 0) pa_nil)) (nomark _)) (pss_one (ps_set (i := 2) sc__law_box.nd rfl (.inl rfl) (pe_callB call_abs (by rfl) T.b_abs (by decide +kernel) (pa_cons (pe_callTy call_int1 (by rfl) T.b_int (by decide +kernel) (pa_cons (pe_ix (r := rIxL K) ix_list (pv 0) (pv 1) (fun _ _ => rfl)) pa_nil)) pa_nil)))) (pss_one (ps_if (pt_cmpR op_gt (pe_callB (r := rLenQ K) call_len_seq (by rfl) T.b_len (by decide +kernel) (pa_cons (pv 0) pa_nil)) pe_int (nomark _)) (pss_one (ps_set (i := 2) sc__law_box.nd rfl (.inl rfl) (pe_op op_add (pv 2) (pe_op op_mul (pe_op op_mod (pe_callTy call_int1 (by rfl) T.b_int (by decide +kernel) (pa_cons (pe_callB call_abs (by rfl) T.b_abs (by decide +kernel) (pa_cons (pe_callTy call_int1 (by rfl) T.b_int (by decide +kernel) (pa_cons (pe_ix (r := rIxL K) ix_list (pv 0) (pe_op op_mod (pe_callTy call_int1 (by rfl) T.b_int (by decide +kernel) (pa_cons (pv 1) pa_nil)) (pe_callB (r := rLenQ K) call_len_seq (by rfl) T.b_len (by decide +kernel) (pa_cons (pv 0) pa_nil))) (fun _ _ => rfl)) pa_nil)) pa_nil)) pa_nil)) pe_int) pe_int)))) pss_nil))) (pss_cons (ps_set (i := 3) sc__law_box.nd rfl (.inl rfl) (pe_ifExp (pt_cmpR op_ge (pv 2) (pe_op op_pow pe_int pe_int) (nomark _)) (pv 2) pe_int)) (pss_one (ps_ret (pe_lst (pa_cons (pv 3) (pa_cons (pe_op op_add (pe_op op_mod (pe_callTy call_int1 (by rfl) T.b_int (by decide +kernel) (pa_cons (pe_op op_add (pe_op op_mul (pe_op op_mod (pe_callTy call_int1 (by rfl) T.b_int (by decide +kernel) (pa_cons (pv 2) pa_nil)) pe_int) pe_int) (pe_op op_mul pe_int (pv 1))) pa_nil)) pe_int) pe_int) pa_nil)))))))), fun os Pp h => ?_⟩)
  · obtain ⟨ns, k, rfl, h1, h2, q⟩ := h
    rfl
  · obtain ⟨ns, k, rfl, h1, h2, q⟩ := h
    show SvP K E0 _ [some (.d (.scr ns)), some (.d (.int k)), none, none] _
    walk_at "dls"
    refine ⟨.inl ⟨by omega, by omega⟩, ?_⟩
    walk_at "dls"
    refine DL.ev_lenS ?_
    walk_at "dls"
    · rename_i hb
      refine ev_ixScr ?_
      walk_at "dls"
      have hk : k.toNat < ns.length := by
        have := of_decide_eq_true hb
        omega
      refine ⟨ns, k, ns[k.toNat], rfl, rfl, ?_, ?_⟩
      · have := atD_nat (List.getElem?_eq_getElem hk)
        rw [Int.toNat_of_nonneg h1] at this
        exact this
      · generalize ns[k.toNat] = z
        walk_at "dls"
        walk_at "boxe" <;> exact q _ _ _
    · walk_at "dls"
      refine DL.ev_lenS ?_
      walk_at "dls"
      · rename_i hb
        have hp : 0 < (ns.length : Int) := of_decide_eq_true hb
        refine ev_ixScr ?_
        walk_at "dls"
        refine DL.ev_lenS ?_
        walk_at "dls"
        refine ⟨ns, k % (ns.length : Int), ns[(k % (ns.length : Int)).toNat]'(by
          have a1 := Int.emod_lt_of_pos k hp
          have a2 := Int.emod_nonneg k (Int.ne_of_gt hp)
          omega), rfl, rfl, ?_, ?_⟩
        · have a1 := Int.emod_lt_of_pos k hp
          have a2 := Int.emod_nonneg k (Int.ne_of_gt hp)
          have hk : (k % (ns.length : Int)).toNat < ns.length := by omega
          have := atD_nat (List.getElem?_eq_getElem hk)
          rw [Int.toNat_of_nonneg a2] at this
          exact this
        · generalize ns[(k % (ns.length : Int)).toNat]'_ = z
          repeat walk_at "boxs"
          walk_at "boxe" <;> exact q _ _ _
      · walk_at "dls"
        walk_at "boxe" <;> exact q _ _ _

end
end K23

namespace K23
open PySem L2 Evl DL
local macro_rules | `(tactic| walk_at "dl") => `(tactic| first
  | with_reducible refine bnd_ok ?_ | with_reducible refine bndS_ok ?_ | with_reducible refine onE_ok ?_ | with_reducible refine seq_nx ?_ | with_reducible refine seq_rt ?_ | with_reducible refine seq_bk ?_ | with_reducible refine seq_ct ?_ | with_reducible refine onT_rt ?_ | with_reducible refine onT_bk ?_ | with_reducible refine resS_nx ?_ | with_reducible refine resS_rt ?_
  | refine ev_v rfl ?_ | refine ev_l rfl ?_ | with_reducible refine ev_i ?_ | with_reducible refine ev_n ?_ | with_reducible refine ev_b ?_ | with_reducible refine ev_s ?_
  | with_reducible refine ev_oZ0 ?_ | with_reducible refine ev_oB0 ?_ | with_reducible refine ev_oZ ?_ | with_reducible refine ev_neg ?_ | with_reducible refine ev_neI ?_ | with_reducible refine ev_eqI ?_ | with_reducible refine ev_isN ?_ | with_reducible refine ev_notN ?_ | with_reducible refine ev_chain ?_
  | with_reducible refine ev_andV ?_ | with_reducible refine ev_orV ?_ | with_reducible refine ev_notV ?_ | with_reducible refine ev_if ?_
  | with_reducible refine tv_test ?_ | with_reducible refine tv_B ?_ | with_reducible refine tv_and ?_ | with_reducible refine tv_or ?_ | with_reducible refine tv_not ?_ | with_reducible refine tv_yes ?_
  | with_reducible refine ev_isiInt ?_ | with_reducible refine ev_isiBool ?_ | with_reducible refine ev_isiSeq ?_
  | with_reducible refine av_cons ?_ | with_reducible refine av_nil ?_
  | with_reducible refine ev_pure ?_ | with_reducible refine ev_gcd ?_ | with_reducible refine ev_abs ?_ | with_reducible refine ev_int1 ?_
  | (with_reducible refine DL.ev_len ?_; refine av_cons ?_; refine ev_v rfl ?_; refine bnd_ok ?_; refine av_nil ?_; refine ⟨_, _, _, rfl, by first | rfl | assumption, ?_⟩)
  | with_reducible refine ev_fldD ?_ | with_reducible refine ev_ixS ?_
  | with_reducible refine sv_seq ?_ | with_reducible refine sv_next ?_ | with_reducible refine sv_brk ?_ | with_reducible refine sv_cont ?_ | with_reducible refine sv_ret ?_ | with_reducible refine sv_retN ?_ | with_reducible refine sv_if ?_ | with_reducible refine sv_drop ?_
  | with_reducible refine sv_asg ?_
  | refine ⟨_, rfl, fun hb => ?_, fun hb => ?_⟩
  | refine ⟨_, _, rfl, rfl, fun hb => ?_, fun hb => ?_⟩
  | refine ⟨_, _, rfl, rfl, ?_⟩
  | refine ⟨_, _, _, _, rfl, rfl, rfl, ?_⟩
  | refine ⟨_, rfl, ?_⟩ | refine ⟨_, _, rfl, ?_⟩
  | refine And.intro rfl ?_ | refine And.intro (Nat.le_of_ble_eq_true rfl) ?_ | refine And.intro (by assumption) ?_)
local macro_rules | `(tactic| walk_at "dls") => `(tactic| repeat (walk_at "dl"; all_goals try (first | (exact (nomatch ‹false = true›)) | (exact (nomatch ‹true = false›)))))
local macro_rules | `(tactic| walk_at "dla") => `(tactic| repeat' (first | (exact (nomatch ‹false = true›)) | (exact (nomatch ‹true = false›)) | walk_at "dl"))
local macro_rules | `(tactic| walk_at "dlr") => `(tactic| (refine ret_rt (pms_d _ _ (Nat.le_of_ble_eq_true rfl)) ?_))
local macro_rules | `(tactic| walk_at "dlt") => `(tactic| first | walk_at "dl" | with_reducible refine ev_tup2 ?_ | with_reducible refine ev_tup3 ?_)
local macro_rules | `(tactic| walk_at "dlts") => `(tactic| repeat walk_at "dlt")
section
variable {P : Program} {w : World} {K : PySem.W.Frag} [HasTabs K] {mg : Str → Option Value} {base : Heap} {CH CD : Addr}
abbrev s__law_common : Stmt := topS 54
abbrev N__law_common : List Str := ["one", "other", "turn", "high", "low"]
theorem sc__law_common : FnScope N__law_common ["one", "other"] (defScope s__law_common) := ⟨rfl, rfl, rfl, by decide +kernel, rfl, by decide +kernel, by decide +kernel⟩
/-- the greatest common divisor by turns -/
def euI : Nat → Int → Int → Int
  | 0, h, _ => h
  | n + 1, h, l => if l = 0 then h else euI n l (h % l)
def comI (a b : Int) : Int := a / euI 64 a b * b
def R_law_common : List Dat → Dat → Prop := fun ds d => ∃ (a b : Int), ds = [.int a, .int b] ∧ 0 < a ∧ 0 < b ∧ a < 1000000 ∧ b < 1000000 ∧ d = .int (comI a b)
theorem ok__law_common (T : Txt mg) (F : Dfn K mg "_law_common" "_law_common" s__law_common ["one", "other"]) : Ok P w K mg base 1 "_law_common" ["one", "other"] (pureR R_law_common) := by
  refine F.ok sc__law_common (by decide) (fun os Pp h => ?_) pureR_noex (fun f cdv A outer s H E hr => ⟨_, (pss_cons (ps_par (i := 3) (j := 4) rfl sc__law_common.nd rfl rfl (by decide) rfl rfl (pa_cons (pv 0) (pa_cons (pv 1) pa_nil)) rfl) (pss_cons (ps_for PassesOwn.never rfl (pi_range1 (by rfl) T.b_range (pa_cons pe_int pa_nil)) (pg_name (i := 2) sc__law_common.nd rfl (.inl rfl)) (pss_cons (ps_if (pt_cmpR op_eq (pv 4) pe_int (nomark _)) (pss_one ps_break) pss_nil) (pss_one (ps_par (i := 3) (j := 4) rfl sc__law_common.nd rfl rfl (by decide) rfl rfl (pa_cons (pv 4) (pa_cons (pe_op op_mod (pe_callTy call_int1 (by rfl) T.b_int (by decide +kernel) (pa_cons (pv 3) pa_nil)) (pv 4)) pa_nil)) rfl)))) (pss_one (ps_ret (pe_op op_mul (pe_op op_fdiv (pv 0) (pv 3)) (pv 1)))))), fun os Pp h => ?_⟩)
  · obtain ⟨ds, d, rfl, ⟨a, b, rfl, ha, hb, ha2, hb2, rfl⟩, q⟩ := h
    rfl
  · obtain ⟨ds, d, rfl, ⟨a, b, rfl, ha, hb, ha2, hb2, rfl⟩, q⟩ := h
    show SvP K E0 _ [some (.d (.int a)), some (.d (.int b)), none, none, none] _
    walk_at "dls"
    refine sv_par ?_
    walk_at "dls"
    refine sv_for (ws := [2]) ?_
    refine iv_rng1 ?_
    walk_at "dls"
    refine ⟨by decide, by decide, ?_⟩
    refine loop_inv (fun i ρ' => ∃ u h l, ρ' = [some (.d (.int a)), some (.d (.int b)), u, some (.d (.int h)), some (.d (.int l))] ∧ euI (64 - i) h l = euI 64 a b ∧ 0 < h ∧ h < 1000000 ∧ 0 ≤ l ∧ l < 1000000) ⟨_, _, _, rfl, rfl, ha, ha2, by omega, hb2⟩ (fun i d ρ' hi he => ?_) (fun ρ' he => ?_)
    · obtain ⟨u, h, l, rfl, he, h1, h2, h3, h4⟩ := he
      have hil : i < 64 := by
        have := (List.getElem?_eq_some_iff.mp hi).1
        rw [rangeD_len] at this
        exact this
      refine gv_name (Nat.le_of_ble_eq_true rfl) ?_
      obtain ⟨j, hj⟩ : ∃ j, 64 - i = j + 1 := ⟨63 - i, by omega⟩
      rw [hj] at he
      have he : (if l = 0 then h else euI j l (h % l)) = euI 64 a b := he
      walk_at "dls"
      · rename_i hb
        rw [if_pos (of_decide_eq_true hb)] at he
        subst he
        refine ⟨⟨by omega, by omega⟩, ?_⟩
        walk_at "dls"
        refine ⟨.inr ⟨by omega, by omega⟩, ?_⟩
        walk_at "dls"
        walk_at "dlr"
        exact q
      · rename_i hb
        have hl0 := of_decide_eq_false hb
        rw [if_neg hl0] at he
        walk_at "dls"
        refine sv_par ?_
        walk_at "dls"
        refine ⟨show 0 < l by omega, ?_⟩
        walk_at "dls"
        refine onT_nx (Wk.refl _) ⟨_, l, h % l, rfl, ?_, by omega, h4, Int.emod_nonneg _ hl0, ?_⟩
        · rw [show 64 - (i + 1) = j by omega]
          exact he
        · have := Int.emod_lt_of_pos h (show 0 < l by omega)
          omega
    · obtain ⟨u, h, l, rfl, he, h1, h2, h3, h4⟩ := he
      rw [rangeD_len] at he
      have he : h = euI 64 a b := he
      subst he
      walk_at "dls"
      refine ⟨⟨by omega, by omega⟩, ?_⟩
      walk_at "dls"
      refine ⟨.inr ⟨by omega, by omega⟩, ?_⟩
      walk_at "dls"
      walk_at "dlr"
      exact q

end
end K23

namespace K23
open PySem L2 Evl DL
local macro_rules | `(tactic| walk_at "dl") => `(tactic| first
  | with_reducible refine bnd_ok ?_ | with_reducible refine bndS_ok ?_ | with_reducible refine onE_ok ?_ | with_reducible refine seq_nx ?_ | with_reducible refine seq_rt ?_ | with_reducible refine seq_bk ?_ | with_reducible refine seq_ct ?_ | with_reducible refine onT_rt ?_ | with_reducible refine onT_bk ?_ | with_reducible refine resS_nx ?_ | with_reducible refine resS_rt ?_
  | refine ev_v rfl ?_ | refine ev_l rfl ?_ | with_reducible refine ev_i ?_ | with_reducible refine ev_n ?_ | with_reducible refine ev_b ?_ | with_reducible refine ev_s ?_
  | with_reducible refine ev_oZ0 ?_ | with_reducible refine ev_oB0 ?_ | with_reducible refine ev_oZ ?_ | with_reducible refine ev_neg ?_ | with_reducible refine ev_neI ?_ | with_reducible refine ev_eqI ?_ | with_reducible refine ev_isN ?_ | with_reducible refine ev_notN ?_ | with_reducible refine ev_chain ?_
  | with_reducible refine ev_andV ?_ | with_reducible refine ev_orV ?_ | with_reducible refine ev_notV ?_ | with_reducible refine ev_if ?_
  | with_reducible refine tv_test ?_ | with_reducible refine tv_B ?_ | with_reducible refine tv_and ?_ | with_reducible refine tv_or ?_ | with_reducible refine tv_not ?_ | with_reducible refine tv_yes ?_
  | with_reducible refine ev_isiInt ?_ | with_reducible refine ev_isiBool ?_ | with_reducible refine ev_isiSeq ?_
  | with_reducible refine av_cons ?_ | with_reducible refine av_nil ?_
  | with_reducible refine ev_pure ?_ | with_reducible refine ev_gcd ?_ | with_reducible refine ev_abs ?_ | with_reducible refine ev_int1 ?_
  | (with_reducible refine DL.ev_len ?_; refine av_cons ?_; refine ev_v rfl ?_; refine bnd_ok ?_; refine av_nil ?_; refine ⟨_, _, _, rfl, by first | rfl | assumption, ?_⟩)
  | with_reducible refine ev_fldD ?_ | with_reducible refine ev_ixS ?_
  | with_reducible refine sv_seq ?_ | with_reducible refine sv_next ?_ | with_reducible refine sv_brk ?_ | with_reducible refine sv_cont ?_ | with_reducible refine sv_ret ?_ | with_reducible refine sv_retN ?_ | with_reducible refine sv_if ?_ | with_reducible refine sv_drop ?_
  | with_reducible refine sv_asg ?_
  | refine ⟨_, rfl, fun hb => ?_, fun hb => ?_⟩
  | refine ⟨_, _, rfl, rfl, fun hb => ?_, fun hb => ?_⟩
  | refine ⟨_, _, rfl, rfl, ?_⟩
  | refine ⟨_, _, _, _, rfl, rfl, rfl, ?_⟩
  | refine ⟨_, rfl, ?_⟩ | refine ⟨_, _, rfl, ?_⟩
  | refine And.intro rfl ?_ | refine And.intro (Nat.le_of_ble_eq_true rfl) ?_ | refine And.intro (by assumption) ?_)
local macro_rules | `(tactic| walk_at "dls") => `(tactic| repeat (walk_at "dl"; all_goals try (first | (exact (nomatch ‹false = true›)) | (exact (nomatch ‹true = false›)))))
local macro_rules | `(tactic| walk_at "dla") => `(tactic| repeat' (first | (exact (nomatch ‹false = true›)) | (exact (nomatch ‹true = false›)) | walk_at "dl"))
local macro_rules | `(tactic| walk_at "dlr") => `(tactic| (refine ret_rt (pms_d _ _ (Nat.le_of_ble_eq_true rfl)) ?_))
local macro_rules | `(tactic| walk_at "dlt") => `(tactic| first | walk_at "dl" | with_reducible refine ev_tup2 ?_ | with_reducible refine ev_tup3 ?_)
local macro_rules | `(tactic| walk_at "dlts") => `(tactic| repeat walk_at "dlt")
section
variable {P : Program} {w : World} {K : PySem.W.Frag} [HasTabs K] {mg : Str → Option Value} {base : Heap} {CH CD : Addr}
abbrev s_Refused___init__ : Stmt := inClass (topS 13) 0
abbrev N_Refused___init__ : List Str := ["self", "at"]
theorem sc_Refused___init__ : FnScope N_Refused___init__ ["self", "at"] (defScope s_Refused___init__) := ⟨rfl, rfl, rfl, by decide +kernel, rfl, by decide +kernel, by decide +kernel⟩
theorem er_Refused {CR : Addr} (F : DfnE K mg "Refused" "Refused.__init__" s_Refused___init__ CR ["at"]) : ErrC P w K mg base "Refused" CR ["at"] := F.err1 rfl sc_Refused___init__ (.inl rfl) (.inl rfl) rfl rfl

end
end K23

namespace K23
open PySem L2 Evl DL
local macro_rules | `(tactic| walk_at "dl") => `(tactic| first
  | with_reducible refine bnd_ok ?_ | with_reducible refine bndS_ok ?_ | with_reducible refine onE_ok ?_ | with_reducible refine seq_nx ?_ | with_reducible refine seq_rt ?_ | with_reducible refine seq_bk ?_ | with_reducible refine seq_ct ?_ | with_reducible refine onT_rt ?_ | with_reducible refine onT_bk ?_ | with_reducible refine resS_nx ?_ | with_reducible refine resS_rt ?_
  | refine ev_v rfl ?_ | refine ev_l rfl ?_ | with_reducible refine ev_i ?_ | with_reducible refine ev_n ?_ | with_reducible refine ev_b ?_ | with_reducible refine ev_s ?_
  | with_reducible refine ev_oZ0 ?_ | with_reducible refine ev_oB0 ?_ | with_reducible refine ev_oZ ?_ | with_reducible refine ev_neg ?_ | with_reducible refine ev_neI ?_ | with_reducible refine ev_eqI ?_ | with_reducible refine ev_isN ?_ | with_reducible refine ev_notN ?_ | with_reducible refine ev_chain ?_
  | with_reducible refine ev_andV ?_ | with_reducible refine ev_orV ?_ | with_reducible refine ev_notV ?_ | with_reducible refine ev_if ?_
  | with_reducible refine tv_test ?_ | with_reducible refine tv_B ?_ | with_reducible refine tv_and ?_ | with_reducible refine tv_or ?_ | with_reducible refine tv_not ?_ | with_reducible refine tv_yes ?_
  | with_reducible refine ev_isiInt ?_ | with_reducible refine ev_isiBool ?_ | with_reducible refine ev_isiSeq ?_
  | with_reducible refine av_cons ?_ | with_reducible refine av_nil ?_
  | with_reducible refine ev_pure ?_ | with_reducible refine ev_gcd ?_ | with_reducible refine ev_abs ?_ | with_reducible refine ev_int1 ?_
  | (with_reducible refine DL.ev_len ?_; refine av_cons ?_; refine ev_v rfl ?_; refine bnd_ok ?_; refine av_nil ?_; refine ⟨_, _, _, rfl, by first | rfl | assumption, ?_⟩)
  | with_reducible refine ev_fldD ?_ | with_reducible refine ev_ixS ?_
  | with_reducible refine sv_seq ?_ | with_reducible refine sv_next ?_ | with_reducible refine sv_brk ?_ | with_reducible refine sv_cont ?_ | with_reducible refine sv_ret ?_ | with_reducible refine sv_retN ?_ | with_reducible refine sv_if ?_ | with_reducible refine sv_drop ?_
  | with_reducible refine sv_asg ?_
  | refine ⟨_, rfl, fun hb => ?_, fun hb => ?_⟩
  | refine ⟨_, _, rfl, rfl, fun hb => ?_, fun hb => ?_⟩
  | refine ⟨_, _, rfl, rfl, ?_⟩
  | refine ⟨_, _, _, _, rfl, rfl, rfl, ?_⟩
  | refine ⟨_, rfl, ?_⟩ | refine ⟨_, _, rfl, ?_⟩
  | refine And.intro rfl ?_ | refine And.intro (Nat.le_of_ble_eq_true rfl) ?_ | refine And.intro (by assumption) ?_)
local macro_rules | `(tactic| walk_at "dls") => `(tactic| repeat (walk_at "dl"; all_goals try (first | (exact (nomatch ‹false = true›)) | (exact (nomatch ‹true = false›)))))
local macro_rules | `(tactic| walk_at "dla") => `(tactic| repeat' (first | (exact (nomatch ‹false = true›)) | (exact (nomatch ‹true = false›)) | walk_at "dl"))
local macro_rules | `(tactic| walk_at "dlr") => `(tactic| (refine ret_rt (pms_d _ _ (Nat.le_of_ble_eq_true rfl)) ?_))
local macro_rules | `(tactic| walk_at "dlt") => `(tactic| first | walk_at "dl" | with_reducible refine ev_tup2 ?_ | with_reducible refine ev_tup3 ?_)
local macro_rules | `(tactic| walk_at "dlts") => `(tactic| repeat walk_at "dlt")
section
variable {P : Program} {w : World} {K : PySem.W.Frag} [HasTabs K] {mg : Str → Option Value} {base : Heap} {CH CD : Addr}
abbrev s_need_swallowing : Stmt := topS 47
abbrev N_need_swallowing : List Str := ["hands", "top", "bottom"]
theorem sc_need_swallowing : FnScope N_need_swallowing ["hands"] (defScope s_need_swallowing) := ⟨rfl, rfl, rfl, by decide +kernel, rfl, by decide +kernel, by decide +kernel⟩
def R_need_swallowing (CH : Addr) : List Dat → Dat → Prop := fun ds d => ∃ ms, ds = [hObj CH ms] ∧ Good ms ∧ shT ms < shB ms ∧ d = hObj CH ms
theorem ok_need_swallowing (T : Txt mg) (O_share : Ok P w K mg base 2 "share" ["hands"] (pureR (R_share CH))) (F : Dfn K mg "need_swallowing" "need_swallowing" s_need_swallowing ["hands"]) : Ok P w K mg base 3 "need_swallowing" ["hands"] (pureR (R_need_swallowing CH)) := by
  refine F.ok sc_need_swallowing (by decide) (fun os Pp h => ?_) pureR_noex (fun f cdv A outer s H E hr => ⟨_, (pss_cons (ps_asg (pe_fn O_share ⟨rfl, rfl, rfl, rfl, rfl⟩ (hr.mono (by decide)) rfl (pa_cons (pv 0) pa_nil)) (pg_tup rfl (pgs_cons (pg_name (i := 1) sc_need_swallowing.nd rfl (.inl rfl)) (pgs_cons (pg_name (i := 2) sc_need_swallowing.nd rfl (.inl rfl)) pgs_nil)))) (pss_cons (ps_if (pt_cmpR op_ge (pv 1) (pv 2) (nomark _)) (pss_one ps_never) pss_nil) (pss_one (ps_ret (pv 0))))), fun os Pp h => ?_⟩)
  · obtain ⟨ds, d, rfl, ⟨ms, rfl, hg, ht, rfl⟩, q⟩ := h
    rfl
  · obtain ⟨ds, d, rfl, ⟨ms, rfl, hg, ht, rfl⟩, q⟩ := h
    show SvP K E0 _ [some (.d (hObj CH ms)), none, none] _
    walk_at "dls"
    refine sv_asgG (ws := [1] ++ ([2] ++ [])) ?_
    walk_at "dls"
    refine ⟨[hObj CH ms], _, rfl, ⟨ms, rfl, hg, rfl⟩, ?_⟩
    walk_at "dls"
    refine gv_tup rfl (gs_cons (gv_name (Nat.le_of_ble_eq_true rfl) (gs_cons (gv_name (Nat.le_of_ble_eq_true rfl) (gs_nil ?_)))))
    walk_at "dls"
    · rename_i hb
      exact absurd (of_decide_eq_true hb) (by omega)
    · walk_at "dls"
      walk_at "dlr"
      exact q
def R_need_swallowingX (CH CR : Addr) : Pr := fun os Pp => ∃ ms, os = [.d (hObj CH ms)] ∧ Good ms ∧ if shT ms < shB ms then Pp (.ok (.d (hObj CH ms))) os else Pp (.ex CR [("at", hObj CH ms)]) os
theorem okx_need_swallowing (T : Txt mg) {CR : Addr} (ER_Refused : ErrC P w K mg base "Refused" CR ["at"]) (O_share : Ok P w K mg base 2 "share" ["hands"] (pureR (R_share CH))) (F : Dfn K mg "need_swallowing" "need_swallowing" s_need_swallowing ["hands"]) : OkX P w K mg base 3 "need_swallowing" ["hands"] (R_need_swallowingX CH CR) := by
  refine F.okX sc_need_swallowing (by decide) (fun os Pp h => ?_) (fun f cdv A outer s H E hr => ⟨_, (pss_cons (ps_asg (pe_fnE (E := E) O_share ⟨rfl, rfl, rfl, rfl, rfl⟩ (hr.mono (by decide)) rfl (pa_cons (pv 0) pa_nil)) (pg_tup rfl (pgs_cons (pg_name (i := 1) sc_need_swallowing.nd rfl (.inl rfl)) (pgs_cons (pg_name (i := 2) sc_need_swallowing.nd rfl (.inl rfl)) pgs_nil)))) (pss_cons (ps_if (pt_cmpR op_ge (pv 1) (pv 2) (nomark _)) (pss_one (ps_raiseE ER_Refused (takes_of rfl rfl rfl rfl) rfl ⟨rfl, rfl, rfl, rfl, rfl⟩ (hr.mono (by decide)) rfl (pa_cons (pv 0) pa_nil))) pss_nil) (pss_one (ps_ret (pv 0))))), fun os Pp h => ?_⟩)
  · obtain ⟨ms, rfl, hg, q⟩ := h
    rfl
  · obtain ⟨ms, rfl, hg, q⟩ := h
    show SvP K E _ [some (.d (hObj CH ms)), none, none] _
    walk_at "dls"
    refine sv_asgG (ws := [1] ++ ([2] ++ [])) ?_
    walk_at "dls"
    refine ⟨[hObj CH ms], _, rfl, ⟨ms, rfl, hg, rfl⟩, ?_⟩
    walk_at "dls"
    refine gv_tup rfl (gs_cons (gv_name (Nat.le_of_ble_eq_true rfl) (gs_cons (gv_name (Nat.le_of_ble_eq_true rfl) (gs_nil ?_)))))
    walk_at "dls"
    · rename_i hb
      rw [if_neg (by have := of_decide_eq_true hb; omega)] at q
      walk_at "dls"
      refine sv_raise ER_Refused.ox ER_Refused.no ER_Refused.few ?_
      walk_at "dls"
      exact ⟨[hObj CH ms], rfl, rfl, _, pms_d [hObj CH ms] _ (Nat.le_of_ble_eq_true rfl), q⟩
    · rename_i hb
      rw [if_pos (by have := of_decide_eq_false hb; omega)] at q
      walk_at "dls"
      exact ret_rt (pms_d [hObj CH ms] _ (Nat.le_of_ble_eq_true rfl)) q

end
end K23

namespace K23
open PySem L2 Evl DL
local macro_rules | `(tactic| walk_at "dl") => `(tactic| first
  | with_reducible refine bnd_ok ?_ | with_reducible refine bndS_ok ?_ | with_reducible refine onE_ok ?_ | with_reducible refine seq_nx ?_ | with_reducible refine seq_rt ?_ | with_reducible refine seq_bk ?_ | with_reducible refine seq_ct ?_ | with_reducible refine onT_rt ?_ | with_reducible refine onT_bk ?_ | with_reducible refine resS_nx ?_ | with_reducible refine resS_rt ?_
  | refine ev_v rfl ?_ | refine ev_l rfl ?_ | with_reducible refine ev_i ?_ | with_reducible refine ev_n ?_ | with_reducible refine ev_b ?_ | with_reducible refine ev_s ?_
  | with_reducible refine ev_oZ0 ?_ | with_reducible refine ev_oB0 ?_ | with_reducible refine ev_oZ ?_ | with_reducible refine ev_neg ?_ | with_reducible refine ev_neI ?_ | with_reducible refine ev_eqI ?_ | with_reducible refine ev_isN ?_ | with_reducible refine ev_notN ?_ | with_reducible refine ev_chain ?_
  | with_reducible refine ev_andV ?_ | with_reducible refine ev_orV ?_ | with_reducible refine ev_notV ?_ | with_reducible refine ev_if ?_
  | with_reducible refine tv_test ?_ | with_reducible refine tv_B ?_ | with_reducible refine tv_and ?_ | with_reducible refine tv_or ?_ | with_reducible refine tv_not ?_ | with_reducible refine tv_yes ?_
  | with_reducible refine ev_isiInt ?_ | with_reducible refine ev_isiBool ?_ | with_reducible refine ev_isiSeq ?_
  | with_reducible refine av_cons ?_ | with_reducible refine av_nil ?_
  | with_reducible refine ev_pure ?_ | with_reducible refine ev_gcd ?_ | with_reducible refine ev_abs ?_ | with_reducible refine ev_int1 ?_
  | (with_reducible refine DL.ev_len ?_; refine av_cons ?_; refine ev_v rfl ?_; refine bnd_ok ?_; refine av_nil ?_; refine ⟨_, _, _, rfl, by first | rfl | assumption, ?_⟩)
  | with_reducible refine ev_fldD ?_ | with_reducible refine ev_ixS ?_
  | with_reducible refine sv_seq ?_ | with_reducible refine sv_next ?_ | with_reducible refine sv_brk ?_ | with_reducible refine sv_cont ?_ | with_reducible refine sv_ret ?_ | with_reducible refine sv_retN ?_ | with_reducible refine sv_if ?_ | with_reducible refine sv_drop ?_
  | with_reducible refine sv_asg ?_
  | refine ⟨_, rfl, fun hb => ?_, fun hb => ?_⟩
  | refine ⟨_, _, rfl, rfl, fun hb => ?_, fun hb => ?_⟩
  | refine ⟨_, _, rfl, rfl, ?_⟩
  | refine ⟨_, _, _, _, rfl, rfl, rfl, ?_⟩
  | refine ⟨_, rfl, ?_⟩ | refine ⟨_, _, rfl, ?_⟩
  | refine And.intro rfl ?_ | refine And.intro (Nat.le_of_ble_eq_true rfl) ?_ | refine And.intro (by assumption) ?_)
local macro_rules | `(tactic| walk_at "dls") => `(tactic| repeat (walk_at "dl"; all_goals try (first | (exact (nomatch ‹false = true›)) | (exact (nomatch ‹true = false›)))))
local macro_rules | `(tactic| walk_at "dla") => `(tactic| repeat' (first | (exact (nomatch ‹false = true›)) | (exact (nomatch ‹true = false›)) | walk_at "dl"))
local macro_rules | `(tactic| walk_at "dlr") => `(tactic| (refine ret_rt (pms_d _ _ (Nat.le_of_ble_eq_true rfl)) ?_))
local macro_rules | `(tactic| walk_at "dlt") => `(tactic| first | walk_at "dl" | with_reducible refine ev_tup2 ?_ | with_reducible refine ev_tup3 ?_)
local macro_rules | `(tactic| walk_at "dlts") => `(tactic| repeat walk_at "dlt")
section
variable {P : Program} {w : World} {K : PySem.W.Frag} [HasTabs K] {mg : Str → Option Value} {base : Heap} {CH CD : Addr}
abbrev s_resting_number : Stmt := topS 48
abbrev N_resting_number : List Str := ["hands", "rates", "rounds", "rest", "first", "_"]
theorem sc_resting_number : FnScope N_resting_number ["hands"] (defScope s_resting_number) := ⟨rfl, rfl, rfl, by decide +kernel, rfl, by decide +kernel, by decide +kernel⟩
theorem _root_.DL.DfnK.dfn {K : PySem.W.Frag} {mg : Str → Option Value} {x qual : Str} {st : Stmt} {ps : List Str} (F : DfnK K mg x qual st ps) : Dfn K mg x qual st ps := by
  obtain ⟨f, fd, h1, h2, h3, _, h5⟩ := F.ex
  exact ⟨f, fd, h1, h2, h3, h5⟩
/-- the resting number -/
def restI (ms : List Int) : Int := fsI ms (ms.length - 1) / (lcI ms - whI ms) * lcI ms + fsI ms (ms.length - 1) % (lcI ms - whI ms) + fsI ms (ms.length - 1) % (lcI ms - whI ms) / (ms.getD (ms.length - 1) 1 - 1)
/-- hands that swallow -/
structure Sw (ms : List Int) : Prop where
  sm : Sm ms
  sh : shT ms < shB ms
  wl : whI ms < lcI ms
  m2 : 2 ≤ ms.getD (ms.length - 1) 1
def R_resting_number (CH : Addr) : List Dat → Dat → Prop := fun ds d => ∃ ms, ds = [hObj CH ms] ∧ Sw ms ∧ d = .int (restI ms)
theorem ok_resting_number {CT : Addr} (T : Txt mg) (LR : ClRates K CT) (LH : ClHands K CH) (O_need_swallowing : Ok P w K mg base 3 "need_swallowing" ["hands"] (pureR (R_need_swallowing CH))) (O_Rates : OkC P w K mg base 2 "Rates" ["self", "hands"] CT (R_Rates CH CT)) (F : DfnK K mg "resting_number" "resting_number" s_resting_number ["hands"]) : Ok P w K mg base 4 "resting_number" ["hands"] (pureR (R_resting_number CH)) ∧ OkK P w K mg base 4 "resting_number" ["hands"] (pureR (R_resting_number CH)) := by
  refine F.ok sc_resting_number (by decide) (fun os Pp h => ?_) pureR_noex (fun f cdv A outer s H E hr => ⟨_, (pss_cons (ps_set (i := 1) sc_resting_number.nd rfl (.inl rfl) (pe_cls O_Rates ⟨rfl, rfl, rfl, rfl, rfl⟩ (hr.mono (by decide)) rfl (pa_cons (pe_fn O_need_swallowing ⟨rfl, rfl, rfl, rfl, rfl⟩ (hr.mono (by decide)) rfl (pa_cons (pv 0) pa_nil)) pa_nil))) (pss_cons (ps_asg (pe_ix (r := rIx K) ix_seq (pe_fldK (K := K) rfl (pv 1) rfl) (pe_un un_neg pe_int) (fun _ _ => rfl)) (pg_tup rfl (pgs_cons (pg_name (i := 4) sc_resting_number.nd rfl (.inl rfl)) (pgs_cons (pg_name (i := 5) sc_resting_number.nd rfl (.inl rfl)) pgs_nil)))) (pss_cons (ps_set (i := 2) sc_resting_number.nd rfl (.inl rfl) (pe_op op_fdiv (pv 4) (pe_op op_sub (pe_fldK (K := K) rfl (pv 1) rfl) (pe_fldK (K := K) rfl (pv 1) rfl)))) (pss_cons (ps_set (i := 3) sc_resting_number.nd rfl (.inl rfl) (pe_op op_mod (pv 4) (pe_op op_sub (pe_fldK (K := K) rfl (pv 1) rfl) (pe_fldK (K := K) rfl (pv 1) rfl)))) (pss_one (ps_ret (pe_op op_add (pe_op op_add (pe_op op_mul (pv 2) (pe_fldK (K := K) rfl (pv 1) rfl)) (pv 3)) (pe_op op_fdiv (pv 3) (pe_op op_sub (pe_ix (r := rIx K) ix_seq (pe_fldK (K := K) rfl (pv 0) rfl) (pe_un un_neg pe_int) (fun _ _ => rfl)) pe_int))))))))), fun os Pp h => ?_⟩)
  · obtain ⟨ds, d, rfl, ⟨ms, rfl, hS, rfl⟩, q⟩ := h
    rfl
  · obtain ⟨ds, d, rfl, ⟨ms, rfl, hS, rfl⟩, q⟩ := h
    have hg := hS.sm.g
    have hl1 := hg.1
    have hs := hS.sm.s
    have hwl := hS.wl
    have hw := hS.sm.wh
    have hlt : ms.length - 1 < ms.length := by omega
    obtain ⟨m, w0, p⟩ := hg.part hlt
    have hm := p.m1
    have hmm := p.m2
    have hm2 : 2 ≤ m := by
      have := hS.m2
      rw [List.getD_eq_getElem?_getD, p.hm] at this
      exact this
    have hrest : restI ms = fsI ms (ms.length - 1) / (lcI ms - whI ms) * lcI ms + fsI ms (ms.length - 1) % (lcI ms - whI ms) + fsI ms (ms.length - 1) % (lcI ms - whI ms) / (m - 1) := by
      unfold restI
      rw [List.getD_eq_getElem?_getD, p.hm]
      rfl
    have hsp : atI ((spansI (ptsI ms)).map spD) (-1) = some (spD (fsI ms (ms.length - 1), whI ms)) := by
      have hsl : (spansI (ptsI ms)).length = ms.length := by
        have := spans_len (ptsI ms) ([], 0)
        unfold spansI
        rw [this]
        show 0 + (ptsI ms).length = _
        unfold ptsI
        rw [List.length_map, Nat.zero_add]
      refine atR_last ?_
      rw [List.length_map, hsl, List.getElem?_map, wh_span hg]
      rfl
    have hmk : atI (ms.map Dat.int) (-1) = some (.int m) := by
      refine atR_last ?_
      rw [List.length_map, List.getElem?_map, p.hm]
      rfl
    show SvP K E0 _ [some (.d (hObj CH ms)), none, none, none, none, none] _
    walk_at "dls"
    refine DL.ev_make ?_ R_Rates_mono
    walk_at "dls"
    refine ⟨[hObj CH ms], _, rfl, ⟨ms, rfl, hg, hS.sh, rfl⟩, ?_⟩
    refine bnd_ok (av_nil fun a => ?_)
    refine ⟨a, ms, rfl, hS.sm, rfl, _, _, rfl, ?_⟩
    walk_at "dls"
    refine sv_asgG (ws := [4] ++ ([5] ++ [])) ?_
    walk_at "dls"
    refine ⟨_, _, _, rfl, LR.c, LR.s, rfl, ?_⟩
    walk_at "dls"
    refine ⟨_, _, _, _, _, rfl, rfl, rfl, hsp, ?_⟩
    walk_at "dls"
    refine gv_tup rfl (gs_cons (gv_name (Nat.le_of_ble_eq_true rfl) (gs_cons (gv_name (Nat.le_of_ble_eq_true rfl) (gs_nil ?_)))))
    walk_at "dls"
    refine ⟨_, _, _, rfl, LR.c, LR.a, rfl, ?_⟩
    walk_at "dls"
    refine ⟨_, _, _, rfl, LR.c, LR.b, rfl, ?_⟩
    walk_at "dls"
    refine ⟨⟨by omega, by omega⟩, ?_⟩
    walk_at "dls"
    refine ⟨_, _, _, rfl, LR.c, LR.a, rfl, ?_⟩
    walk_at "dls"
    refine ⟨_, _, _, rfl, LR.c, LR.b, rfl, ?_⟩
    walk_at "dls"
    refine ⟨show 0 < lcI ms - whI ms by omega, ?_⟩
    walk_at "dls"
    refine ⟨_, _, _, rfl, LR.c, LR.a, rfl, ?_⟩
    walk_at "dls"
    refine ⟨.inr ⟨by omega, by omega⟩, ?_⟩
    walk_at "dls"
    refine ⟨_, _, _, rfl, LH.c, LH.m, rfl, ?_⟩
    walk_at "dls"
    refine ⟨_, _, _, _, _, rfl, rfl, rfl, hmk, ?_⟩
    walk_at "dls"
    refine ⟨⟨by omega, by omega⟩, ?_⟩
    walk_at "dls"
    walk_at "dlr"
    rw [hrest] at q
    exact q
def R_resting_numberX (CH CR : Addr) : Pr := fun os Pp => ∃ ms, os = [.d (hObj CH ms)] ∧ ((Sw ms ∧ Pp (.ok (.d (.int (restI ms)))) os) ∨ (Good ms ∧ ¬ shT ms < shB ms ∧ Pp (.ex CR [("at", hObj CH ms)]) os))
theorem okx_resting_number {CT CR : Addr} (T : Txt mg) (LR : ClRates K CT) (LH : ClHands K CH) (OX_need_swallowing : OkX P w K mg base 3 "need_swallowing" ["hands"] (R_need_swallowingX CH CR)) (O_Rates : OkC P w K mg base 2 "Rates" ["self", "hands"] CT (R_Rates CH CT)) (F : DfnK K mg "resting_number" "resting_number" s_resting_number ["hands"]) : OkX P w K mg base 4 "resting_number" ["hands"] (R_resting_numberX CH CR) := by
  refine F.dfn.okX sc_resting_number (by decide) (fun os Pp h => ?_) (fun f cdv A outer s H E hr => ⟨_, (pss_cons (ps_set (i := 1) sc_resting_number.nd rfl (.inl rfl) (pe_clsE (E := E) O_Rates ⟨rfl, rfl, rfl, rfl, rfl⟩ (hr.mono (by decide)) rfl (pa_cons (pe_fnX (E := E) OX_need_swallowing (takes_of rfl rfl rfl rfl) ⟨rfl, rfl, rfl, rfl, rfl⟩ (hr.mono (by decide)) rfl (pa_cons (pv 0) pa_nil)) pa_nil))) (pss_cons (ps_asg (pe_ix (r := rIx K) ix_seq (pe_fldK (K := K) rfl (pv 1) rfl) (pe_un un_neg pe_int) (fun _ _ => rfl)) (pg_tup rfl (pgs_cons (pg_name (i := 4) sc_resting_number.nd rfl (.inl rfl)) (pgs_cons (pg_name (i := 5) sc_resting_number.nd rfl (.inl rfl)) pgs_nil)))) (pss_cons (ps_set (i := 2) sc_resting_number.nd rfl (.inl rfl) (pe_op op_fdiv (pv 4) (pe_op op_sub (pe_fldK (K := K) rfl (pv 1) rfl) (pe_fldK (K := K) rfl (pv 1) rfl)))) (pss_cons (ps_set (i := 3) sc_resting_number.nd rfl (.inl rfl) (pe_op op_mod (pv 4) (pe_op op_sub (pe_fldK (K := K) rfl (pv 1) rfl) (pe_fldK (K := K) rfl (pv 1) rfl)))) (pss_one (ps_ret (pe_op op_add (pe_op op_add (pe_op op_mul (pv 2) (pe_fldK (K := K) rfl (pv 1) rfl)) (pv 3)) (pe_op op_fdiv (pv 3) (pe_op op_sub (pe_ix (r := rIx K) ix_seq (pe_fldK (K := K) rfl (pv 0) rfl) (pe_un un_neg pe_int) (fun _ _ => rfl)) pe_int))))))))), fun os Pp h => ?_⟩)
  · obtain ⟨ms, rfl, q⟩ := h
    rfl
  · obtain ⟨ms, rfl, q⟩ := h
    have bk : ∀ (A : Dat) (ρ : Rh), bks [Ow.d A] ρ = ρ := fun A ρ => rfl
    show SvP K E _ [some (.d (hObj CH ms)), none, none, none, none, none] _
    walk_at "dls"
    refine DL.ev_make ?_ R_Rates_mono
    refine av_cons ?_
    refine ev_call ?_
    refine av_cons (ev_v rfl (bnd_ok (av_nil ?_)))
    rcases q with ⟨hS, q⟩ | ⟨hg, hn, q⟩
    · refine ⟨ms, rfl, hS.sm.g, ?_⟩
      rw [if_pos hS.sh]
      dsimp only
      rw [bk]
      refine bnd_ok (av_nil fun a => ?_)
      have hg := hS.sm.g
      have hl1 := hg.1
      have hs := hS.sm.s
      have hwl := hS.wl
      have hw := hS.sm.wh
      have hlt : ms.length - 1 < ms.length := by omega
      obtain ⟨m, w0, p⟩ := hg.part hlt
      have hm := p.m1
      have hmm := p.m2
      have hm2 : 2 ≤ m := by
        have := hS.m2
        rw [List.getD_eq_getElem?_getD, p.hm] at this
        exact this
      have hrest : restI ms = fsI ms (ms.length - 1) / (lcI ms - whI ms) * lcI ms + fsI ms (ms.length - 1) % (lcI ms - whI ms) + fsI ms (ms.length - 1) % (lcI ms - whI ms) / (m - 1) := by
        unfold restI
        rw [List.getD_eq_getElem?_getD, p.hm]
        rfl
      have hsp : atI ((spansI (ptsI ms)).map spD) (-1) = some (spD (fsI ms (ms.length - 1), whI ms)) := by
        have hsl : (spansI (ptsI ms)).length = ms.length := by
          have := spans_len (ptsI ms) ([], 0)
          unfold spansI
          rw [this]
          show 0 + (ptsI ms).length = _
          unfold ptsI
          rw [List.length_map, Nat.zero_add]
        refine atR_last ?_
        rw [List.length_map, hsl, List.getElem?_map, wh_span hg]
        rfl
      have hmk : atI (ms.map Dat.int) (-1) = some (.int m) := by
        refine atR_last ?_
        rw [List.length_map, List.getElem?_map, p.hm]
        rfl
      refine ⟨a, ms, rfl, hS.sm, rfl, _, _, rfl, ?_⟩
      walk_at "dls"
      refine sv_asgG (ws := [4] ++ ([5] ++ [])) ?_
      walk_at "dls"
      refine ⟨_, _, _, rfl, LR.c, LR.s, rfl, ?_⟩
      walk_at "dls"
      refine ⟨_, _, _, _, _, rfl, rfl, rfl, hsp, ?_⟩
      walk_at "dls"
      refine gv_tup rfl (gs_cons (gv_name (Nat.le_of_ble_eq_true rfl) (gs_cons (gv_name (Nat.le_of_ble_eq_true rfl) (gs_nil ?_)))))
      walk_at "dls"
      refine ⟨_, _, _, rfl, LR.c, LR.a, rfl, ?_⟩
      walk_at "dls"
      refine ⟨_, _, _, rfl, LR.c, LR.b, rfl, ?_⟩
      walk_at "dls"
      refine ⟨⟨by omega, by omega⟩, ?_⟩
      walk_at "dls"
      refine ⟨_, _, _, rfl, LR.c, LR.a, rfl, ?_⟩
      walk_at "dls"
      refine ⟨_, _, _, rfl, LR.c, LR.b, rfl, ?_⟩
      walk_at "dls"
      refine ⟨show 0 < lcI ms - whI ms by omega, ?_⟩
      walk_at "dls"
      refine ⟨_, _, _, rfl, LR.c, LR.a, rfl, ?_⟩
      walk_at "dls"
      refine ⟨.inr ⟨by omega, by omega⟩, ?_⟩
      walk_at "dls"
      refine ⟨_, _, _, rfl, LH.c, LH.m, rfl, ?_⟩
      walk_at "dls"
      refine ⟨_, _, _, _, _, rfl, rfl, rfl, hmk, ?_⟩
      walk_at "dls"
      refine ⟨⟨by omega, by omega⟩, ?_⟩
      walk_at "dls"
      exact ret_rt (pms_d [hObj CH ms] _ (Nat.le_of_ble_eq_true rfl)) (by rw [hrest] at q; exact q)
    · refine ⟨ms, rfl, hg, ?_⟩
      rw [if_neg hn]
      dsimp only
      rw [bk]
      exact ⟨_, pms_d [hObj CH ms] _ (Nat.le_of_ble_eq_true rfl), q⟩

end
end K23

namespace K23
open PySem L2 Evl DL
local macro_rules | `(tactic| walk_at "dl") => `(tactic| first
  | with_reducible refine bnd_ok ?_ | with_reducible refine bndS_ok ?_ | with_reducible refine onE_ok ?_ | with_reducible refine seq_nx ?_ | with_reducible refine seq_rt ?_ | with_reducible refine seq_bk ?_ | with_reducible refine seq_ct ?_ | with_reducible refine onT_rt ?_ | with_reducible refine onT_bk ?_ | with_reducible refine resS_nx ?_ | with_reducible refine resS_rt ?_
  | refine ev_v rfl ?_ | refine ev_l rfl ?_ | with_reducible refine ev_i ?_ | with_reducible refine ev_n ?_ | with_reducible refine ev_b ?_ | with_reducible refine ev_s ?_
  | with_reducible refine ev_oZ0 ?_ | with_reducible refine ev_oB0 ?_ | with_reducible refine ev_oZ ?_ | with_reducible refine ev_neg ?_ | with_reducible refine ev_neI ?_ | with_reducible refine ev_eqI ?_ | with_reducible refine ev_isN ?_ | with_reducible refine ev_notN ?_ | with_reducible refine ev_chain ?_
  | with_reducible refine ev_andV ?_ | with_reducible refine ev_orV ?_ | with_reducible refine ev_notV ?_ | with_reducible refine ev_if ?_
  | with_reducible refine tv_test ?_ | with_reducible refine tv_B ?_ | with_reducible refine tv_and ?_ | with_reducible refine tv_or ?_ | with_reducible refine tv_not ?_ | with_reducible refine tv_yes ?_
  | with_reducible refine ev_isiInt ?_ | with_reducible refine ev_isiBool ?_ | with_reducible refine ev_isiSeq ?_
  | with_reducible refine av_cons ?_ | with_reducible refine av_nil ?_
  | with_reducible refine ev_pure ?_ | with_reducible refine ev_gcd ?_ | with_reducible refine ev_abs ?_ | with_reducible refine ev_int1 ?_
  | (with_reducible refine DL.ev_len ?_; refine av_cons ?_; refine ev_v rfl ?_; refine bnd_ok ?_; refine av_nil ?_; refine ⟨_, _, _, rfl, by first | rfl | assumption, ?_⟩)
  | with_reducible refine ev_fldD ?_ | with_reducible refine ev_ixS ?_
  | with_reducible refine sv_seq ?_ | with_reducible refine sv_next ?_ | with_reducible refine sv_brk ?_ | with_reducible refine sv_cont ?_ | with_reducible refine sv_ret ?_ | with_reducible refine sv_retN ?_ | with_reducible refine sv_if ?_ | with_reducible refine sv_drop ?_
  | with_reducible refine sv_asg ?_
  | refine ⟨_, rfl, fun hb => ?_, fun hb => ?_⟩
  | refine ⟨_, _, rfl, rfl, fun hb => ?_, fun hb => ?_⟩
  | refine ⟨_, _, rfl, rfl, ?_⟩
  | refine ⟨_, _, _, _, rfl, rfl, rfl, ?_⟩
  | refine ⟨_, rfl, ?_⟩ | refine ⟨_, _, rfl, ?_⟩
  | refine And.intro rfl ?_ | refine And.intro (Nat.le_of_ble_eq_true rfl) ?_ | refine And.intro (by assumption) ?_)
local macro_rules | `(tactic| walk_at "dls") => `(tactic| repeat (walk_at "dl"; all_goals try (first | (exact (nomatch ‹false = true›)) | (exact (nomatch ‹true = false›)))))
local macro_rules | `(tactic| walk_at "dla") => `(tactic| repeat' (first | (exact (nomatch ‹false = true›)) | (exact (nomatch ‹true = false›)) | walk_at "dl"))
local macro_rules | `(tactic| walk_at "dlr") => `(tactic| (refine ret_rt (pms_d _ _ (Nat.le_of_ble_eq_true rfl)) ?_))
local macro_rules | `(tactic| walk_at "dlt") => `(tactic| first | walk_at "dl" | with_reducible refine ev_tup2 ?_ | with_reducible refine ev_tup3 ?_)
local macro_rules | `(tactic| walk_at "dlts") => `(tactic| repeat walk_at "dlt")
section
variable {P : Program} {w : World} {K : PySem.W.Frag} [HasTabs K] {mg : Str → Option Value} {base : Heap} {CH CD : Addr}
abbrev s_need_length : Stmt := topS 39
abbrev N_need_length : List Str := ["length"]
theorem sc_need_length : FnScope N_need_length ["length"] (defScope s_need_length) := ⟨rfl, rfl, rfl, by decide +kernel, rfl, by decide +kernel, by decide +kernel⟩
def R_need_length : List Dat → Dat → Prop := fun ds d => ∃ (n : Int), ds = [.int n] ∧ 0 ≤ n ∧ n ≤ 400 ∧ d = .int n
theorem ok_need_length (T : Txt mg) (O_is_below : Ok P w K mg base 2 "is_below" ["value", "bound"] (pureR R_is_below)) (F : Dfn K mg "need_length" "need_length" s_need_length ["length"]) : Ok P w K mg base 3 "need_length" ["length"] (pureR R_need_length) := by
  refine F.ok sc_need_length (by decide) (fun os Pp h => ?_) pureR_noex (fun f cdv A outer s H E hr => ⟨_, (pss_cons (ps_if (pt_not (pt_val (pe_fn O_is_below ⟨rfl, rfl, rfl, rfl, rfl⟩ (hr.mono (by decide)) rfl (pa_cons (pv 0) (pa_cons (pe_op op_add (pe_const T.c_MOST_LENGTH rfl) pe_int) pa_nil))))) (pss_one ps_never) pss_nil) (pss_one (ps_ret (pv 0)))), fun os Pp h => ?_⟩)
  · obtain ⟨ds, d, rfl, ⟨n, rfl, h1, h2, rfl⟩, q⟩ := h
    rfl
  · obtain ⟨ds, d, rfl, ⟨n, rfl, h1, h2, rfl⟩, q⟩ := h
    show SvP K E0 _ [some (.d (.int n))] _
    walk_at "dls"
    refine ⟨[.int n, .int (400 + 1)], _, rfl, ⟨_, _, rfl, rfl, rfl⟩, ?_⟩
    rw [show isBelow (.int n) (400 + 1) = true by
      show (decide (0 ≤ n) && decide (n < 400 + 1)) = true
      rw [decide_eq_true h1, decide_eq_true (show n < 400 + 1 by omega)]
      rfl]
    walk_at "dls"
    walk_at "dlr"
    exact q

end
end K23

namespace K23
open PySem L2 Evl DL
local macro_rules | `(tactic| walk_at "dl") => `(tactic| first
  | with_reducible refine bnd_ok ?_ | with_reducible refine bndS_ok ?_ | with_reducible refine onE_ok ?_ | with_reducible refine seq_nx ?_ | with_reducible refine seq_rt ?_ | with_reducible refine seq_bk ?_ | with_reducible refine seq_ct ?_ | with_reducible refine onT_rt ?_ | with_reducible refine onT_bk ?_ | with_reducible refine resS_nx ?_ | with_reducible refine resS_rt ?_
  | refine ev_v rfl ?_ | refine ev_l rfl ?_ | with_reducible refine ev_i ?_ | with_reducible refine ev_n ?_ | with_reducible refine ev_b ?_ | with_reducible refine ev_s ?_
  | with_reducible refine ev_oZ0 ?_ | with_reducible refine ev_oB0 ?_ | with_reducible refine ev_oZ ?_ | with_reducible refine ev_neg ?_ | with_reducible refine ev_neI ?_ | with_reducible refine ev_eqI ?_ | with_reducible refine ev_isN ?_ | with_reducible refine ev_notN ?_ | with_reducible refine ev_chain ?_
  | with_reducible refine ev_andV ?_ | with_reducible refine ev_orV ?_ | with_reducible refine ev_notV ?_ | with_reducible refine ev_if ?_
  | with_reducible refine tv_test ?_ | with_reducible refine tv_B ?_ | with_reducible refine tv_and ?_ | with_reducible refine tv_or ?_ | with_reducible refine tv_not ?_ | with_reducible refine tv_yes ?_
  | with_reducible refine ev_isiInt ?_ | with_reducible refine ev_isiBool ?_ | with_reducible refine ev_isiSeq ?_
  | with_reducible refine av_cons ?_ | with_reducible refine av_nil ?_
  | with_reducible refine ev_pure ?_ | with_reducible refine ev_gcd ?_ | with_reducible refine ev_abs ?_ | with_reducible refine ev_int1 ?_
  | (with_reducible refine DL.ev_len ?_; refine av_cons ?_; refine ev_v rfl ?_; refine bnd_ok ?_; refine av_nil ?_; refine ⟨_, _, _, rfl, by first | rfl | assumption, ?_⟩)
  | with_reducible refine ev_fldD ?_ | with_reducible refine ev_ixS ?_
  | with_reducible refine sv_seq ?_ | with_reducible refine sv_next ?_ | with_reducible refine sv_brk ?_ | with_reducible refine sv_cont ?_ | with_reducible refine sv_ret ?_ | with_reducible refine sv_retN ?_ | with_reducible refine sv_if ?_ | with_reducible refine sv_drop ?_
  | with_reducible refine sv_asg ?_
  | refine ⟨_, rfl, fun hb => ?_, fun hb => ?_⟩
  | refine ⟨_, _, rfl, rfl, fun hb => ?_, fun hb => ?_⟩
  | refine ⟨_, _, rfl, rfl, ?_⟩
  | refine ⟨_, _, _, _, rfl, rfl, rfl, ?_⟩
  | refine ⟨_, rfl, ?_⟩ | refine ⟨_, _, rfl, ?_⟩
  | refine And.intro rfl ?_ | refine And.intro (Nat.le_of_ble_eq_true rfl) ?_ | refine And.intro (by assumption) ?_)
local macro_rules | `(tactic| walk_at "dls") => `(tactic| repeat (walk_at "dl"; all_goals try (first | (exact (nomatch ‹false = true›)) | (exact (nomatch ‹true = false›)))))
local macro_rules | `(tactic| walk_at "dla") => `(tactic| repeat' (first | (exact (nomatch ‹false = true›)) | (exact (nomatch ‹true = false›)) | walk_at "dl"))
local macro_rules | `(tactic| walk_at "dlr") => `(tactic| (refine ret_rt (pms_d _ _ (Nat.le_of_ble_eq_true rfl)) ?_))
local macro_rules | `(tactic| walk_at "dlt") => `(tactic| first | walk_at "dl" | with_reducible refine ev_tup2 ?_ | with_reducible refine ev_tup3 ?_)
local macro_rules | `(tactic| walk_at "dlts") => `(tactic| repeat walk_at "dlt")
section
variable {P : Program} {w : World} {K : PySem.W.Frag} [HasTabs K] {mg : Str → Option Value} {base : Heap} {CH CD : Addr}
abbrev s_greatest_number : Stmt := topS 46
abbrev N_greatest_number : List Str := ["hands", "length", "number", "now", "rates", "_"]
theorem sc_greatest_number : FnScope N_greatest_number ["hands", "length", "number"] (defScope s_greatest_number) := ⟨rfl, rfl, rfl, by decide +kernel, rfl, by decide +kernel, by decide +kernel⟩
/-- the last hand alone, so many times -/
def lastI (ms : List Int) : Nat → Int → Int
  | 0, x => x
  | n + 1, x => lastI ms n (stepR ms x (ms.length - 1))
theorem lastI_succ (ms : List Int) : ∀ (n : Nat) (x : Int), lastI ms (n + 1) x = stepR ms (lastI ms n x) (ms.length - 1)
  | 0, _ => rfl
  | n + 1, x => lastI_succ ms n _
theorem lastI_nn {ms : List Int} (g : Good ms) : ∀ (n : Nat) (x : Int), 0 ≤ x → 0 ≤ lastI ms n x
  | 0, _, h => h
  | n + 1, x, h => lastI_nn g n _ (stepR_nn g (by have := g.1; omega) h)
def R_greatest_number (CH : Addr) : List Dat → Dat → Prop := fun ds d => ∃ (ms : List Int) (n : Nat) (x : Int), ds = [hObj CH ms, .int n, .int x] ∧ Sm ms ∧ 0 ≤ x ∧ n ≤ 400 ∧ d = .int (lastI ms n x)
theorem ok_greatest_number {CT : Addr} (T : Txt mg) (LR : ClRates K CT) (LH : ClHands K CH) (O_need_number : Ok P w K mg base 2 "need_number" ["number"] (pureR R_need_number)) (O_need_length : Ok P w K mg base 3 "need_length" ["length"] (pureR R_need_length))
    (O_Rates : OkC P w K mg base 2 "Rates" ["self", "hands"] CT (R_Rates CH CT)) (O_number_behind : Ok P w K mg base 1 "number_behind" ["rates", "number", "hand"] (pureR (R_number_behind CH CT))) (F : DfnO K mg "greatest_number" "greatest_number" s_greatest_number ["hands", "length"] "number" (.int 0)) :
    OkN P w K mg base 4 "greatest_number" ["hands", "length"] "number" (pureR (R_greatest_number CH)) ∧ OkM P w K mg base 4 "greatest_number" ["hands", "length"] "number" (pureR (R_greatest_number CH)) (.int 0) := by
  refine F.ok sc_greatest_number (by decide) (fun os Pp h => ?_) pureR_noex (fun f cdv A outer s H E hr => ⟨_, (pss_cons (ps_expr (pe_fn O_need_length ⟨rfl, rfl, rfl, rfl, rfl⟩ (hr.mono (by decide)) rfl (pa_cons (pv 1) pa_nil))) (pss_cons (ps_set (i := 3) sc_greatest_number.nd rfl (.inl rfl) (pe_fn O_need_number ⟨rfl, rfl, rfl, rfl, rfl⟩ (hr.mono (by decide)) rfl (pa_cons (pv 2) pa_nil))) (pss_cons (ps_set (i := 4) sc_greatest_number.nd rfl (.inl rfl) (pe_cls O_Rates ⟨rfl, rfl, rfl, rfl, rfl⟩ (hr.mono (by decide)) rfl (pa_cons (pv 0) pa_nil))) (pss_cons (ps_for PassesOwn.never rfl (pi_range1 (by rfl) T.b_range (pa_cons (pv 1) pa_nil)) (pg_name (i := 5) sc_greatest_number.nd rfl (.inl rfl)) (pss_one (ps_set (i := 3) sc_greatest_number.nd rfl (.inl rfl) (pe_fn O_number_behind ⟨rfl, rfl, rfl, rfl, rfl⟩ (hr.mono (by decide)) rfl (pa_cons (pv 4) (pa_cons (pv 3) (pa_cons (pe_op op_sub (pe_fldK (K := K) rfl (pv 0) rfl) pe_int) pa_nil))))))) (pss_one (ps_ret (pv 3))))))), fun os Pp h => ?_⟩)
  · obtain ⟨ds, d, rfl, ⟨ms, n, x, rfl, hS, h0, hn, rfl⟩, q⟩ := h
    rfl
  · obtain ⟨ds, d, rfl, ⟨ms, n, x, rfl, hS, h0, hn, rfl⟩, q⟩ := h
    have hg := hS.g
    show SvP K E0 _ [some (.d (hObj CH ms)), some (.d (.int n)), some (.d (.int x)), none, none, none] _
    walk_at "dls"
    refine ⟨[.int n], _, rfl, ⟨_, rfl, by omega, by omega, rfl⟩, ?_⟩
    walk_at "dls"
    refine ⟨[.int x], _, rfl, ⟨_, rfl, h0, rfl⟩, ?_⟩
    walk_at "dls"
    refine DL.ev_make ?_ R_Rates_mono
    refine av_cons (ev_v rfl (bnd_ok (av_nil fun a => ?_)))
    refine ⟨a, ms, rfl, hS, rfl, _, _, rfl, ?_⟩
    walk_at "dls"
    refine sv_for (ws := [5]) ?_
    refine iv_rng1 ?_
    walk_at "dls"
    refine ⟨by omega, by omega, ?_⟩
    rw [Int.toNat_natCast]
    refine loop_inv (fun i ρ' => ρ' = [some (.d (hObj CH ms)), some (.d (.int n)), some (.d (.int x)), some (.d (.int (lastI ms i x))), some (.d (rObj CH CT ms)), none]) rfl (fun i d ρ' hi he => ?_) (fun ρ' he => ?_)
    · subst he
      have hnn := lastI_nn hg i x h0
      refine gv_name (Nat.le_of_ble_eq_true rfl) ?_
      walk_at "dls"
      refine ⟨_, _, _, rfl, LH.c, LH.n, rfl, ?_⟩
      walk_at "dls"
      refine ⟨[rObj CH CT ms, .int (lastI ms i x), .int (ms.length - 1 : Nat)], _, ?_, ⟨ms, _, ms.length - 1, rfl, hS, hnn, by have := hg.1; omega, rfl⟩, ?_⟩
      · show [_, _, Ow.d (.int ((ms.length : Int) - 1))] = _
        rw [show ((ms.length : Int) - 1) = ((ms.length - 1 : Nat) : Int) by have := hg.1; omega]
        rfl
      walk_at "dls"
      refine onT_nx (.cons (.cons (.cons (.cons (.cons (.skip .nil)))))) ?_
      rw [lastI_succ]
    · subst he
      rw [rangeD_len]
      walk_at "dls"
      walk_at "dlr"
      exact q

end
end K23

namespace K23
open PySem L2 Evl DL
local macro_rules | `(tactic| walk_at "dl") => `(tactic| first
  | with_reducible refine bnd_ok ?_ | with_reducible refine bndS_ok ?_ | with_reducible refine onE_ok ?_ | with_reducible refine seq_nx ?_ | with_reducible refine seq_rt ?_ | with_reducible refine seq_bk ?_ | with_reducible refine seq_ct ?_ | with_reducible refine onT_rt ?_ | with_reducible refine onT_bk ?_ | with_reducible refine resS_nx ?_ | with_reducible refine resS_rt ?_
  | refine ev_v rfl ?_ | refine ev_l rfl ?_ | with_reducible refine ev_i ?_ | with_reducible refine ev_n ?_ | with_reducible refine ev_b ?_ | with_reducible refine ev_s ?_
  | with_reducible refine ev_oZ0 ?_ | with_reducible refine ev_oB0 ?_ | with_reducible refine ev_oZ ?_ | with_reducible refine ev_neg ?_ | with_reducible refine ev_neI ?_ | with_reducible refine ev_eqI ?_ | with_reducible refine ev_isN ?_ | with_reducible refine ev_notN ?_ | with_reducible refine ev_chain ?_
  | with_reducible refine ev_andV ?_ | with_reducible refine ev_orV ?_ | with_reducible refine ev_notV ?_ | with_reducible refine ev_if ?_
  | with_reducible refine tv_test ?_ | with_reducible refine tv_B ?_ | with_reducible refine tv_and ?_ | with_reducible refine tv_or ?_ | with_reducible refine tv_not ?_ | with_reducible refine tv_yes ?_
  | with_reducible refine ev_isiInt ?_ | with_reducible refine ev_isiBool ?_ | with_reducible refine ev_isiSeq ?_
  | with_reducible refine av_cons ?_ | with_reducible refine av_nil ?_
  | with_reducible refine ev_pure ?_ | with_reducible refine ev_gcd ?_ | with_reducible refine ev_abs ?_ | with_reducible refine ev_int1 ?_
  | (with_reducible refine DL.ev_len ?_; refine av_cons ?_; refine ev_v rfl ?_; refine bnd_ok ?_; refine av_nil ?_; refine ⟨_, _, _, rfl, by first | rfl | assumption, ?_⟩)
  | with_reducible refine ev_fldD ?_ | with_reducible refine ev_ixS ?_
  | with_reducible refine sv_seq ?_ | with_reducible refine sv_next ?_ | with_reducible refine sv_brk ?_ | with_reducible refine sv_cont ?_ | with_reducible refine sv_ret ?_ | with_reducible refine sv_retN ?_ | with_reducible refine sv_if ?_ | with_reducible refine sv_drop ?_
  | with_reducible refine sv_asg ?_
  | refine ⟨_, rfl, fun hb => ?_, fun hb => ?_⟩
  | refine ⟨_, _, rfl, rfl, fun hb => ?_, fun hb => ?_⟩
  | refine ⟨_, _, rfl, rfl, ?_⟩
  | refine ⟨_, _, _, _, rfl, rfl, rfl, ?_⟩
  | refine ⟨_, rfl, ?_⟩ | refine ⟨_, _, rfl, ?_⟩
  | refine And.intro rfl ?_ | refine And.intro (Nat.le_of_ble_eq_true rfl) ?_ | refine And.intro (by assumption) ?_)
local macro_rules | `(tactic| walk_at "dls") => `(tactic| repeat (walk_at "dl"; all_goals try (first | (exact (nomatch ‹false = true›)) | (exact (nomatch ‹true = false›)))))
local macro_rules | `(tactic| walk_at "dla") => `(tactic| repeat' (first | (exact (nomatch ‹false = true›)) | (exact (nomatch ‹true = false›)) | walk_at "dl"))
local macro_rules | `(tactic| walk_at "dlr") => `(tactic| (refine ret_rt (pms_d _ _ (Nat.le_of_ble_eq_true rfl)) ?_))
local macro_rules | `(tactic| walk_at "dlt") => `(tactic| first | walk_at "dl" | with_reducible refine ev_tup2 ?_ | with_reducible refine ev_tup3 ?_)
local macro_rules | `(tactic| walk_at "dlts") => `(tactic| repeat walk_at "dlt")
section
variable {P : Program} {w : World} {K : PySem.W.Frag} [HasTabs K] {mg : Str → Option Value} {base : Heap} {CH CD : Addr}
def R_need_numberX (CR : Addr) : Pr := fun os Pp => ∃ (x : Dat), os = [.d x] ∧ x.tyn.isSome = true ∧ if isNum x = true then Pp (.ok (.d x)) os else Pp (.ex CR [("at", x)]) os
theorem okx_need_number (T : Txt mg) {CR : Addr} (ER_Refused : ErrC P w K mg base "Refused" CR ["at"]) (O_is_number : Ok P w K mg base 1 "is_number" ["value"] (pureR R_is_number)) (F : Dfn K mg "need_number" "need_number" s_need_number ["number"]) : OkX P w K mg base 3 "need_number" ["number"] (R_need_numberX CR) := by
  refine F.okX sc_need_number (by decide) (fun os Pp h => ?_) (fun f cdv A outer s H E hr => ⟨_, (pss_cons (ps_if (pt_not (pt_val (pe_fnE (E := E) O_is_number ⟨rfl, rfl, rfl, rfl, rfl⟩ (hr.mono (by decide)) rfl (pa_cons (pv 0) pa_nil)))) (pss_one (ps_raiseE ER_Refused (takes_of rfl rfl rfl rfl) rfl ⟨rfl, rfl, rfl, rfl, rfl⟩ (hr.mono (by decide)) rfl (pa_cons (pv 0) pa_nil))) pss_nil) (pss_one (ps_ret (pv 0)))), fun os Pp h => ?_⟩)
  · obtain ⟨x, rfl, hx, q⟩ := h
    rfl
  · obtain ⟨x, rfl, hx, q⟩ := h
    show SvP K E _ [some (.d x)] _
    walk_at "dls"
    refine ⟨[x], _, rfl, ⟨_, rfl, hx, rfl⟩, ?_⟩
    cases hb : isNum x with
    | true =>
      rw [if_pos hb] at q
      walk_at "dls"
      exact ret_rt (pms_d [x] _ (Nat.le_of_ble_eq_true rfl)) q
    | false =>
      rw [if_neg (by rw [hb]; simp)] at q
      walk_at "dls"
      refine sv_raise ER_Refused.ox ER_Refused.no ER_Refused.few ?_
      walk_at "dls"
      exact ⟨[x], rfl, rfl, _, pms_d [x] _ (Nat.le_of_ble_eq_true rfl), q⟩

end
end K23

namespace K23
open PySem L2 Evl DL
local macro_rules | `(tactic| walk_at "dl") => `(tactic| first
  | with_reducible refine bnd_ok ?_ | with_reducible refine bndS_ok ?_ | with_reducible refine onE_ok ?_ | with_reducible refine seq_nx ?_ | with_reducible refine seq_rt ?_ | with_reducible refine seq_bk ?_ | with_reducible refine seq_ct ?_ | with_reducible refine onT_rt ?_ | with_reducible refine onT_bk ?_ | with_reducible refine resS_nx ?_ | with_reducible refine resS_rt ?_
  | refine ev_v rfl ?_ | refine ev_l rfl ?_ | with_reducible refine ev_i ?_ | with_reducible refine ev_n ?_ | with_reducible refine ev_b ?_ | with_reducible refine ev_s ?_
  | with_reducible refine ev_oZ0 ?_ | with_reducible refine ev_oB0 ?_ | with_reducible refine ev_oZ ?_ | with_reducible refine ev_neg ?_ | with_reducible refine ev_neI ?_ | with_reducible refine ev_eqI ?_ | with_reducible refine ev_isN ?_ | with_reducible refine ev_notN ?_ | with_reducible refine ev_chain ?_
  | with_reducible refine ev_andV ?_ | with_reducible refine ev_orV ?_ | with_reducible refine ev_notV ?_ | with_reducible refine ev_if ?_
  | with_reducible refine tv_test ?_ | with_reducible refine tv_B ?_ | with_reducible refine tv_and ?_ | with_reducible refine tv_or ?_ | with_reducible refine tv_not ?_ | with_reducible refine tv_yes ?_
  | with_reducible refine ev_isiInt ?_ | with_reducible refine ev_isiBool ?_ | with_reducible refine ev_isiSeq ?_
  | with_reducible refine av_cons ?_ | with_reducible refine av_nil ?_
  | with_reducible refine ev_pure ?_ | with_reducible refine ev_gcd ?_ | with_reducible refine ev_abs ?_ | with_reducible refine ev_int1 ?_
  | (with_reducible refine DL.ev_len ?_; refine av_cons ?_; refine ev_v rfl ?_; refine bnd_ok ?_; refine av_nil ?_; refine ⟨_, _, _, rfl, by first | rfl | assumption, ?_⟩)
  | with_reducible refine ev_fldD ?_ | with_reducible refine ev_ixS ?_
  | with_reducible refine sv_seq ?_ | with_reducible refine sv_next ?_ | with_reducible refine sv_brk ?_ | with_reducible refine sv_cont ?_ | with_reducible refine sv_ret ?_ | with_reducible refine sv_retN ?_ | with_reducible refine sv_if ?_ | with_reducible refine sv_drop ?_
  | with_reducible refine sv_asg ?_
  | refine ⟨_, rfl, fun hb => ?_, fun hb => ?_⟩
  | refine ⟨_, _, rfl, rfl, fun hb => ?_, fun hb => ?_⟩
  | refine ⟨_, _, rfl, rfl, ?_⟩
  | refine ⟨_, _, _, _, rfl, rfl, rfl, ?_⟩
  | refine ⟨_, rfl, ?_⟩ | refine ⟨_, _, rfl, ?_⟩
  | refine And.intro rfl ?_ | refine And.intro (Nat.le_of_ble_eq_true rfl) ?_ | refine And.intro (by assumption) ?_)
local macro_rules | `(tactic| walk_at "dls") => `(tactic| repeat (walk_at "dl"; all_goals try (first | (exact (nomatch ‹false = true›)) | (exact (nomatch ‹true = false›)))))
local macro_rules | `(tactic| walk_at "dla") => `(tactic| repeat' (first | (exact (nomatch ‹false = true›)) | (exact (nomatch ‹true = false›)) | walk_at "dl"))
local macro_rules | `(tactic| walk_at "dlr") => `(tactic| (refine ret_rt (pms_d _ _ (Nat.le_of_ble_eq_true rfl)) ?_))
local macro_rules | `(tactic| walk_at "dlt") => `(tactic| first | walk_at "dl" | with_reducible refine ev_tup2 ?_ | with_reducible refine ev_tup3 ?_)
local macro_rules | `(tactic| walk_at "dlts") => `(tactic| repeat walk_at "dlt")
section
variable {P : Program} {w : World} {K : PySem.W.Frag} [HasTabs K] {mg : Str → Option Value} {base : Heap} {CH CD : Addr}
abbrev s_swallow_length : Stmt := topS 49
abbrev N_swallow_length : List Str := ["hands", "number", "resting", "now", "rates", "deeds"]
theorem sc_swallow_length : FnScope N_swallow_length ["hands", "number"] (defScope s_swallow_length) := ⟨rfl, rfl, rfl, by decide +kernel, rfl, by decide +kernel, by decide +kernel⟩
/-- so many deeds of the last hand lead to the resting number or below, and no fewer -/
def Swal (ms : List Int) (x rest : Int) (n : Nat) : Prop := lastI ms n x ≤ rest ∧ ∀ k < n, rest < lastI ms k x
def R_swallow_length (CH : Addr) : List Dat → Dat → Prop := fun ds d => ∃ (ms : List Int) (x : Int) (n : Nat), ds = [hObj CH ms, .int x] ∧ Sw ms ∧ 0 ≤ x ∧ Swal ms x (restI ms) n ∧ d = .int n
theorem ok_swallow_length {CT : Addr} (T : Txt mg) (LR : ClRates K CT) (LH : ClHands K CH) (O_resting_number : Ok P w K mg base 4 "resting_number" ["hands"] (pureR (R_resting_number CH))) (O_need_number : Ok P w K mg base 2 "need_number" ["number"] (pureR R_need_number)) (O_number_behind : Ok P w K mg base 1 "number_behind" ["rates", "number", "hand"] (pureR (R_number_behind CH CT)))
    (O_Rates : OkC P w K mg base 2 "Rates" ["self", "hands"] CT (R_Rates CH CT)) (F : DfnK K mg "swallow_length" "swallow_length" s_swallow_length ["hands", "number"]) : Ok P w K mg base 5 "swallow_length" ["hands", "number"] (pureR (R_swallow_length CH)) ∧ OkK P w K mg base 5 "swallow_length" ["hands", "number"] (pureR (R_swallow_length CH)) := by
  refine F.ok sc_swallow_length (by decide) (fun os Pp h => ?_) pureR_noex (fun f cdv A outer s H E hr => ⟨_, (pss_cons (ps_set (i := 2) sc_swallow_length.nd rfl (.inl rfl) (pe_fn O_resting_number ⟨rfl, rfl, rfl, rfl, rfl⟩ (hr.mono (by decide)) rfl (pa_cons (pv 0) pa_nil))) (pss_cons (ps_set (i := 3) sc_swallow_length.nd rfl (.inl rfl) (pe_fn O_need_number ⟨rfl, rfl, rfl, rfl, rfl⟩ (hr.mono (by decide)) rfl (pa_cons (pv 1) pa_nil))) (pss_cons (ps_set (i := 4) sc_swallow_length.nd rfl (.inl rfl) (pe_cls O_Rates ⟨rfl, rfl, rfl, rfl, rfl⟩ (hr.mono (by decide)) rfl (pa_cons (pv 0) pa_nil))) (pss_cons (ps_set (i := 5) sc_swallow_length.nd rfl (.inl rfl) pe_int) (pss_cons (ps_while PassesOwn.never (pt_cmpR op_gt (pv 3) (pv 2) (nomark _)) (pss_cons (ps_set (i := 3) sc_swallow_length.nd rfl (.inl rfl) (pe_fn O_number_behind ⟨rfl, rfl, rfl, rfl, rfl⟩ (hr.mono (by decide)) rfl (pa_cons (pv 4) (pa_cons (pv 3) (pa_cons (pe_op op_sub (pe_fldK (K := K) rfl (pv 0) rfl) pe_int) pa_nil))))) (pss_one (ps_aug (i := 5) sc_swallow_length.nd rfl (.inl rfl) pe_int ip_add)))) (pss_one (ps_ret (pv 5)))))))), fun os Pp h => ?_⟩)
  · obtain ⟨ds, d, rfl, ⟨ms, x, n, rfl, hS, h0, hw, rfl⟩, q⟩ := h
    rfl
  · obtain ⟨ds, d, rfl, ⟨ms, x, n, rfl, hS, h0, hw, rfl⟩, q⟩ := h
    have hg := hS.sm.g
    show SvP K E0 _ [some (.d (hObj CH ms)), some (.d (.int x)), none, none, none, none] _
    walk_at "dls"
    refine ⟨[hObj CH ms], _, rfl, ⟨ms, rfl, hS, rfl⟩, ?_⟩
    walk_at "dls"
    refine ⟨[.int x], _, rfl, ⟨_, rfl, h0, rfl⟩, ?_⟩
    walk_at "dls"
    refine DL.ev_make ?_ R_Rates_mono
    refine av_cons (ev_v rfl (bnd_ok (av_nil fun a => ?_)))
    refine ⟨a, ms, rfl, hS.sm, rfl, _, _, rfl, ?_⟩
    walk_at "dls"
    refine sv_while (n + 1) ?_
    refine (fun (key : ∀ (f k : Nat), k ≤ n → k + f = n + 1 → WhP K E0 ?c ?tb f [some (.d (hObj CH ms)), some (.d (.int x)), some (.d (.int (restI ms))), some (.d (.int (lastI ms k x))), some (.d (rObj CH CT ms)), some (.d (.int k))] ?S) => key (n + 1) 0 (Nat.zero_le _) (by omega)) ?_
    intro f
    induction f with
    | zero => intro k hk e; exact absurd e (by omega)
    | succ f ih =>
      intro k hk e
      show TvP K E0 _ _ _
      have hnn := lastI_nn hg k x h0
      walk_at "dls"
      · rename_i hb
        have hb := of_decide_eq_true hb
        have hkn : k < n := by
          rcases Nat.lt_or_ge k n with z | z
          · exact z
          · exfalso
            have : k = n := by omega
            subst this
            have := hw.1
            omega
        refine ⟨_, _, _, rfl, LH.c, LH.n, rfl, ?_⟩
        walk_at "dls"
        refine ⟨[rObj CH CT ms, .int (lastI ms k x), .int (ms.length - 1 : Nat)], _, ?_, ⟨ms, _, ms.length - 1, rfl, hS.sm, hnn, by have := hg.1; omega, rfl⟩, ?_⟩
        · show [_, _, Ow.d (.int ((ms.length : Int) - 1))] = _
          rw [show ((ms.length : Int) - 1) = ((ms.length - 1 : Nat) : Int) by have := hg.1; omega]
          rfl
        walk_at "dls"
        refine sv_aug ?_ ⟨_, rfl⟩
        walk_at "dls"
        refine onT_nx (.cons (.cons (.cons (.cons (.cons (.cons .nil)))))) ?_
        have := ih (k + 1) (by omega) (by omega)
        rw [lastI_succ] at this
        exact this
      · rename_i hb
        have hb := of_decide_eq_false hb
        have hkn : k = n := by
          rcases Nat.lt_or_ge k n with z | z
          · have := hw.2 k z
            omega
          · omega
        subst hkn
        walk_at "dls"
        walk_at "dlr"
        exact q
def R_swallow_lengthX (CH CR : Addr) : Pr := fun os Pp => ∃ (ms : List Int) (x : Dat), os = [.d (hObj CH ms), .d x] ∧ x.tyn.isSome = true ∧
  ((Sw ms ∧ isNum x = false ∧ Pp (.ex CR [("at", x)]) os) ∨ (Good ms ∧ ¬ shT ms < shB ms ∧ Pp (.ex CR [("at", hObj CH ms)]) os))
theorem okx_swallow_length {CT CR : Addr} (T : Txt mg) (LR : ClRates K CT) (LH : ClHands K CH) (OX_resting_number : OkX P w K mg base 4 "resting_number" ["hands"] (R_resting_numberX CH CR)) (OX_need_number : OkX P w K mg base 3 "need_number" ["number"] (R_need_numberX CR)) (O_number_behind : Ok P w K mg base 1 "number_behind" ["rates", "number", "hand"] (pureR (R_number_behind CH CT)))
    (O_Rates : OkC P w K mg base 2 "Rates" ["self", "hands"] CT (R_Rates CH CT)) (F : DfnK K mg "swallow_length" "swallow_length" s_swallow_length ["hands", "number"]) : OkX P w K mg base 5 "swallow_length" ["hands", "number"] (R_swallow_lengthX CH CR) := by
  refine F.dfn.okX sc_swallow_length (by decide) (fun os Pp h => ?_) (fun f cdv A outer s H E hr => ⟨_, (pss_cons (ps_set (i := 2) sc_swallow_length.nd rfl (.inl rfl) (pe_fnX (E := E) OX_resting_number (takes_of rfl rfl rfl rfl) ⟨rfl, rfl, rfl, rfl, rfl⟩ (hr.mono (by decide)) rfl (pa_cons (pv 0) pa_nil))) (pss_cons (ps_set (i := 3) sc_swallow_length.nd rfl (.inl rfl) (pe_fnX (E := E) OX_need_number (takes_of rfl rfl rfl rfl) ⟨rfl, rfl, rfl, rfl, rfl⟩ (hr.mono (by decide)) rfl (pa_cons (pv 1) pa_nil))) (pss_cons (ps_set (i := 4) sc_swallow_length.nd rfl (.inl rfl) (pe_clsE (E := E) O_Rates ⟨rfl, rfl, rfl, rfl, rfl⟩ (hr.mono (by decide)) rfl (pa_cons (pv 0) pa_nil))) (pss_cons (ps_set (i := 5) sc_swallow_length.nd rfl (.inl rfl) pe_int) (pss_cons (ps_while (passes_of rfl) (pt_cmpR op_gt (pv 3) (pv 2) (nomark _)) (pss_cons (ps_set (i := 3) sc_swallow_length.nd rfl (.inl rfl) (pe_fnE (E := E) O_number_behind ⟨rfl, rfl, rfl, rfl, rfl⟩ (hr.mono (by decide)) rfl (pa_cons (pv 4) (pa_cons (pv 3) (pa_cons (pe_op op_sub (pe_fldK (K := K) rfl (pv 0) rfl) pe_int) pa_nil))))) (pss_one (ps_aug (i := 5) sc_swallow_length.nd rfl (.inl rfl) pe_int ip_add)))) (pss_one (ps_ret (pv 5)))))))), fun os Pp h => ?_⟩)
  · obtain ⟨ms, x, rfl, q⟩ := h
    rfl
  · obtain ⟨ms, x, rfl, hx, q⟩ := h
    have bk : ∀ (A : Dat) (ρ : Rh), bks [Ow.d A] ρ = ρ := fun A ρ => rfl
    show SvP K E _ [some (.d (hObj CH ms)), some (.d x), none, none, none, none] _
    walk_at "dls"
    refine ev_call ?_
    walk_at "dls"
    rcases q with ⟨hS, hn, q⟩ | ⟨hg, hn, q⟩
    · refine .inl ⟨hS, ?_⟩
      show bndS _ _ (Re.ok _) (bks _ _)
      rw [bk]
      refine bndS_ok ⟨Nat.le_of_ble_eq_true rfl, seq_nx ?_⟩
      walk_at "dls"
      refine ev_call ?_
      walk_at "dls"
      rw [if_neg (by rw [hn]; simp)]
      show bndS _ _ (Re.ex _ _) (bks _ _)
      rw [bk]
      exact ⟨_, pms_d [hObj CH ms, x] _ (Nat.le_of_ble_eq_true rfl), q⟩
    · refine .inr ⟨hg, hn, ?_⟩
      show bndS _ _ (Re.ex _ _) (bks _ _)
      rw [bk]
      exact ⟨_, pms_d [hObj CH ms, x] _ (Nat.le_of_ble_eq_true rfl), q⟩

end
end K23

namespace K23
open PySem L2 Evl DL
local macro_rules | `(tactic| walk_at "dl") => `(tactic| first
  | with_reducible refine bnd_ok ?_ | with_reducible refine bndS_ok ?_ | with_reducible refine onE_ok ?_ | with_reducible refine seq_nx ?_ | with_reducible refine seq_rt ?_ | with_reducible refine seq_bk ?_ | with_reducible refine seq_ct ?_ | with_reducible refine onT_rt ?_ | with_reducible refine onT_bk ?_ | with_reducible refine resS_nx ?_ | with_reducible refine resS_rt ?_
  | refine ev_v rfl ?_ | refine ev_l rfl ?_ | with_reducible refine ev_i ?_ | with_reducible refine ev_n ?_ | with_reducible refine ev_b ?_ | with_reducible refine ev_s ?_
  | with_reducible refine ev_oZ0 ?_ | with_reducible refine ev_oB0 ?_ | with_reducible refine ev_oZ ?_ | with_reducible refine ev_neg ?_ | with_reducible refine ev_neI ?_ | with_reducible refine ev_eqI ?_ | with_reducible refine ev_isN ?_ | with_reducible refine ev_notN ?_ | with_reducible refine ev_chain ?_
  | with_reducible refine ev_andV ?_ | with_reducible refine ev_orV ?_ | with_reducible refine ev_notV ?_ | with_reducible refine ev_if ?_
  | with_reducible refine tv_test ?_ | with_reducible refine tv_B ?_ | with_reducible refine tv_and ?_ | with_reducible refine tv_or ?_ | with_reducible refine tv_not ?_ | with_reducible refine tv_yes ?_
  | with_reducible refine ev_isiInt ?_ | with_reducible refine ev_isiBool ?_ | with_reducible refine ev_isiSeq ?_
  | with_reducible refine av_cons ?_ | with_reducible refine av_nil ?_
  | with_reducible refine ev_pure ?_ | with_reducible refine ev_gcd ?_ | with_reducible refine ev_abs ?_ | with_reducible refine ev_int1 ?_
  | (with_reducible refine DL.ev_len ?_; refine av_cons ?_; refine ev_v rfl ?_; refine bnd_ok ?_; refine av_nil ?_; refine ⟨_, _, _, rfl, by first | rfl | assumption, ?_⟩)
  | with_reducible refine ev_fldD ?_ | with_reducible refine ev_ixS ?_
  | with_reducible refine sv_seq ?_ | with_reducible refine sv_next ?_ | with_reducible refine sv_brk ?_ | with_reducible refine sv_cont ?_ | with_reducible refine sv_ret ?_ | with_reducible refine sv_retN ?_ | with_reducible refine sv_if ?_ | with_reducible refine sv_drop ?_
  | with_reducible refine sv_asg ?_
  | refine ⟨_, rfl, fun hb => ?_, fun hb => ?_⟩
  | refine ⟨_, _, rfl, rfl, fun hb => ?_, fun hb => ?_⟩
  | refine ⟨_, _, rfl, rfl, ?_⟩
  | refine ⟨_, _, _, _, rfl, rfl, rfl, ?_⟩
  | refine ⟨_, rfl, ?_⟩ | refine ⟨_, _, rfl, ?_⟩
  | refine And.intro rfl ?_ | refine And.intro (Nat.le_of_ble_eq_true rfl) ?_ | refine And.intro (by assumption) ?_)
local macro_rules | `(tactic| walk_at "dls") => `(tactic| repeat (walk_at "dl"; all_goals try (first | (exact (nomatch ‹false = true›)) | (exact (nomatch ‹true = false›)))))
local macro_rules | `(tactic| walk_at "dla") => `(tactic| repeat' (first | (exact (nomatch ‹false = true›)) | (exact (nomatch ‹true = false›)) | walk_at "dl"))
local macro_rules | `(tactic| walk_at "dlr") => `(tactic| (refine ret_rt (pms_d _ _ (Nat.le_of_ble_eq_true rfl)) ?_))
local macro_rules | `(tactic| walk_at "dlt") => `(tactic| first | walk_at "dl" | with_reducible refine ev_tup2 ?_ | with_reducible refine ev_tup3 ?_)
local macro_rules | `(tactic| walk_at "dlts") => `(tactic| repeat walk_at "dlt")
section
variable {P : Program} {w : World} {K : PySem.W.Frag} [HasTabs K] {mg : Str → Option Value} {base : Heap} {CH CD : Addr}
def rows0 : List (List Int) := [[2, 3], [3, 3], [4, 2], [2, 4, 8], [3, 4], [2, 5, 5], [6, 6, 6, 6], [5, 4, 3], [2, 3, 7], [3, 8, 5]]
def turnI (r : List Int) (k : Nat) : List Int := r.drop k ++ r.take k
/-- all rows that the law takes, turned -/
def rows1 : List (List Int) := rows0.flatMap fun r => (List.range r.length).map (turnI r)
def sizeI (ms : List Int) : Int := ms.foldl comI 1
/-- until it rests -/
def rsGo (ms : List Int) (L W f m : Int) : Nat → Int → Int
  | 0, x => x
  | n + 1, x => if x / L * W + f + x % L / m = x then x else rsGo ms L W f m n (x / L * W + f + x % L / m)
def lsGo (L W f m : Int) : Nat → Int → Int
  | 0, x => x
  | n + 1, x => lsGo L W f m n (x / L * W + f + x % L / m)
/-- what is checked of one row -/
def chkRow (ms : List Int) : Bool :=
  let L := lcI ms
  let W := whI ms
  let l := ms.length - 1
  let f := fsI ms l
  let m := ms.getD l 1
  let r := restI ms
  decide (2 ≤ ms.length) && decide (ms.length ≤ 4) && ms.all (fun m => decide (1 ≤ m) && decide (m ≤ 60)) && decide (L ≤ 1000) && decide (shT ms < shB ms) && decide (0 < W) && decide (W < L) && decide (2 ≤ m) && decide (0 ≤ r) && decide (r ≤ 100000)
  && decide (r / L * W + f + r % L / m = r)
  && (List.range L.toNat).all (fun i => decide ((r + 1 + (i : Int)) / L * W + f + (r + 1 + (i : Int)) % L / m < r + 1 + (i : Int)))
  && decide (rsGo ms L W f m 6000 ((W / (L - W) + 2) * L) = r)
  && decide (lsGo L W f m 2700 1000000000000000000000000000007 ≤ r)
  && (List.range (ms.length + 1)).all (fun i => decide (0 < (ms.take i).foldl comI 1) && decide ((ms.take i).foldl comI 1 < 1000000))
  && decide (sizeI ms = L)
theorem chk_all : rows1.all chkRow = true := by decide +kernel
/-- one row's facts -/
def rsI (ms : List Int) : Nat → Int → Int
  | 0, x => x
  | n + 1, x => if stepR ms x (ms.length - 1) = x then x else rsI ms n (stepR ms x (ms.length - 1))
theorem rsGo_is (ms : List Int) : ∀ (n : Nat) (x : Int), rsGo ms (lcI ms) (whI ms) (fsI ms (ms.length - 1)) (ms.getD (ms.length - 1) 1) n x = rsI ms n x
  | 0, _ => rfl
  | n + 1, x => by
    show (if stepR ms x (ms.length - 1) = x then x else rsGo ms _ _ _ _ n (stepR ms x (ms.length - 1))) = _
    rw [rsGo_is ms n]
    rfl
theorem lsGo_is (ms : List Int) : ∀ (n : Nat) (x : Int), lsGo (lcI ms) (whI ms) (fsI ms (ms.length - 1)) (ms.getD (ms.length - 1) 1) n x = lastI ms n x
  | 0, _ => rfl
  | n + 1, x => lsGo_is ms n _
structure Row (ms : List Int) : Prop where
  sw : Sw ms
  len4 : ms.length ≤ 4
  lc : lcI ms ≤ 1000
  r0 : 0 ≤ restI ms
  r1 : restI ms ≤ 100000
  fix : stepR ms (restI ms) (ms.length - 1) = restI ms
  above : ∀ x, restI ms < x → stepR ms x (ms.length - 1) < x
  lawrest : rsI ms 6000 ((whI ms / (lcI ms - whI ms) + 2) * lcI ms) = restI ms
  low : lastI ms 2700 1000000000000000000000000000007 ≤ restI ms
  pre : ∀ i ≤ ms.length, 0 < (ms.take i).foldl comI 1 ∧ (ms.take i).foldl comI 1 < 1000000
  size : sizeI ms = lcI ms
theorem stepR_add {ms : List Int} (g : Good ms) (x : Int) (h : Nat) : stepR ms (x + lcI ms) h = stepR ms x h + whI ms := by
  have hL := lcI_pos g
  unfold stepR
  rw [Int.add_emod_right]
  have : (x + lcI ms) / lcI ms = x / lcI ms + 1 := by
    rw [Int.add_ediv_of_dvd_right (Int.dvd_refl _), Int.ediv_self (by omega)]
  rw [this, Int.add_mul, Int.one_mul]
  omega
theorem row_of {ms : List Int} (hm : ms ∈ rows1) : Row ms := by
  have h := List.all_eq_true.mp chk_all ms hm
  have h : (_ && _) = true := h
  simp only [Bool.and_eq_true, decide_eq_true_eq, List.all_eq_true] at h
  obtain ⟨⟨⟨⟨⟨⟨⟨⟨⟨⟨⟨⟨⟨⟨⟨h1, h2⟩, h3⟩, h4⟩, h5⟩, h6⟩, h7⟩, h8⟩, h9⟩, h10⟩, h11⟩, h12⟩, h13⟩, h14⟩, h15⟩, h16⟩ := h
  have g : Good ms := ⟨h1, by omega, fun m hm => by have := h3 m hm; exact this⟩
  have hL := lcI_pos g
  have base : ∀ y, restI ms < y → y ≤ restI ms + lcI ms → stepR ms y (ms.length - 1) < y := fun y a b => by
    have := h12 (y - restI ms - 1).toNat (List.mem_range.mpr (by omega))
    rw [show restI ms + 1 + ((y - restI ms - 1).toNat : Int) = y by omega] at this
    exact this
  have up : ∀ (k : Nat) (y : Int), restI ms < y → y ≤ restI ms + lcI ms → stepR ms (y + k * lcI ms) (ms.length - 1) < y + k * lcI ms := by
    intro k
    induction k with
    | zero =>
      intro y a b
      rw [show y + ((0 : Nat) : Int) * lcI ms = y by simp]
      exact base y a b
    | succ k ih =>
      intro y a b
      have := ih y a b
      have e : y + ((k + 1 : Nat) : Int) * lcI ms = (y + (k : Int) * lcI ms) + lcI ms := by
        rw [Int.natCast_add, Int.add_mul]
        omega
      rw [e, stepR_add g]
      omega
  refine ⟨⟨⟨g, by omega⟩, h5, h7, h8⟩, h2, h4, h9, h10, h11, fun x hx => ?_, by rw [← rsGo_is]; exact h13, by rw [← lsGo_is]; exact h14, fun i hi => ?_, h16⟩
  · obtain ⟨k, hk⟩ : ∃ k : Nat, k = ((x - restI ms - 1) / lcI ms).toNat := ⟨_, rfl⟩
    have e1 := Int.mul_ediv_add_emod (x - restI ms - 1) (lcI ms)
    have e2 := Int.emod_nonneg (x - restI ms - 1) (show lcI ms ≠ 0 by omega)
    have e3 := Int.emod_lt_of_pos (x - restI ms - 1) hL
    have e4 : 0 ≤ (x - restI ms - 1) / lcI ms := Int.ediv_nonneg (by omega) (by omega)
    have e5 : (k : Int) = (x - restI ms - 1) / lcI ms := by omega
    rw [← e5, Int.mul_comm] at e1
    have := up k (x - (k : Int) * lcI ms) (by omega) (by omega)
    rw [show x - (k : Int) * lcI ms + (k : Int) * lcI ms = x by omega] at this
    exact this
  · have := h15 i (List.mem_range.mpr (by omega))
    exact this
theorem lastI_mono {ms : List Int} (g : Good ms) : ∀ (n : Nat) (x y : Int), 0 ≤ x → x ≤ y → lastI ms n x ≤ lastI ms n y
  | 0, _, _, _, h => h
  | n + 1, x, y, h0, h => lastI_mono g n _ _ (stepR_nn g (by have := g.1; omega) h0) (stepR_mono g (by have := g.1; omega) h0 h)
theorem swal_find (ms : List Int) (x r : Int) : ∀ N : Nat, lastI ms N x ≤ r → ∃ n, n ≤ N ∧ Swal ms x r n := by
  intro N
  induction N using Nat.strongRecOn with
  | _ N ih =>
    intro h
    by_cases e : ∃ k, k < N ∧ lastI ms k x ≤ r
    · obtain ⟨k, hk, hl⟩ := e
      obtain ⟨n, hn, s⟩ := ih k hk hl
      exact ⟨n, by omega, s⟩
    · refine ⟨N, Nat.le_refl _, h, fun k hk => ?_⟩
      rcases Int.lt_or_le r (lastI ms k x) with z | z
      · exact z
      · exact absurd ⟨k, hk, z⟩ e
theorem Row.swal {ms : List Int} (R : Row ms) {x : Int} (h0 : 0 ≤ x) (h1 : x ≤ 1000000000000000000000000000007) : ∃ n, n ≤ 2700 ∧ Swal ms x (restI ms) n :=
  swal_find ms x _ 2700 (Int.le_trans (lastI_mono R.sw.sm.g 2700 x _ h0 h1) R.low)
/-- no story leads further than the last hand alone -/
theorem gr_le {ms : List Int} (g : Good ms) : ∀ (hs : List Nat) (p : Int × List (List Int)) (y : Int), (∀ h ∈ hs, h < ms.length) → 0 ≤ p.1 → p.1 ≤ y → (hs.foldl (grF ms) p).1 ≤ lastI ms hs.length y
  | [], p, y, _, _, h => h
  | x :: hs, p, y, hb, h0, h => by
    have hx := hb x List.mem_cons_self
    refine gr_le g hs _ _ (fun k hk => hb k (List.mem_cons_of_mem _ hk)) (stepR_nn g hx h0) ?_
    exact Int.le_trans (stepR_last g hx h0) (stepR_mono g (by omega) h0 h)

end
end K23

namespace K23
open PySem L2 Evl DL
local macro_rules | `(tactic| walk_at "dl") => `(tactic| first
  | with_reducible refine bnd_ok ?_ | with_reducible refine bndS_ok ?_ | with_reducible refine onE_ok ?_ | with_reducible refine seq_nx ?_ | with_reducible refine seq_rt ?_ | with_reducible refine seq_bk ?_ | with_reducible refine seq_ct ?_ | with_reducible refine onT_rt ?_ | with_reducible refine onT_bk ?_ | with_reducible refine resS_nx ?_ | with_reducible refine resS_rt ?_
  | refine ev_v rfl ?_ | refine ev_l rfl ?_ | with_reducible refine ev_i ?_ | with_reducible refine ev_n ?_ | with_reducible refine ev_b ?_ | with_reducible refine ev_s ?_
  | with_reducible refine ev_oZ0 ?_ | with_reducible refine ev_oB0 ?_ | with_reducible refine ev_oZ ?_ | with_reducible refine ev_neg ?_ | with_reducible refine ev_neI ?_ | with_reducible refine ev_eqI ?_ | with_reducible refine ev_isN ?_ | with_reducible refine ev_notN ?_ | with_reducible refine ev_chain ?_
  | with_reducible refine ev_andV ?_ | with_reducible refine ev_orV ?_ | with_reducible refine ev_notV ?_ | with_reducible refine ev_if ?_
  | with_reducible refine tv_test ?_ | with_reducible refine tv_B ?_ | with_reducible refine tv_and ?_ | with_reducible refine tv_or ?_ | with_reducible refine tv_not ?_ | with_reducible refine tv_yes ?_
  | with_reducible refine ev_isiInt ?_ | with_reducible refine ev_isiBool ?_ | with_reducible refine ev_isiSeq ?_
  | with_reducible refine av_cons ?_ | with_reducible refine av_nil ?_
  | with_reducible refine ev_pure ?_ | with_reducible refine ev_gcd ?_ | with_reducible refine ev_abs ?_ | with_reducible refine ev_int1 ?_
  | (with_reducible refine DL.ev_len ?_; refine av_cons ?_; refine ev_v rfl ?_; refine bnd_ok ?_; refine av_nil ?_; refine ⟨_, _, _, rfl, by first | rfl | assumption, ?_⟩)
  | with_reducible refine ev_fldD ?_ | with_reducible refine ev_ixS ?_
  | with_reducible refine sv_seq ?_ | with_reducible refine sv_next ?_ | with_reducible refine sv_brk ?_ | with_reducible refine sv_cont ?_ | with_reducible refine sv_ret ?_ | with_reducible refine sv_retN ?_ | with_reducible refine sv_if ?_ | with_reducible refine sv_drop ?_
  | with_reducible refine sv_asg ?_
  | refine ⟨_, rfl, fun hb => ?_, fun hb => ?_⟩
  | refine ⟨_, _, rfl, rfl, fun hb => ?_, fun hb => ?_⟩
  | refine ⟨_, _, rfl, rfl, ?_⟩
  | refine ⟨_, _, _, _, rfl, rfl, rfl, ?_⟩
  | refine ⟨_, rfl, ?_⟩ | refine ⟨_, _, rfl, ?_⟩
  | refine And.intro rfl ?_ | refine And.intro (Nat.le_of_ble_eq_true rfl) ?_ | refine And.intro (by assumption) ?_)
local macro_rules | `(tactic| walk_at "dls") => `(tactic| repeat (walk_at "dl"; all_goals try (first | (exact (nomatch ‹false = true›)) | (exact (nomatch ‹true = false›)))))
local macro_rules | `(tactic| walk_at "dla") => `(tactic| repeat' (first | (exact (nomatch ‹false = true›)) | (exact (nomatch ‹true = false›)) | walk_at "dl"))
local macro_rules | `(tactic| walk_at "dlr") => `(tactic| (refine ret_rt (pms_d _ _ (Nat.le_of_ble_eq_true rfl)) ?_))
local macro_rules | `(tactic| walk_at "dlt") => `(tactic| first | walk_at "dl" | with_reducible refine ev_tup2 ?_ | with_reducible refine ev_tup3 ?_)
local macro_rules | `(tactic| walk_at "dlts") => `(tactic| repeat walk_at "dlt")
section
variable {P : Program} {w : World} {K : PySem.W.Frag} [HasTabs K] {mg : Str → Option Value} {base : Heap} {CH CD : Addr}
abbrev s__law_size : Stmt := topS 55
abbrev N__law_size : List Str := ["marks", "size", "many"]
theorem sc__law_size : FnScope N__law_size ["marks"] (defScope s__law_size) := ⟨rfl, rfl, rfl, by decide +kernel, rfl, by decide +kernel, by decide +kernel⟩
def R_law_size : List Dat → Dat → Prop := fun ds d => ∃ (ms : List Int), ds = [.lst (ms.map Dat.int)] ∧ Row ms ∧ d = .int (lcI ms)
theorem ok__law_size (T : Txt mg) (O__law_common : Ok P w K mg base 1 "_law_common" ["one", "other"] (pureR R_law_common)) (F : Dfn K mg "_law_size" "_law_size" s__law_size ["marks"]) : Ok P w K mg base 2 "_law_size" ["marks"] (pureR R_law_size) := by
  refine F.ok sc__law_size (by decide) (fun os Pp h => ?_) pureR_noex (fun f cdv A outer s H E hr => ⟨_, (pss_cons (ps_set (i := 1) sc__law_size.nd rfl (.inl rfl) pe_int) (pss_cons (ps_for PassesOwn.never rfl (pi_anyK (K := K) rfl (pv 0)) (pg_name (i := 2) sc__law_size.nd rfl (.inl rfl)) (pss_one (ps_set (i := 1) sc__law_size.nd rfl (.inl rfl) (pe_fn O__law_common ⟨rfl, rfl, rfl, rfl, rfl⟩ (hr.mono (by decide)) rfl (pa_cons (pv 1) (pa_cons (pv 2) pa_nil)))))) (pss_one (ps_ret (pv 1))))), fun os Pp h => ?_⟩)
  · obtain ⟨ds, d, rfl, ⟨ms, rfl, R, rfl⟩, q⟩ := h
    rfl
  · obtain ⟨ds, d, rfl, ⟨ms, rfl, R, rfl⟩, q⟩ := h
    show SvP K E0 _ [some (.d (.lst (ms.map Dat.int))), none, none] _
    walk_at "dls"
    refine sv_for (ws := [2]) ?_
    refine iv_any ?_
    walk_at "dls"
    refine ⟨_, _, _, rfl, rfl, ?_⟩
    refine loop_inv (fun i ρ' => ρ' = [some (.d (.lst (ms.map Dat.int))), some (.d (.int ((ms.take i).foldl comI 1))), none]) rfl (fun i d ρ' hi he => ?_) (fun ρ' he => ?_)
    · subst he
      obtain ⟨m, hm, rfl⟩ : ∃ m, ms[i]? = some m ∧ d = .int m := by
        rw [List.getElem?_map] at hi
        cases hx : ms[i]? with
        | none => rw [hx] at hi; cases hi
        | some m => rw [hx] at hi; exact ⟨m, rfl, (Option.some.inj hi).symm⟩
      have hil : i < ms.length := (List.getElem?_eq_some_iff.mp hm).1
      have hb := R.pre i (by omega)
      have hmm := R.sw.sm.g.2.2 m (List.mem_of_getElem? hm)
      refine gv_name (Nat.le_of_ble_eq_true rfl) ?_
      walk_at "dls"
      refine ⟨[.int ((ms.take i).foldl comI 1), .int m], _, rfl, ⟨_, _, rfl, hb.1, by omega, hb.2, by omega, rfl⟩, ?_⟩
      walk_at "dls"
      refine onT_nx (.cons (.cons (.skip .nil))) ?_
      rw [take_fold hm]
    · subst he
      rw [List.length_map, List.take_length, show ms.foldl comI 1 = lcI ms from R.size]
      walk_at "dls"
      walk_at "dlr"
      exact q

end
end K23

namespace K23
open PySem L2 Evl DL
local macro_rules | `(tactic| walk_at "dl") => `(tactic| first
  | with_reducible refine bnd_ok ?_ | with_reducible refine bndS_ok ?_ | with_reducible refine onE_ok ?_ | with_reducible refine seq_nx ?_ | with_reducible refine seq_rt ?_ | with_reducible refine seq_bk ?_ | with_reducible refine seq_ct ?_ | with_reducible refine onT_rt ?_ | with_reducible refine onT_bk ?_ | with_reducible refine resS_nx ?_ | with_reducible refine resS_rt ?_
  | refine ev_v rfl ?_ | refine ev_l rfl ?_ | with_reducible refine ev_i ?_ | with_reducible refine ev_n ?_ | with_reducible refine ev_b ?_ | with_reducible refine ev_s ?_
  | with_reducible refine ev_oZ0 ?_ | with_reducible refine ev_oB0 ?_ | with_reducible refine ev_oZ ?_ | with_reducible refine ev_neg ?_ | with_reducible refine ev_neI ?_ | with_reducible refine ev_eqI ?_ | with_reducible refine ev_isN ?_ | with_reducible refine ev_notN ?_ | with_reducible refine ev_chain ?_
  | with_reducible refine ev_andV ?_ | with_reducible refine ev_orV ?_ | with_reducible refine ev_notV ?_ | with_reducible refine ev_if ?_
  | with_reducible refine tv_test ?_ | with_reducible refine tv_B ?_ | with_reducible refine tv_and ?_ | with_reducible refine tv_or ?_ | with_reducible refine tv_not ?_ | with_reducible refine tv_yes ?_
  | with_reducible refine ev_isiInt ?_ | with_reducible refine ev_isiBool ?_ | with_reducible refine ev_isiSeq ?_
  | with_reducible refine av_cons ?_ | with_reducible refine av_nil ?_
  | with_reducible refine ev_pure ?_ | with_reducible refine ev_gcd ?_ | with_reducible refine ev_abs ?_ | with_reducible refine ev_int1 ?_
  | (with_reducible refine DL.ev_len ?_; refine av_cons ?_; refine ev_v rfl ?_; refine bnd_ok ?_; refine av_nil ?_; refine ⟨_, _, _, rfl, by first | rfl | assumption, ?_⟩)
  | with_reducible refine ev_fldD ?_ | with_reducible refine ev_ixS ?_
  | with_reducible refine sv_seq ?_ | with_reducible refine sv_next ?_ | with_reducible refine sv_brk ?_ | with_reducible refine sv_cont ?_ | with_reducible refine sv_ret ?_ | with_reducible refine sv_retN ?_ | with_reducible refine sv_if ?_ | with_reducible refine sv_drop ?_
  | with_reducible refine sv_asg ?_
  | refine ⟨_, rfl, fun hb => ?_, fun hb => ?_⟩
  | refine ⟨_, _, rfl, rfl, fun hb => ?_, fun hb => ?_⟩
  | refine ⟨_, _, rfl, rfl, ?_⟩
  | refine ⟨_, _, _, _, rfl, rfl, rfl, ?_⟩
  | refine ⟨_, rfl, ?_⟩ | refine ⟨_, _, rfl, ?_⟩
  | refine And.intro rfl ?_ | refine And.intro (Nat.le_of_ble_eq_true rfl) ?_ | refine And.intro (by assumption) ?_)
local macro_rules | `(tactic| walk_at "dls") => `(tactic| repeat (walk_at "dl"; all_goals try (first | (exact (nomatch ‹false = true›)) | (exact (nomatch ‹true = false›)))))
local macro_rules | `(tactic| walk_at "dla") => `(tactic| repeat' (first | (exact (nomatch ‹false = true›)) | (exact (nomatch ‹true = false›)) | walk_at "dl"))
local macro_rules | `(tactic| walk_at "dlr") => `(tactic| (refine ret_rt (pms_d _ _ (Nat.le_of_ble_eq_true rfl)) ?_))
local macro_rules | `(tactic| walk_at "dlt") => `(tactic| first | walk_at "dl" | with_reducible refine ev_tup2 ?_ | with_reducible refine ev_tup3 ?_)
local macro_rules | `(tactic| walk_at "dlts") => `(tactic| repeat walk_at "dlt")
section
variable {P : Program} {w : World} {K : PySem.W.Frag} [HasTabs K] {mg : Str → Option Value} {base : Heap} {CH CD : Addr}
abbrev s__law_step : Stmt := topS 57
abbrev N__law_step : List Str := ["marks", "size", "number", "hand", "parts", "many"]
theorem sc__law_step : FnScope N__law_step ["marks", "size", "number", "hand"] (defScope s__law_step) := ⟨rfl, rfl, rfl, by decide +kernel, rfl, by decide +kernel, by decide +kernel⟩
theorem cutD_take (xs : List Dat) (h : Nat) : cutD xs none (some (h : Int)) = xs.take h := by
  unfold cutD
  rw [show HT.sIx xs.length 0 none = 0 from rfl, HT.sIx_nat, List.drop_zero, Nat.sub_zero]
  rcases Nat.le_total h xs.length with z | z
  · rw [Nat.min_eq_left z]
  · rw [Nat.min_eq_right z, List.take_length, List.take_of_length_le z]
def R_law_step : List Dat → Dat → Prop := fun ds d => ∃ (ms : List Int) (x : Int) (h : Nat), ds = [.lst (ms.map Dat.int), .int (lcI ms), .int x, .int h] ∧ Sm ms ∧ 0 ≤ x ∧ h < ms.length ∧ d = .int (stepR ms x h)
theorem ok__law_step (T : Txt mg) (F : Dfn K mg "_law_step" "_law_step" s__law_step ["marks", "size", "number", "hand"]) : Ok P w K mg base 1 "_law_step" ["marks", "size", "number", "hand"] (pureR R_law_step) := by
  refine F.ok sc__law_step (by decide) (fun os Pp h => ?_) pureR_noex (fun f cdv A outer s H E hr => ⟨_, (pss_cons (ps_setLc (i := 4) (own := [("many", 5)]) (g := gName 5) (tt := tYes) rfl sc__law_step.nd rfl rfl (sw_true rfl rfl rfl (by decide +kernel)) (pi_anyK (K := K) rfl (pv 0)) (blkOk_by (own := [("many", 5)]) (N := N__law_step) (sc := defScope s__law_step) (by decide +kernel)) (fun _ _ _ _ _ => (pg_name (i := 5) sc__law_step.nd rfl (.inl rfl))) (fun _ _ _ _ _ => pts_nil) (fun _ _ _ _ _ => (pe_op op_fdiv (pv 1) (pv 5)))) (pss_one (ps_ret (pe_op op_add (pe_op op_add (pe_op op_mul (pe_op op_fdiv (pv 2) (pv 1)) (pe_callB (r := rSum K) (cr_sum rfl) (by rfl) T.b_sum (by decide +kernel) (pa_cons (pv 4) pa_nil))) (pe_callB (r := rSum K) (cr_sum rfl) (by rfl) T.b_sum (by decide +kernel) (pa_cons (pe_slice (r := rSlL K) sl_list (pv 4) po_none (po_some (pv 3))) pa_nil))) (pe_op op_fdiv (pe_op op_mod (pe_callTy call_int1 (by rfl) T.b_int (by decide +kernel) (pa_cons (pv 2) pa_nil)) (pv 1)) (pe_ix (r := rIx K) ix_seq (pv 0) (pv 3) (fun _ _ => rfl))))))), fun os Pp h => ?_⟩)
  · obtain ⟨ds, d, rfl, ⟨ms, x, h, rfl, hS, h0, hh, rfl⟩, q⟩ := h
    rfl
  · obtain ⟨ds, d, rfl, ⟨ms, x, h, rfl, hS, h0, hh, rfl⟩, q⟩ := h
    have hg := hS.g
    obtain ⟨m, w, p⟩ := hg.part hh
    have hL := lcI_pos hg
    have hs := hS.s
    have hw := hS.wh
    have hm := p.m1
    have hm2 := p.m2
    rw [stepR_at p] at q
    show SvP K E0 _ [some (.d (.lst (ms.map Dat.int))), some (.d (.int (lcI ms))), some (.d (.int x)), some (.d (.int h)), none, none] _
    walk_at "dls"
    refine ev_lcM (ws := [5]) Dat.int (fun m => .int (lcI ms / m)) (by decide) ?_
    refine iv_any ?_
    walk_at "dls"
    refine ⟨_, _, _, rfl, rfl, ms, rfl, by have := hg.2.1; omega, fun m hm => ?_, ?_⟩
    · have := hg.2.2 m hm
      refine gv_name (Nat.le_of_ble_eq_true rfl) ⟨rfl, ?_⟩
      walk_at "dls"
      refine ⟨⟨by omega, by omega⟩, ?_⟩
      exact ⟨rfl, rfl⟩
    · walk_at "dls"
      refine ⟨⟨by omega, by omega⟩, ?_⟩
      walk_at "dls"
      have ep : (ms.map fun m => Dat.int (lcI ms / m)) = (ptsI ms).map Dat.int := by
        unfold ptsI
        rw [List.map_map]
        rfl
      rw [ep]
      refine DL.ev_sum ?_
      walk_at "dls"
      refine ⟨.inr ⟨show -(2 ^ 64) < whI ms by omega, show whI ms < 2 ^ 64 by omega⟩, ?_⟩
      walk_at "dls"
      refine DL.ev_sum ?_
      refine av_cons ?_
      refine ev_slU ?_
      walk_at "dls"
      refine ⟨(ptsI ms).take h, ?_, ?_⟩
      · rw [cutD_take]
        rw [← List.map_take]
      walk_at "dls"
      refine ⟨_, _, _, _, _, rfl, rfl, rfl, p.mx, ?_⟩
      walk_at "dls"
      refine ⟨⟨by omega, by omega⟩, ?_⟩
      walk_at "dls"
      walk_at "dlr"
      exact q

end
end K23

namespace K23
open PySem L2 Evl DL
local macro_rules | `(tactic| walk_at "dl") => `(tactic| first
  | with_reducible refine bnd_ok ?_ | with_reducible refine bndS_ok ?_ | with_reducible refine onE_ok ?_ | with_reducible refine seq_nx ?_ | with_reducible refine seq_rt ?_ | with_reducible refine seq_bk ?_ | with_reducible refine seq_ct ?_ | with_reducible refine onT_rt ?_ | with_reducible refine onT_bk ?_ | with_reducible refine resS_nx ?_ | with_reducible refine resS_rt ?_
  | refine ev_v rfl ?_ | refine ev_l rfl ?_ | with_reducible refine ev_i ?_ | with_reducible refine ev_n ?_ | with_reducible refine ev_b ?_ | with_reducible refine ev_s ?_
  | with_reducible refine ev_oZ0 ?_ | with_reducible refine ev_oB0 ?_ | with_reducible refine ev_oZ ?_ | with_reducible refine ev_neg ?_ | with_reducible refine ev_neI ?_ | with_reducible refine ev_eqI ?_ | with_reducible refine ev_isN ?_ | with_reducible refine ev_notN ?_ | with_reducible refine ev_chain ?_
  | with_reducible refine ev_andV ?_ | with_reducible refine ev_orV ?_ | with_reducible refine ev_notV ?_ | with_reducible refine ev_if ?_
  | with_reducible refine tv_test ?_ | with_reducible refine tv_B ?_ | with_reducible refine tv_and ?_ | with_reducible refine tv_or ?_ | with_reducible refine tv_not ?_ | with_reducible refine tv_yes ?_
  | with_reducible refine ev_isiInt ?_ | with_reducible refine ev_isiBool ?_ | with_reducible refine ev_isiSeq ?_
  | with_reducible refine av_cons ?_ | with_reducible refine av_nil ?_
  | with_reducible refine ev_pure ?_ | with_reducible refine ev_gcd ?_ | with_reducible refine ev_abs ?_ | with_reducible refine ev_int1 ?_
  | (with_reducible refine DL.ev_len ?_; refine av_cons ?_; refine ev_v rfl ?_; refine bnd_ok ?_; refine av_nil ?_; refine ⟨_, _, _, rfl, by first | rfl | assumption, ?_⟩)
  | with_reducible refine ev_fldD ?_ | with_reducible refine ev_ixS ?_
  | with_reducible refine sv_seq ?_ | with_reducible refine sv_next ?_ | with_reducible refine sv_brk ?_ | with_reducible refine sv_cont ?_ | with_reducible refine sv_ret ?_ | with_reducible refine sv_retN ?_ | with_reducible refine sv_if ?_ | with_reducible refine sv_drop ?_
  | with_reducible refine sv_asg ?_
  | refine ⟨_, rfl, fun hb => ?_, fun hb => ?_⟩
  | refine ⟨_, _, rfl, rfl, fun hb => ?_, fun hb => ?_⟩
  | refine ⟨_, _, rfl, rfl, ?_⟩
  | refine ⟨_, _, _, _, rfl, rfl, rfl, ?_⟩
  | refine ⟨_, rfl, ?_⟩ | refine ⟨_, _, rfl, ?_⟩
  | refine And.intro rfl ?_ | refine And.intro (Nat.le_of_ble_eq_true rfl) ?_ | refine And.intro (by assumption) ?_)
local macro_rules | `(tactic| walk_at "dls") => `(tactic| repeat (walk_at "dl"; all_goals try (first | (exact (nomatch ‹false = true›)) | (exact (nomatch ‹true = false›)))))
local macro_rules | `(tactic| walk_at "dla") => `(tactic| repeat' (first | (exact (nomatch ‹false = true›)) | (exact (nomatch ‹true = false›)) | walk_at "dl"))
local macro_rules | `(tactic| walk_at "dlr") => `(tactic| (refine ret_rt (pms_d _ _ (Nat.le_of_ble_eq_true rfl)) ?_))
local macro_rules | `(tactic| walk_at "dlt") => `(tactic| first | walk_at "dl" | with_reducible refine ev_tup2 ?_ | with_reducible refine ev_tup3 ?_)
local macro_rules | `(tactic| walk_at "dlts") => `(tactic| repeat walk_at "dlt")
section
variable {P : Program} {w : World} {K : PySem.W.Frag} [HasTabs K] {mg : Str → Option Value} {base : Heap} {CH CD : Addr}
abbrev s__law_rest : Stmt := topS 58
abbrev N__law_rest : List Str := ["marks", "size", "whole", "number", "turn", "after", "many"]
theorem sc__law_rest : FnScope N__law_rest ["marks", "size"] (defScope s__law_rest) := ⟨rfl, rfl, rfl, by decide +kernel, rfl, by decide +kernel, by decide +kernel⟩
def R_law_rest : List Dat → Dat → Prop := fun ds d => ∃ (ms : List Int), ds = [.lst (ms.map Dat.int), .int (lcI ms)] ∧ Row ms ∧ d = .int (restI ms)
theorem rsI_nn {ms : List Int} (g : Good ms) : ∀ (n : Nat) (x : Int), 0 ≤ x → 0 ≤ rsI ms n x
  | 0, _, h => h
  | n + 1, x, h => by
    unfold rsI
    split
    · exact h
    · exact rsI_nn g n _ (stepR_nn g (by have := g.1; omega) h)
theorem ok__law_rest (T : Txt mg) (O__law_step : Ok P w K mg base 1 "_law_step" ["marks", "size", "number", "hand"] (pureR R_law_step)) (F : Dfn K mg "_law_rest" "_law_rest" s__law_rest ["marks", "size"]) : Ok P w K mg base 2 "_law_rest" ["marks", "size"] (pureR R_law_rest) := by
  refine F.ok sc__law_rest (by decide) (fun os Pp h => ?_) pureR_noex (fun f cdv A outer s H E hr => ⟨_, (pss_cons (ps_set (i := 2) sc__law_rest.nd rfl (.inl rfl) (pe_callB (r := rSum K) (cr_sum rfl) (by rfl) T.b_sum (by decide +kernel) (pa_cons (pe_lc (own := [("many", 6)]) (g := gName 6) (tt := tYes) rfl sc__law_rest.nd (pi_anyK (K := K) rfl (pv 0)) (blkOk_by (own := [("many", 6)]) (N := N__law_rest) (sc := defScope s__law_rest) (by decide +kernel)) (fun _ _ _ _ _ => (pg_name (i := 6) sc__law_rest.nd rfl (.inl rfl))) (fun _ _ _ _ _ => pts_nil) (fun _ _ _ _ _ => (pe_op op_fdiv (pv 1) (pv 6)))) pa_nil))) (pss_cons (ps_set (i := 3) sc__law_rest.nd rfl (.inl rfl) (pe_op op_mul (pe_op op_add (pe_op op_fdiv (pv 2) (pe_op op_sub (pv 1) (pv 2))) pe_int) (pv 1))) (pss_cons (ps_for PassesOwn.never rfl (pi_range1 (by rfl) T.b_range (pa_cons pe_int pa_nil)) (pg_name (i := 4) sc__law_rest.nd rfl (.inl rfl)) (pss_cons (ps_set (i := 5) sc__law_rest.nd rfl (.inl rfl) (pe_fn O__law_step ⟨rfl, rfl, rfl, rfl, rfl⟩ (hr.mono (by decide)) rfl (pa_cons (pv 0) (pa_cons (pv 1) (pa_cons (pv 3) (pa_cons (pe_op op_sub (pe_callB (r := rLenQ K) call_len_seq (by rfl) T.b_len (by decide +kernel) (pa_cons (pv 0) pa_nil)) pe_int) pa_nil)))))) (pss_cons (ps_if (pt_cmpR op_eq (pv 5) (pv 3) (nomark _)) (pss_one ps_break) pss_nil) (pss_one (ps_set (i := 3) sc__law_rest.nd rfl (.inl rfl) (pv 5)))))) (pss_one (ps_ret (pv 3)))))), fun os Pp h => ?_⟩)
  · obtain ⟨ds, d, rfl, ⟨ms, rfl, R, rfl⟩, q⟩ := h
    rfl
  · obtain ⟨ds, d, rfl, ⟨ms, rfl, R, rfl⟩, q⟩ := h
    have hg := R.sw.sm.g
    have hl1 := hg.1
    have hL := lcI_pos hg
    have hlc := R.lc
    have hwl := R.sw.wl
    have hw := R.sw.sm.wh
    show SvP K E0 _ [some (.d (.lst (ms.map Dat.int))), some (.d (.int (lcI ms))), none, none, none, none, none] _
    walk_at "dls"
    refine DL.ev_sum ?_
    refine av_cons ?_
    refine ev_lcM (ws := [6]) Dat.int (fun m => .int (lcI ms / m)) (by decide) ?_
    refine iv_any ?_
    walk_at "dls"
    refine ⟨_, _, _, rfl, rfl, ms, rfl, by have := hg.2.1; omega, fun m hm => ?_, ?_⟩
    · have := hg.2.2 m hm
      refine gv_name (Nat.le_of_ble_eq_true rfl) ⟨rfl, ?_⟩
      walk_at "dls"
      refine ⟨⟨by omega, by omega⟩, ?_⟩
      exact ⟨rfl, rfl⟩
    · have ep : (ms.map fun m => Dat.int (lcI ms / m)) = (ptsI ms).map Dat.int := by
        unfold ptsI
        rw [List.map_map]
        rfl
      rw [ep]
      walk_at "dls"
      rw [show (ptsI ms).sum = whI ms from rfl]
      refine ⟨⟨by omega, by omega⟩, ?_⟩
      walk_at "dls"
      refine ⟨.inr ⟨by omega, by omega⟩, ?_⟩
      walk_at "dls"
      refine sv_for (ws := [4]) ?_
      refine iv_rng1 ?_
      walk_at "dls"
      refine ⟨by decide, by decide, ?_⟩
      have hst : 0 ≤ (whI ms / (lcI ms - whI ms) + 2) * lcI ms := Int.mul_nonneg (by have := Int.ediv_nonneg (show 0 ≤ whI ms by omega) (show 0 ≤ lcI ms - whI ms by omega); omega) (by omega)
      refine loop_inv (fun i ρ' => ∃ y u, ρ' = [some (.d (.lst (ms.map Dat.int))), some (.d (.int (lcI ms))), some (.d (.int (whI ms))), some (.d (.int y)), none, u, none] ∧ rsI ms (6000 - i) y = restI ms ∧ 0 ≤ y) ⟨_, _, rfl, R.lawrest, hst⟩ (fun i d ρ' hi he => ?_) (fun ρ' he => ?_)
      · obtain ⟨y, u, rfl, hy, hy0⟩ := he
        have hil : i < 6000 := by
          have := (List.getElem?_eq_some_iff.mp hi).1
          rw [rangeD_len] at this
          exact this
        obtain ⟨j, hj⟩ : ∃ j, 6000 - i = j + 1 := ⟨5999 - i, by omega⟩
        rw [hj] at hy
        have hy : (if stepR ms y (ms.length - 1) = y then y else rsI ms j (stepR ms y (ms.length - 1))) = restI ms := hy
        refine gv_name (Nat.le_of_ble_eq_true rfl) ?_
        walk_at "dls"
        refine DL.ev_len ?_
        walk_at "dls"
        refine ⟨_, _, _, rfl, rfl, ?_⟩
        rw [List.length_map]
        walk_at "dls"
        refine ⟨[.lst (ms.map Dat.int), .int (lcI ms), .int y, .int (ms.length - 1 : Nat)], _, ?_, ⟨ms, y, ms.length - 1, rfl, R.sw.sm, hy0, by omega, rfl⟩, ?_⟩
        · show [_, _, _, Ow.d (.int ((ms.length : Int) - 1))] = _
          rw [show ((ms.length : Int) - 1) = ((ms.length - 1 : Nat) : Int) by omega]
          rfl
        walk_at "dls"
        · rename_i hb
          rw [if_pos (of_decide_eq_true hb)] at hy
          subst hy
          walk_at "dlr"
          exact q
        · rename_i hb
          rw [if_neg (of_decide_eq_false hb)] at hy
          walk_at "dls"
          refine onT_nx (.cons (.cons (.cons (.cons (.skip (.cons (.cons .nil))))))) ⟨_, _, rfl, ?_, stepR_nn hg (by omega) hy0⟩
          rw [show 6000 - (i + 1) = j by omega]
          exact hy
      · obtain ⟨y, u, rfl, hy, hy0⟩ := he
        rw [rangeD_len] at hy
        have hy : y = restI ms := hy
        subst hy
        walk_at "dls"
        walk_at "dlr"
        exact q

end
end K23

namespace K23
open PySem L2 Evl DL
local macro_rules | `(tactic| walk_at "dl") => `(tactic| first
  | with_reducible refine bnd_ok ?_ | with_reducible refine bndS_ok ?_ | with_reducible refine onE_ok ?_ | with_reducible refine seq_nx ?_ | with_reducible refine seq_rt ?_ | with_reducible refine seq_bk ?_ | with_reducible refine seq_ct ?_ | with_reducible refine onT_rt ?_ | with_reducible refine onT_bk ?_ | with_reducible refine resS_nx ?_ | with_reducible refine resS_rt ?_
  | refine ev_v rfl ?_ | refine ev_l rfl ?_ | with_reducible refine ev_i ?_ | with_reducible refine ev_n ?_ | with_reducible refine ev_b ?_ | with_reducible refine ev_s ?_
  | with_reducible refine ev_oZ0 ?_ | with_reducible refine ev_oB0 ?_ | with_reducible refine ev_oZ ?_ | with_reducible refine ev_neg ?_ | with_reducible refine ev_neI ?_ | with_reducible refine ev_eqI ?_ | with_reducible refine ev_isN ?_ | with_reducible refine ev_notN ?_ | with_reducible refine ev_chain ?_
  | with_reducible refine ev_andV ?_ | with_reducible refine ev_orV ?_ | with_reducible refine ev_notV ?_ | with_reducible refine ev_if ?_
  | with_reducible refine tv_test ?_ | with_reducible refine tv_B ?_ | with_reducible refine tv_and ?_ | with_reducible refine tv_or ?_ | with_reducible refine tv_not ?_ | with_reducible refine tv_yes ?_
  | with_reducible refine ev_isiInt ?_ | with_reducible refine ev_isiBool ?_ | with_reducible refine ev_isiSeq ?_
  | with_reducible refine av_cons ?_ | with_reducible refine av_nil ?_
  | with_reducible refine ev_pure ?_ | with_reducible refine ev_gcd ?_ | with_reducible refine ev_abs ?_ | with_reducible refine ev_int1 ?_
  | (with_reducible refine DL.ev_len ?_; refine av_cons ?_; refine ev_v rfl ?_; refine bnd_ok ?_; refine av_nil ?_; refine ⟨_, _, _, rfl, by first | rfl | assumption, ?_⟩)
  | with_reducible refine ev_fldD ?_ | with_reducible refine ev_ixS ?_
  | with_reducible refine sv_seq ?_ | with_reducible refine sv_next ?_ | with_reducible refine sv_brk ?_ | with_reducible refine sv_cont ?_ | with_reducible refine sv_ret ?_ | with_reducible refine sv_retN ?_ | with_reducible refine sv_if ?_ | with_reducible refine sv_drop ?_
  | with_reducible refine sv_asg ?_
  | refine ⟨_, rfl, fun hb => ?_, fun hb => ?_⟩
  | refine ⟨_, _, rfl, rfl, fun hb => ?_, fun hb => ?_⟩
  | refine ⟨_, _, rfl, rfl, ?_⟩
  | refine ⟨_, _, _, _, rfl, rfl, rfl, ?_⟩
  | refine ⟨_, rfl, ?_⟩ | refine ⟨_, _, rfl, ?_⟩
  | refine And.intro rfl ?_ | refine And.intro (Nat.le_of_ble_eq_true rfl) ?_ | refine And.intro (by assumption) ?_)
local macro_rules | `(tactic| walk_at "dls") => `(tactic| repeat (walk_at "dl"; all_goals try (first | (exact (nomatch ‹false = true›)) | (exact (nomatch ‹true = false›)))))
local macro_rules | `(tactic| walk_at "dla") => `(tactic| repeat' (first | (exact (nomatch ‹false = true›)) | (exact (nomatch ‹true = false›)) | walk_at "dl"))
local macro_rules | `(tactic| walk_at "dlr") => `(tactic| (refine ret_rt (pms_d _ _ (Nat.le_of_ble_eq_true rfl)) ?_))
local macro_rules | `(tactic| walk_at "dlt") => `(tactic| first | walk_at "dl" | with_reducible refine ev_tup2 ?_ | with_reducible refine ev_tup3 ?_)
local macro_rules | `(tactic| walk_at "dlts") => `(tactic| repeat walk_at "dlt")
section
variable {P : Program} {w : World} {K : PySem.W.Frag} [HasTabs K] {mg : Str → Option Value} {base : Heap} {CH CD : Addr}
abbrev s__law_length : Stmt := topS 61
abbrev N__law_length : List Str := ["marks", "size", "number", "rest", "length", "turn"]
theorem sc__law_length : FnScope N__law_length ["marks", "size", "number", "rest"] (defScope s__law_length) := ⟨rfl, rfl, rfl, by decide +kernel, rfl, by decide +kernel, by decide +kernel⟩
def R_law_length : List Dat → Dat → Prop := fun ds d => ∃ (ms : List Int) (x r : Int) (n : Nat), ds = [.lst (ms.map Dat.int), .int (lcI ms), .int x, .int r] ∧ Sm ms ∧ 0 ≤ x ∧ Swal ms x r n ∧ n < 9000 ∧ d = .int n
theorem ok__law_length (T : Txt mg) (O__law_step : Ok P w K mg base 1 "_law_step" ["marks", "size", "number", "hand"] (pureR R_law_step)) (F : Dfn K mg "_law_length" "_law_length" s__law_length ["marks", "size", "number", "rest"]) : Ok P w K mg base 2 "_law_length" ["marks", "size", "number", "rest"] (pureR R_law_length) := by
  refine F.ok sc__law_length (by decide) (fun os Pp h => ?_) pureR_noex (fun f cdv A outer s H E hr => ⟨_, (pss_cons (ps_set (i := 4) sc__law_length.nd rfl (.inl rfl) pe_int) (pss_cons (ps_for PassesOwn.never rfl (pi_range1 (by rfl) T.b_range (pa_cons pe_int pa_nil)) (pg_name (i := 5) sc__law_length.nd rfl (.inl rfl)) (pss_cons (ps_if (pt_cmpR op_le (pv 2) (pv 3) (nomark _)) (pss_one ps_break) pss_nil) (pss_one (ps_par (i := 2) (j := 4) rfl sc__law_length.nd rfl rfl (by decide) rfl rfl (pa_cons (pe_fn O__law_step ⟨rfl, rfl, rfl, rfl, rfl⟩ (hr.mono (by decide)) rfl (pa_cons (pv 0) (pa_cons (pv 1) (pa_cons (pv 2) (pa_cons (pe_op op_sub (pe_callB (r := rLenQ K) call_len_seq (by rfl) T.b_len (by decide +kernel) (pa_cons (pv 0) pa_nil)) pe_int) pa_nil))))) (pa_cons (pe_op op_add (pv 4) pe_int) pa_nil)) rfl)))) (pss_one (ps_ret (pv 4))))), fun os Pp h => ?_⟩)
  · obtain ⟨ds, d, rfl, ⟨ms, x, r, n, rfl, hS, h0, hw, hn, rfl⟩, q⟩ := h
    rfl
  · obtain ⟨ds, d, rfl, ⟨ms, x, r, n, rfl, hS, h0, hw, hn, rfl⟩, q⟩ := h
    have hg := hS.g
    have hl1 := hg.1
    show SvP K E0 _ [some (.d (.lst (ms.map Dat.int))), some (.d (.int (lcI ms))), some (.d (.int x)), some (.d (.int r)), none, none] _
    walk_at "dls"
    refine sv_for (ws := [5]) ?_
    refine iv_rng1 ?_
    walk_at "dls"
    refine ⟨by decide, by decide, ?_⟩
    have stop : ∀ k, k ≤ n → lastI ms k x ≤ r → k = n := fun k hk hl => by
      rcases Nat.lt_or_ge k n with z | z
      · have := hw.2 k z
        omega
      · omega
    refine loop_inv (fun i ρ' => i ≤ n ∧ ρ' = [some (.d (.lst (ms.map Dat.int))), some (.d (.int (lcI ms))), some (.d (.int (lastI ms i x))), some (.d (.int r)), some (.d (.int i)), none]) ⟨Nat.zero_le _, rfl⟩ (fun i d ρ' hi he => ?_) (fun ρ' he => ?_)
    · obtain ⟨hin, rfl⟩ := he
      have hnn := lastI_nn hg i x h0
      refine gv_name (Nat.le_of_ble_eq_true rfl) ?_
      walk_at "dls"
      · rename_i hb
        obtain rfl := stop i hin (of_decide_eq_true hb)
        exact ret_rt (pms_d [.lst (ms.map Dat.int), .int (lcI ms), .int x, .int r] _ (Nat.le_of_ble_eq_true rfl)) q
      · rename_i hb
        have hb := of_decide_eq_false hb
        have hi2 : i < n := by
          rcases Nat.lt_or_ge i n with z | z
          · exact z
          · exfalso
            have : i = n := by omega
            subst this
            exact hb hw.1
        walk_at "dls"
        refine sv_par ?_
        walk_at "dls"
        refine DL.ev_len ?_
        walk_at "dls"
        refine ⟨_, _, _, rfl, rfl, ?_⟩
        rw [List.length_map]
        walk_at "dls"
        refine ⟨[.lst (ms.map Dat.int), .int (lcI ms), .int (lastI ms i x), .int (ms.length - 1 : Nat)], _, ?_, ⟨ms, _, ms.length - 1, rfl, hS, hnn, by omega, rfl⟩, ?_⟩
        · show [_, _, _, Ow.d (.int ((ms.length : Int) - 1))] = _
          rw [show ((ms.length : Int) - 1) = ((ms.length - 1 : Nat) : Int) by omega]
          rfl
        walk_at "dls"
        refine onT_nx (.cons (.cons (.cons (.cons (.cons (.skip .nil)))))) ⟨by omega, ?_⟩
        rw [lastI_succ]
        rfl
    · obtain ⟨hin, rfl⟩ := he
      rw [rangeD_len] at hin
      exfalso
      have : (9000 : Int).toNat = 9000 := rfl
      omega

end
end K23

namespace K23
open PySem L2 Evl DL
local macro_rules | `(tactic| walk_at "dl") => `(tactic| first
  | with_reducible refine bnd_ok ?_ | with_reducible refine bndS_ok ?_ | with_reducible refine onE_ok ?_ | with_reducible refine seq_nx ?_ | with_reducible refine seq_rt ?_ | with_reducible refine seq_bk ?_ | with_reducible refine seq_ct ?_ | with_reducible refine onT_rt ?_ | with_reducible refine onT_bk ?_ | with_reducible refine resS_nx ?_ | with_reducible refine resS_rt ?_
  | refine ev_v rfl ?_ | refine ev_l rfl ?_ | with_reducible refine ev_i ?_ | with_reducible refine ev_n ?_ | with_reducible refine ev_b ?_ | with_reducible refine ev_s ?_
  | with_reducible refine ev_oZ0 ?_ | with_reducible refine ev_oB0 ?_ | with_reducible refine ev_oZ ?_ | with_reducible refine ev_neg ?_ | with_reducible refine ev_neI ?_ | with_reducible refine ev_eqI ?_ | with_reducible refine ev_isN ?_ | with_reducible refine ev_notN ?_ | with_reducible refine ev_chain ?_
  | with_reducible refine ev_andV ?_ | with_reducible refine ev_orV ?_ | with_reducible refine ev_notV ?_ | with_reducible refine ev_if ?_
  | with_reducible refine tv_test ?_ | with_reducible refine tv_B ?_ | with_reducible refine tv_and ?_ | with_reducible refine tv_or ?_ | with_reducible refine tv_not ?_ | with_reducible refine tv_yes ?_
  | with_reducible refine ev_isiInt ?_ | with_reducible refine ev_isiBool ?_ | with_reducible refine ev_isiSeq ?_
  | with_reducible refine av_cons ?_ | with_reducible refine av_nil ?_
  | with_reducible refine ev_pure ?_ | with_reducible refine ev_gcd ?_ | with_reducible refine ev_abs ?_ | with_reducible refine ev_int1 ?_
  | (with_reducible refine DL.ev_len ?_; refine av_cons ?_; refine ev_v rfl ?_; refine bnd_ok ?_; refine av_nil ?_; refine ⟨_, _, _, rfl, by first | rfl | assumption, ?_⟩)
  | with_reducible refine ev_fldD ?_ | with_reducible refine ev_ixS ?_
  | with_reducible refine sv_seq ?_ | with_reducible refine sv_next ?_ | with_reducible refine sv_brk ?_ | with_reducible refine sv_cont ?_ | with_reducible refine sv_ret ?_ | with_reducible refine sv_retN ?_ | with_reducible refine sv_if ?_ | with_reducible refine sv_drop ?_
  | with_reducible refine sv_asg ?_
  | refine ⟨_, rfl, fun hb => ?_, fun hb => ?_⟩
  | refine ⟨_, _, rfl, rfl, fun hb => ?_, fun hb => ?_⟩
  | refine ⟨_, _, rfl, rfl, ?_⟩
  | refine ⟨_, _, _, _, rfl, rfl, rfl, ?_⟩
  | refine ⟨_, rfl, ?_⟩ | refine ⟨_, _, rfl, ?_⟩
  | refine And.intro rfl ?_ | refine And.intro (Nat.le_of_ble_eq_true rfl) ?_ | refine And.intro (by assumption) ?_)
local macro_rules | `(tactic| walk_at "dls") => `(tactic| repeat (walk_at "dl"; all_goals try (first | (exact (nomatch ‹false = true›)) | (exact (nomatch ‹true = false›)))))
local macro_rules | `(tactic| walk_at "dla") => `(tactic| repeat' (first | (exact (nomatch ‹false = true›)) | (exact (nomatch ‹true = false›)) | walk_at "dl"))
local macro_rules | `(tactic| walk_at "dlr") => `(tactic| (refine ret_rt (pms_d _ _ (Nat.le_of_ble_eq_true rfl)) ?_))
local macro_rules | `(tactic| walk_at "dlt") => `(tactic| first | walk_at "dl" | with_reducible refine ev_tup2 ?_ | with_reducible refine ev_tup3 ?_)
local macro_rules | `(tactic| walk_at "dlts") => `(tactic| repeat walk_at "dlt")
section
variable {P : Program} {w : World} {K : PySem.W.Frag} [HasTabs K] {mg : Str → Option Value} {base : Heap} {CH CD : Addr}
local macro_rules | `(tactic| walk_at "boxs") => `(tactic| first | walk_at "dl" | refine And.intro (show (0 : Int) < _ by decide) ?_ | refine And.intro (Or.inr ⟨by decide, by decide⟩) ?_ | refine And.intro (Or.inl ⟨by decide, by decide⟩) ?_)
abbrev s__law_take : Stmt := topS 52
abbrev N__law_take : List Str := ["box", "many", "raw", "digit"]
theorem sc__law_take : FnScope N__law_take ["box", "many"] (defScope s__law_take) := ⟨rfl, rfl, rfl, by decide +kernel, rfl, by decide +kernel, by decide +kernel⟩
def R_law_take : Pr := fun os Pp => ∃ (a : Addr) (g s m : Int), os = [boxO a g s, .d (.int m)] ∧ 0 < m ∧ m < 1000000001 ∧ ∀ i g' s', 0 ≤ i → i < m → Pp (.ok (.d (.int i))) [boxO a g' s', .d (.int m)]
theorem R_law_take_noex (os : List Ow) (Pp : Re → List Ow → Prop) (h : R_law_take os Pp) : R_law_take os (fun r us => (match r with | .ok _ => True | .ex _ _ => False) ∧ Pp r us) := by
  obtain ⟨a, g, s, m, h1, h2, h3, q⟩ := h
  exact ⟨a, g, s, m, h1, h2, h3, fun i g' s' e1 e2 => ⟨trivial, q i g' s' e1 e2⟩⟩
theorem ok__law_take (T : Txt mg) (F : Dfn K mg "_law_take" "_law_take" s__law_take ["box", "many"]) : Ok P w K mg base 1 "_law_take" ["box", "many"] R_law_take := by
  refine F.ok sc__law_take (by decide) (fun os Pp h => ?_) R_law_take_noex (fun f cdv A outer s H E hr => ⟨_, (pss_cons (ps_if (pt_cmpR op_gt (pe_ix (r := rIxL K) ix_list (pv 0) pe_int (fun _ _ => rfl)) pe_int (nomark _)) (pss_cons (ps_set (i := 3) sc__law_take.nd rfl (.inl rfl) (pe_op op_mod (pe_callTy call_int1 (by rfl) T.b_int (by decide +kernel) (pa_cons (pe_ix (r := rIxL K) ix_list (pv 0) pe_int (fun _ _ => rfl)) pa_nil)) (pv 1))) (pss_cons (ps_asg (pe_op op_fdiv (pe_ix (r := rIxL K) ix_list (pv 0) pe_int (fun _ _ => rfl)) (pv 1)) (pg_sub (pv 0) pe_int set_list)) (pss_one (ps_ret (pv 3))))) pss_nil) (pss_cons (ps_set (i := 2) sc__law_take.nd rfl (.inl rfl) (pe_op op_mod (pe_callTy call_int1 (by rfl) T.b_int (by decide +kernel) (pa_cons (pe_op op_add (pe_op op_mul (pe_ix (r := rIxL K) ix_list (pv 0) pe_int (fun _ _ => rfl)) pe_int) pe_int) pa_nil)) pe_int)) (pss_cons (ps_asg (pe_op op_add (pe_op op_mod (pe_callTy call_int1 (by rfl) T.b_int (by decide +kernel) (pa_cons (pe_op op_add (pe_op op_mul (pv 2) pe_int) pe_int) pa_nil)) pe_int) pe_int) (pg_sub (pv 0) pe_int set_list)) (pss_one (ps_ret (pe_op op_mod (pe_callTy call_int1 (by rfl) T.b_int (by decide +kernel) (pa_cons (pe_op op_fdiv (pe_op op_add (pe_op op_mul (pv 2) pe_int) (pe_ix (r := rIxL K) ix_list (pv 0) pe_int (fun _ _ => rfl))) pe_int) pa_nil)) (pv 1))))))), fun os Pp h => ?_⟩)
  · obtain ⟨a, g, sd, m, rfl, h1, h2, q⟩ := h
    rfl
  · obtain ⟨a, g, sd, m, rfl, h1, h2, q⟩ := h
    show SvP K E0 _ [some (boxO a g sd), some (.d (.int m)), none, none] _
    have rd0 : ∀ {ρ : Rh} {S : EPost} {x y : Int}, ρ[0]? = some (some (boxO a x y)) → S (.ok (.d (.int x))) ρ → EvP K E0 (tOp (rIxL K) (tVar 0) (tC (.int 0))) ρ S := fun {ρ S x y} e z =>
      ev_ixO (ev_i (bnd_ok ⟨rfl, a, [.int x, .int y], 0, .int x, e, rfl, rfl, z⟩)) ⟨a, [.int x, .int y], e⟩
    have rd1 : ∀ {ρ : Rh} {S : EPost} {x y : Int}, ρ[0]? = some (some (boxO a x y)) → S (.ok (.d (.int y))) ρ → EvP K E0 (tOp (rIxL K) (tVar 0) (tC (.int 1))) ρ S := fun {ρ S x y} e z =>
      ev_ixO (ev_i (bnd_ok ⟨rfl, a, [.int x, .int y], 1, .int y, e, rfl, rfl, z⟩)) ⟨a, [.int x, .int y], e⟩
    walk_at "dls"
    refine rd0 rfl ?_
    walk_at "dls"
    · refine rd0 rfl ?_
      walk_at "dls"
      refine sv_set ?_
      refine ev_oZ ?_
      refine rd0 rfl ?_
      walk_at "dls"
      refine ⟨⟨h1, by omega⟩, ?_⟩
      walk_at "dl"
      refine ⟨⟨_, _, rfl⟩, ?_⟩
      refine ev_i (bndS_ok ⟨rfl, .int (g / m), a, [.int g, .int sd], 0, rfl, rfl, rfl, Nat.le_of_ble_eq_true rfl, ?_⟩)
      walk_at "dls"
      refine ret_rt (.own rfl rfl (.dat .nil)) ?_
      exact q (g % m) (g / m) sd (Int.emod_nonneg _ (Int.ne_of_gt h1)) (Int.emod_lt_of_pos _ h1)
    · walk_at "dls"
      refine rd1 rfl ?_
      repeat walk_at "boxs"
      refine sv_set ?_
      repeat walk_at "boxs"
      refine ⟨⟨_, _, rfl⟩, ?_⟩
      refine ev_i (bndS_ok ⟨rfl, _, a, [.int g, .int sd], 1, rfl, rfl, rfl, Nat.le_of_ble_eq_true rfl, ?_⟩)
      repeat walk_at "boxs"
      refine rd1 rfl ?_
      repeat walk_at "boxs"
      refine ⟨⟨by decide, by decide⟩, ?_⟩
      repeat walk_at "boxs"
      refine ret_rt (.own rfl rfl (.dat .nil)) ?_
      exact q _ g _ (Int.emod_nonneg _ (Int.ne_of_gt h1)) (Int.emod_lt_of_pos _ h1)

end
end K23

namespace K23
open PySem L2 Evl DL
local macro_rules | `(tactic| walk_at "dl") => `(tactic| first
  | with_reducible refine bnd_ok ?_ | with_reducible refine bndS_ok ?_ | with_reducible refine onE_ok ?_ | with_reducible refine seq_nx ?_ | with_reducible refine seq_rt ?_ | with_reducible refine seq_bk ?_ | with_reducible refine seq_ct ?_ | with_reducible refine onT_rt ?_ | with_reducible refine onT_bk ?_ | with_reducible refine resS_nx ?_ | with_reducible refine resS_rt ?_
  | refine ev_v rfl ?_ | refine ev_l rfl ?_ | with_reducible refine ev_i ?_ | with_reducible refine ev_n ?_ | with_reducible refine ev_b ?_ | with_reducible refine ev_s ?_
  | with_reducible refine ev_oZ0 ?_ | with_reducible refine ev_oB0 ?_ | with_reducible refine ev_oZ ?_ | with_reducible refine ev_neg ?_ | with_reducible refine ev_neI ?_ | with_reducible refine ev_eqI ?_ | with_reducible refine ev_isN ?_ | with_reducible refine ev_notN ?_ | with_reducible refine ev_chain ?_
  | with_reducible refine ev_andV ?_ | with_reducible refine ev_orV ?_ | with_reducible refine ev_notV ?_ | with_reducible refine ev_if ?_
  | with_reducible refine tv_test ?_ | with_reducible refine tv_B ?_ | with_reducible refine tv_and ?_ | with_reducible refine tv_or ?_ | with_reducible refine tv_not ?_ | with_reducible refine tv_yes ?_
  | with_reducible refine ev_isiInt ?_ | with_reducible refine ev_isiBool ?_ | with_reducible refine ev_isiSeq ?_
  | with_reducible refine av_cons ?_ | with_reducible refine av_nil ?_
  | with_reducible refine ev_pure ?_ | with_reducible refine ev_gcd ?_ | with_reducible refine ev_abs ?_ | with_reducible refine ev_int1 ?_
  | (with_reducible refine DL.ev_len ?_; refine av_cons ?_; refine ev_v rfl ?_; refine bnd_ok ?_; refine av_nil ?_; refine ⟨_, _, _, rfl, by first | rfl | assumption, ?_⟩)
  | with_reducible refine ev_fldD ?_ | with_reducible refine ev_ixS ?_
  | with_reducible refine sv_seq ?_ | with_reducible refine sv_next ?_ | with_reducible refine sv_brk ?_ | with_reducible refine sv_cont ?_ | with_reducible refine sv_ret ?_ | with_reducible refine sv_retN ?_ | with_reducible refine sv_if ?_ | with_reducible refine sv_drop ?_
  | with_reducible refine sv_asg ?_
  | refine ⟨_, rfl, fun hb => ?_, fun hb => ?_⟩
  | refine ⟨_, _, rfl, rfl, fun hb => ?_, fun hb => ?_⟩
  | refine ⟨_, _, rfl, rfl, ?_⟩
  | refine ⟨_, _, _, _, rfl, rfl, rfl, ?_⟩
  | refine ⟨_, rfl, ?_⟩ | refine ⟨_, _, rfl, ?_⟩
  | refine And.intro rfl ?_ | refine And.intro (Nat.le_of_ble_eq_true rfl) ?_ | refine And.intro (by assumption) ?_)
local macro_rules | `(tactic| walk_at "dls") => `(tactic| repeat (walk_at "dl"; all_goals try (first | (exact (nomatch ‹false = true›)) | (exact (nomatch ‹true = false›)))))
local macro_rules | `(tactic| walk_at "dla") => `(tactic| repeat' (first | (exact (nomatch ‹false = true›)) | (exact (nomatch ‹true = false›)) | walk_at "dl"))
local macro_rules | `(tactic| walk_at "dlr") => `(tactic| (refine ret_rt (pms_d _ _ (Nat.le_of_ble_eq_true rfl)) ?_))
local macro_rules | `(tactic| walk_at "dlt") => `(tactic| first | walk_at "dl" | with_reducible refine ev_tup2 ?_ | with_reducible refine ev_tup3 ?_)
local macro_rules | `(tactic| walk_at "dlts") => `(tactic| repeat walk_at "dlt")
section
variable {P : Program} {w : World} {K : PySem.W.Frag} [HasTabs K] {mg : Str → Option Value} {base : Heap} {CH CD : Addr}
abbrev s__law_pick : Stmt := topS 53
abbrev N__law_pick : List Str := ["box", "some"]
theorem sc__law_pick : FnScope N__law_pick ["box", "some"] (defScope s__law_pick) := ⟨rfl, rfl, rfl, by decide +kernel, rfl, by decide +kernel, by decide +kernel⟩
def R_law_pick : Pr := fun os Pp => ∃ (a : Addr) (g s : Int) (xs : List Dat), os = [boxO a g s, .d (.lst xs)] ∧ 0 < xs.length ∧ xs.length < 1000 ∧ ∀ x ∈ xs, ∀ g' s', Pp (.ok (.d x)) [boxO a g' s', .d (.lst xs)]
theorem R_law_pick_noex (os : List Ow) (Pp : Re → List Ow → Prop) (h : R_law_pick os Pp) : R_law_pick os (fun r us => (match r with | .ok _ => True | .ex _ _ => False) ∧ Pp r us) := by
  obtain ⟨a, g, s, xs, h1, h2, h3, q⟩ := h
  exact ⟨a, g, s, xs, h1, h2, h3, fun x hx g' s' => ⟨trivial, q x hx g' s'⟩⟩
theorem ok__law_pick (T : Txt mg) (O__law_take : Ok P w K mg base 1 "_law_take" ["box", "many"] R_law_take) (F : Dfn K mg "_law_pick" "_law_pick" s__law_pick ["box", "some"]) : Ok P w K mg base 2 "_law_pick" ["box", "some"] R_law_pick := by
  refine F.ok sc__law_pick (by decide) (fun os Pp h => ?_) R_law_pick_noex (fun f cdv A outer s H E hr => ⟨_, (pss_one (ps_ret (pe_ix (r := rIx K) ix_seq (pv 1) (pe_fn O__law_take ⟨rfl, rfl, rfl, rfl, rfl⟩ (hr.mono (by decide)) rfl (pa_cons (pv 0) (pa_cons (pe_callB (r := rLenQ K) call_len_seq (by rfl) T.b_len (by decide +kernel) (pa_cons (pv 1) pa_nil)) pa_nil))) (fun _ _ => rfl)))), fun os Pp h => ?_⟩)
  · obtain ⟨a, g, sd, xs, rfl, h1, h2, q⟩ := h
    rfl
  · obtain ⟨a, g, sd, xs, rfl, h1, h2, q⟩ := h
    show SvP K E0 _ [some (boxO a g sd), some (.d (.lst xs))] _
    walk_at "dls"
    refine ev_call ?_
    walk_at "dls"
    refine DL.ev_len ?_
    walk_at "dls"
    refine ⟨_, _, _, rfl, rfl, ?_⟩
    walk_at "dls"
    refine ⟨a, g, sd, xs.length, rfl, by omega, by omega, fun i g' s' h3 h4 => ?_⟩
    have hi : i.toNat < xs.length := by omega
    simp only [bks, bk, List.set, bkG_d, bkG_at, bkG_n]
    walk_at "dls"
    refine ⟨_, _, _, _, xs[i.toNat], rfl, rfl, rfl, ?_, ?_⟩
    · have := atD_nat (List.getElem?_eq_getElem hi)
      rw [Int.toNat_of_nonneg h3] at this
      exact this
    · walk_at "dls"
      refine ret_rt (.own rfl rfl (.dat .nil)) ?_
      exact q _ (List.getElem_mem _) g' s'

end
end K23

namespace K23
open PySem L2 Evl DL
local macro_rules | `(tactic| walk_at "dl") => `(tactic| first
  | with_reducible refine bnd_ok ?_ | with_reducible refine bndS_ok ?_ | with_reducible refine onE_ok ?_ | with_reducible refine seq_nx ?_ | with_reducible refine seq_rt ?_ | with_reducible refine seq_bk ?_ | with_reducible refine seq_ct ?_ | with_reducible refine onT_rt ?_ | with_reducible refine onT_bk ?_ | with_reducible refine resS_nx ?_ | with_reducible refine resS_rt ?_
  | refine ev_v rfl ?_ | refine ev_l rfl ?_ | with_reducible refine ev_i ?_ | with_reducible refine ev_n ?_ | with_reducible refine ev_b ?_ | with_reducible refine ev_s ?_
  | with_reducible refine ev_oZ0 ?_ | with_reducible refine ev_oB0 ?_ | with_reducible refine ev_oZ ?_ | with_reducible refine ev_neg ?_ | with_reducible refine ev_neI ?_ | with_reducible refine ev_eqI ?_ | with_reducible refine ev_isN ?_ | with_reducible refine ev_notN ?_ | with_reducible refine ev_chain ?_
  | with_reducible refine ev_andV ?_ | with_reducible refine ev_orV ?_ | with_reducible refine ev_notV ?_ | with_reducible refine ev_if ?_
  | with_reducible refine tv_test ?_ | with_reducible refine tv_B ?_ | with_reducible refine tv_and ?_ | with_reducible refine tv_or ?_ | with_reducible refine tv_not ?_ | with_reducible refine tv_yes ?_
  | with_reducible refine ev_isiInt ?_ | with_reducible refine ev_isiBool ?_ | with_reducible refine ev_isiSeq ?_
  | with_reducible refine av_cons ?_ | with_reducible refine av_nil ?_
  | with_reducible refine ev_pure ?_ | with_reducible refine ev_gcd ?_ | with_reducible refine ev_abs ?_ | with_reducible refine ev_int1 ?_
  | (with_reducible refine DL.ev_len ?_; refine av_cons ?_; refine ev_v rfl ?_; refine bnd_ok ?_; refine av_nil ?_; refine ⟨_, _, _, rfl, by first | rfl | assumption, ?_⟩)
  | with_reducible refine ev_fldD ?_ | with_reducible refine ev_ixS ?_
  | with_reducible refine sv_seq ?_ | with_reducible refine sv_next ?_ | with_reducible refine sv_brk ?_ | with_reducible refine sv_cont ?_ | with_reducible refine sv_ret ?_ | with_reducible refine sv_retN ?_ | with_reducible refine sv_if ?_ | with_reducible refine sv_drop ?_
  | with_reducible refine sv_asg ?_
  | refine ⟨_, rfl, fun hb => ?_, fun hb => ?_⟩
  | refine ⟨_, _, rfl, rfl, fun hb => ?_, fun hb => ?_⟩
  | refine ⟨_, _, rfl, rfl, ?_⟩
  | refine ⟨_, _, _, _, rfl, rfl, rfl, ?_⟩
  | refine ⟨_, rfl, ?_⟩ | refine ⟨_, _, rfl, ?_⟩
  | refine And.intro rfl ?_ | refine And.intro (Nat.le_of_ble_eq_true rfl) ?_ | refine And.intro (by assumption) ?_)
local macro_rules | `(tactic| walk_at "dls") => `(tactic| repeat (walk_at "dl"; all_goals try (first | (exact (nomatch ‹false = true›)) | (exact (nomatch ‹true = false›)))))
local macro_rules | `(tactic| walk_at "dla") => `(tactic| repeat' (first | (exact (nomatch ‹false = true›)) | (exact (nomatch ‹true = false›)) | walk_at "dl"))
local macro_rules | `(tactic| walk_at "dlr") => `(tactic| (refine ret_rt (pms_d _ _ (Nat.le_of_ble_eq_true rfl)) ?_))
local macro_rules | `(tactic| walk_at "dlt") => `(tactic| first | walk_at "dl" | with_reducible refine ev_tup2 ?_ | with_reducible refine ev_tup3 ?_)
local macro_rules | `(tactic| walk_at "dlts") => `(tactic| repeat walk_at "dlt")
section
variable {P : Program} {w : World} {K : PySem.W.Frag} [HasTabs K] {mg : Str → Option Value} {base : Heap} {CH CD : Addr}
abbrev s_need_hand : Stmt := topS 24
abbrev N_need_hand : List Str := ["hands", "hand"]
theorem sc_need_hand : FnScope N_need_hand ["hands", "hand"] (defScope s_need_hand) := ⟨rfl, rfl, rfl, by decide +kernel, rfl, by decide +kernel, by decide +kernel⟩
def R_need_hand (CH : Addr) : List Dat → Dat → Prop := fun ds d => ∃ (ms : List Int) (h : Nat), ds = [hObj CH ms, .int h] ∧ h < ms.length ∧ d = .int h
theorem ok_need_hand (T : Txt mg) (LH : ClHands K CH) (O_is_below : Ok P w K mg base 2 "is_below" ["value", "bound"] (pureR R_is_below)) (F : Dfn K mg "need_hand" "need_hand" s_need_hand ["hands", "hand"]) : Ok P w K mg base 3 "need_hand" ["hands", "hand"] (pureR (R_need_hand CH)) := by
  refine F.ok sc_need_hand (by decide) (fun os Pp h => ?_) pureR_noex (fun f cdv A outer s H E hr => ⟨_, (pss_cons (ps_if (pt_not (pt_val (pe_fn O_is_below ⟨rfl, rfl, rfl, rfl, rfl⟩ (hr.mono (by decide)) rfl (pa_cons (pv 1) (pa_cons (pe_fldK (K := K) rfl (pv 0) rfl) pa_nil))))) (pss_one ps_never) pss_nil) (pss_one (ps_ret (pv 1)))), fun os Pp h => ?_⟩)
  · obtain ⟨ds, d, rfl, ⟨ms, n, rfl, h1, rfl⟩, q⟩ := h
    rfl
  · obtain ⟨ds, d, rfl, ⟨ms, n, rfl, h1, rfl⟩, q⟩ := h
    show SvP K E0 _ [some (.d (hObj CH ms)), some (.d (.int n))] _
    walk_at "dls"
    refine ⟨_, _, _, rfl, LH.c, LH.n, rfl, ?_⟩
    walk_at "dls"
    refine ⟨[.int n, .int ms.length], _, rfl, ⟨_, _, rfl, rfl, rfl⟩, ?_⟩
    rw [show isBelow (.int n) ms.length = true by
      show (decide (0 ≤ (n : Int)) && decide ((n : Int) < ms.length)) = true
      rw [decide_eq_true (show 0 ≤ (n : Int) by omega), decide_eq_true (show (n : Int) < ms.length by omega)]
      rfl]
    walk_at "dls"
    walk_at "dlr"
    exact q

end
end K23

namespace K23
open PySem L2 Evl DL
local macro_rules | `(tactic| walk_at "dl") => `(tactic| first
  | with_reducible refine bnd_ok ?_ | with_reducible refine bndS_ok ?_ | with_reducible refine onE_ok ?_ | with_reducible refine seq_nx ?_ | with_reducible refine seq_rt ?_ | with_reducible refine seq_bk ?_ | with_reducible refine seq_ct ?_ | with_reducible refine onT_rt ?_ | with_reducible refine onT_bk ?_ | with_reducible refine resS_nx ?_ | with_reducible refine resS_rt ?_
  | refine ev_v rfl ?_ | refine ev_l rfl ?_ | with_reducible refine ev_i ?_ | with_reducible refine ev_n ?_ | with_reducible refine ev_b ?_ | with_reducible refine ev_s ?_
  | with_reducible refine ev_oZ0 ?_ | with_reducible refine ev_oB0 ?_ | with_reducible refine ev_oZ ?_ | with_reducible refine ev_neg ?_ | with_reducible refine ev_neI ?_ | with_reducible refine ev_eqI ?_ | with_reducible refine ev_isN ?_ | with_reducible refine ev_notN ?_ | with_reducible refine ev_chain ?_
  | with_reducible refine ev_andV ?_ | with_reducible refine ev_orV ?_ | with_reducible refine ev_notV ?_ | with_reducible refine ev_if ?_
  | with_reducible refine tv_test ?_ | with_reducible refine tv_B ?_ | with_reducible refine tv_and ?_ | with_reducible refine tv_or ?_ | with_reducible refine tv_not ?_ | with_reducible refine tv_yes ?_
  | with_reducible refine ev_isiInt ?_ | with_reducible refine ev_isiBool ?_ | with_reducible refine ev_isiSeq ?_
  | with_reducible refine av_cons ?_ | with_reducible refine av_nil ?_
  | with_reducible refine ev_pure ?_ | with_reducible refine ev_gcd ?_ | with_reducible refine ev_abs ?_ | with_reducible refine ev_int1 ?_
  | (with_reducible refine DL.ev_len ?_; refine av_cons ?_; refine ev_v rfl ?_; refine bnd_ok ?_; refine av_nil ?_; refine ⟨_, _, _, rfl, by first | rfl | assumption, ?_⟩)
  | with_reducible refine ev_fldD ?_ | with_reducible refine ev_ixS ?_
  | with_reducible refine sv_seq ?_ | with_reducible refine sv_next ?_ | with_reducible refine sv_brk ?_ | with_reducible refine sv_cont ?_ | with_reducible refine sv_ret ?_ | with_reducible refine sv_retN ?_ | with_reducible refine sv_if ?_ | with_reducible refine sv_drop ?_
  | with_reducible refine sv_asg ?_
  | refine ⟨_, rfl, fun hb => ?_, fun hb => ?_⟩
  | refine ⟨_, _, rfl, rfl, fun hb => ?_, fun hb => ?_⟩
  | refine ⟨_, _, rfl, rfl, ?_⟩
  | refine ⟨_, _, _, _, rfl, rfl, rfl, ?_⟩
  | refine ⟨_, rfl, ?_⟩ | refine ⟨_, _, rfl, ?_⟩
  | refine And.intro rfl ?_ | refine And.intro (Nat.le_of_ble_eq_true rfl) ?_ | refine And.intro (by assumption) ?_)
local macro_rules | `(tactic| walk_at "dls") => `(tactic| repeat (walk_at "dl"; all_goals try (first | (exact (nomatch ‹false = true›)) | (exact (nomatch ‹true = false›)))))
local macro_rules | `(tactic| walk_at "dla") => `(tactic| repeat' (first | (exact (nomatch ‹false = true›)) | (exact (nomatch ‹true = false›)) | walk_at "dl"))
local macro_rules | `(tactic| walk_at "dlr") => `(tactic| (refine ret_rt (pms_d _ _ (Nat.le_of_ble_eq_true rfl)) ?_))
local macro_rules | `(tactic| walk_at "dlt") => `(tactic| first | walk_at "dl" | with_reducible refine ev_tup2 ?_ | with_reducible refine ev_tup3 ?_)
local macro_rules | `(tactic| walk_at "dlts") => `(tactic| repeat walk_at "dlt")
section
variable {P : Program} {w : World} {K : PySem.W.Frag} [HasTabs K] {mg : Str → Option Value} {base : Heap} {CH CD : Addr}
abbrev s_grow_step : Stmt := topS 43
abbrev N_grow_step : List Str := ["hands", "number", "hand"]
theorem sc_grow_step : FnScope N_grow_step ["hands", "number", "hand"] (defScope s_grow_step) := ⟨rfl, rfl, rfl, by decide +kernel, rfl, by decide +kernel, by decide +kernel⟩
def R_grow_step (CH : Addr) : List Dat → Dat → Prop := fun ds d => ∃ (ms : List Int) (x : Int) (h : Nat) (m : Int), ds = [hObj CH ms, .int x, .int h] ∧ Sm ms ∧ 0 ≤ x ∧ ms[h]? = some m ∧ d = .tup [.int (stepR ms x h), .int (x % m)]
theorem ok_grow_step {CT : Addr} (T : Txt mg) (LR : ClRates K CT) (LH : ClHands K CH) (O_need_number : Ok P w K mg base 2 "need_number" ["number"] (pureR R_need_number)) (O_need_hand : Ok P w K mg base 3 "need_hand" ["hands", "hand"] (pureR (R_need_hand CH))) (O_number_behind : Ok P w K mg base 1 "number_behind" ["rates", "number", "hand"] (pureR (R_number_behind CH CT))) (O_Rates : OkC P w K mg base 2 "Rates" ["self", "hands"] CT (R_Rates CH CT)) (F : Dfn K mg "grow_step" "grow_step" s_grow_step ["hands", "number", "hand"]) : Ok P w K mg base 4 "grow_step" ["hands", "number", "hand"] (pureR (R_grow_step CH)) := by
  refine F.ok sc_grow_step (by decide) (fun os Pp h => ?_) pureR_noex (fun f cdv A outer s H E hr => ⟨_, (pss_cons (ps_expr (pe_fn O_need_number ⟨rfl, rfl, rfl, rfl, rfl⟩ (hr.mono (by decide)) rfl (pa_cons (pv 1) pa_nil))) (pss_cons (ps_expr (pe_fn O_need_hand ⟨rfl, rfl, rfl, rfl, rfl⟩ (hr.mono (by decide)) rfl (pa_cons (pv 0) (pa_cons (pv 2) pa_nil)))) (pss_one (ps_ret (pe_tup (pa_cons (pe_fn O_number_behind ⟨rfl, rfl, rfl, rfl, rfl⟩ (hr.mono (by decide)) rfl (pa_cons (pe_cls O_Rates ⟨rfl, rfl, rfl, rfl, rfl⟩ (hr.mono (by decide)) rfl (pa_cons (pv 0) pa_nil)) (pa_cons (pv 1) (pa_cons (pv 2) pa_nil)))) (pa_cons (pe_op op_mod (pv 1) (pe_ix (r := rIx K) ix_seq (pe_fldK (K := K) rfl (pv 0) rfl) (pv 2) (fun _ _ => rfl))) pa_nil))))))), fun os Pp h => ?_⟩)
  · obtain ⟨ds, d, rfl, ⟨ms, x, h, m, rfl, hS, h0, hm0, rfl⟩, q⟩ := h
    rfl
  · obtain ⟨ds, d, rfl, ⟨ms, x, h, m, rfl, hS, h0, hm0, rfl⟩, q⟩ := h
    have hh : h < ms.length := (List.getElem?_eq_some_iff.mp hm0).1
    obtain ⟨m', w, p⟩ := hS.g.part hh
    obtain rfl : m' = m := Option.some.inj (p.hm.symm.trans hm0)
    have hm := p.m1
    have hm2 := p.m2
    show SvP K E0 _ [some (.d (hObj CH ms)), some (.d (.int x)), some (.d (.int h))] _
    walk_at "dls"
    refine ⟨[.int x], _, rfl, ⟨_, rfl, h0, rfl⟩, ?_⟩
    walk_at "dls"
    refine ⟨[hObj CH ms, .int h], _, rfl, ⟨ms, h, rfl, hh, rfl⟩, ?_⟩
    walk_at "dls"
    refine ev_tup2 ?_
    walk_at "dls"
    refine DL.ev_make ?_ R_Rates_mono
    refine av_cons (ev_v rfl (bnd_ok (av_nil fun a => ?_)))
    refine ⟨a, ms, rfl, hS, rfl, _, _, rfl, ?_⟩
    walk_at "dls"
    refine ⟨[rObj CH CT ms, .int x, .int h], _, rfl, ⟨ms, x, h, rfl, hS, h0, hh, rfl⟩, ?_⟩
    walk_at "dls"
    refine ⟨_, _, _, rfl, LH.c, LH.m, rfl, ?_⟩
    walk_at "dls"
    refine ⟨_, _, _, _, _, rfl, rfl, rfl, p.mx, ?_⟩
    walk_at "dls"
    walk_at "dlr"
    exact q

end
end K23

namespace K23
open PySem L2 Evl DL
local macro_rules | `(tactic| walk_at "dl") => `(tactic| first
  | with_reducible refine bnd_ok ?_ | with_reducible refine bndS_ok ?_ | with_reducible refine onE_ok ?_ | with_reducible refine seq_nx ?_ | with_reducible refine seq_rt ?_ | with_reducible refine seq_bk ?_ | with_reducible refine seq_ct ?_ | with_reducible refine onT_rt ?_ | with_reducible refine onT_bk ?_ | with_reducible refine resS_nx ?_ | with_reducible refine resS_rt ?_
  | refine ev_v rfl ?_ | refine ev_l rfl ?_ | with_reducible refine ev_i ?_ | with_reducible refine ev_n ?_ | with_reducible refine ev_b ?_ | with_reducible refine ev_s ?_
  | with_reducible refine ev_oZ0 ?_ | with_reducible refine ev_oB0 ?_ | with_reducible refine ev_oZ ?_ | with_reducible refine ev_neg ?_ | with_reducible refine ev_neI ?_ | with_reducible refine ev_eqI ?_ | with_reducible refine ev_isN ?_ | with_reducible refine ev_notN ?_ | with_reducible refine ev_chain ?_
  | with_reducible refine ev_andV ?_ | with_reducible refine ev_orV ?_ | with_reducible refine ev_notV ?_ | with_reducible refine ev_if ?_
  | with_reducible refine tv_test ?_ | with_reducible refine tv_B ?_ | with_reducible refine tv_and ?_ | with_reducible refine tv_or ?_ | with_reducible refine tv_not ?_ | with_reducible refine tv_yes ?_
  | with_reducible refine ev_isiInt ?_ | with_reducible refine ev_isiBool ?_ | with_reducible refine ev_isiSeq ?_
  | with_reducible refine av_cons ?_ | with_reducible refine av_nil ?_
  | with_reducible refine ev_pure ?_ | with_reducible refine ev_gcd ?_ | with_reducible refine ev_abs ?_ | with_reducible refine ev_int1 ?_
  | (with_reducible refine DL.ev_len ?_; refine av_cons ?_; refine ev_v rfl ?_; refine bnd_ok ?_; refine av_nil ?_; refine ⟨_, _, _, rfl, by first | rfl | assumption, ?_⟩)
  | with_reducible refine ev_fldD ?_ | with_reducible refine ev_ixS ?_
  | with_reducible refine sv_seq ?_ | with_reducible refine sv_next ?_ | with_reducible refine sv_brk ?_ | with_reducible refine sv_cont ?_ | with_reducible refine sv_ret ?_ | with_reducible refine sv_retN ?_ | with_reducible refine sv_if ?_ | with_reducible refine sv_drop ?_
  | with_reducible refine sv_asg ?_
  | refine ⟨_, rfl, fun hb => ?_, fun hb => ?_⟩
  | refine ⟨_, _, rfl, rfl, fun hb => ?_, fun hb => ?_⟩
  | refine ⟨_, _, rfl, rfl, ?_⟩
  | refine ⟨_, _, _, _, rfl, rfl, rfl, ?_⟩
  | refine ⟨_, rfl, ?_⟩ | refine ⟨_, _, rfl, ?_⟩
  | refine And.intro rfl ?_ | refine And.intro (Nat.le_of_ble_eq_true rfl) ?_ | refine And.intro (by assumption) ?_)
local macro_rules | `(tactic| walk_at "dls") => `(tactic| repeat (walk_at "dl"; all_goals try (first | (exact (nomatch ‹false = true›)) | (exact (nomatch ‹true = false›)))))
local macro_rules | `(tactic| walk_at "dla") => `(tactic| repeat' (first | (exact (nomatch ‹false = true›)) | (exact (nomatch ‹true = false›)) | walk_at "dl"))
local macro_rules | `(tactic| walk_at "dlr") => `(tactic| (refine ret_rt (pms_d _ _ (Nat.le_of_ble_eq_true rfl)) ?_))
local macro_rules | `(tactic| walk_at "dlt") => `(tactic| first | walk_at "dl" | with_reducible refine ev_tup2 ?_ | with_reducible refine ev_tup3 ?_)
local macro_rules | `(tactic| walk_at "dlts") => `(tactic| repeat walk_at "dlt")
section
variable {P : Program} {w : World} {K : PySem.W.Frag} [HasTabs K] {mg : Str → Option Value} {base : Heap} {CH CD : Addr}
abbrev s__law_rest_right : Stmt := topS 59
abbrev N__law_rest_right : List Str := ["box", "hands", "marks", "rest", "size", "last", "turn", "high", "low", "hand", "number", "one"]
theorem sc__law_rest_right : FnScope N__law_rest_right ["box", "hands", "marks", "rest", "size"] (defScope s__law_rest_right) := ⟨rfl, rfl, rfl, by decide +kernel, rfl, by decide +kernel, by decide +kernel⟩
theorem shw_intW {n : Nat} {i : Int} (h : i.natAbs < 100000000000000000000000000000000000) : Shw n 36 (.int i) := by
  refine ⟨nice_int i, ?_, ?_⟩
  · show decide (i.natAbs.log2 < 1920) = true
    refine decide_eq_true ?_
    by_cases z : i.natAbs = 0
    · rw [z]; decide
    · have : i.natAbs.log2 < 120 := (Nat.log2_lt z).mpr (Nat.lt_of_lt_of_le h (by decide))
      omega
  · show (Str.ofString (toString i)).length ≤ 36
    have := int_text_length_le10 (a := i) (k := 35) (by decide) (Nat.lt_of_lt_of_le h (by decide))
    rw [PySem.ofString_length]
    exact this
def R_law_rest_right (CH : Addr) : Pr := fun os Pp => ∃ (a : Addr) (g s : Int) (ms : List Int), os = [boxO a g s, .d (hObj CH ms), .d (.lst (ms.map Dat.int)), .d (.int (restI ms)), .d (.int (lcI ms))] ∧ Row ms ∧ ∀ g' s', Pp (.ok (.d (.bl true))) [boxO a g' s', .d (hObj CH ms), .d (.lst (ms.map Dat.int)), .d (.int (restI ms)), .d (.int (lcI ms))]
theorem R_law_rest_right_noex (os : List Ow) (Pp : Re → List Ow → Prop) (h : R_law_rest_right CH os Pp) : R_law_rest_right CH os (fun r us => (match r with | .ok _ => True | .ex _ _ => False) ∧ Pp r us) := by
  obtain ⟨a, g, s, ms, h1, h2, q⟩ := h
  exact ⟨a, g, s, ms, h1, h2, fun g' s' => ⟨trivial, q g' s'⟩⟩
theorem ok__law_rest_right (T : Txt mg) (O__law_take : Ok P w K mg base 1 "_law_take" ["box", "many"] R_law_take) (O__law_pick : Ok P w K mg base 2 "_law_pick" ["box", "some"] R_law_pick) (O__law_step : Ok P w K mg base 1 "_law_step" ["marks", "size", "number", "hand"] (pureR R_law_step)) (O_grow_step : Ok P w K mg base 4 "grow_step" ["hands", "number", "hand"] (pureR (R_grow_step CH)))
    (F : Dfn K mg "_law_rest_right" "_law_rest_right" s__law_rest_right ["box", "hands", "marks", "rest", "size"]) : OkG P w K mg base 5 "_law_rest_right" ["box", "hands", "marks", "rest", "size"] (R_law_rest_right CH) := by
  refine F.okG sc__law_rest_right (by decide) (fun os Pp h => ?_) R_law_rest_right_noex (fun f cdv A outer s H E hgd hr => ⟨_, (pss_cons (ps_set (i := 5) sc__law_rest_right.nd rfl (.inl rfl) (pe_op op_sub (pe_callB (r := rLenQ K) call_len_seq (by rfl) T.b_len (by decide +kernel) (pa_cons (pv 2) pa_nil)) pe_int)) (pss_cons (ps_for PassesOwn.never rfl (pi_range1 (by rfl) T.b_range (pa_cons pe_int pa_nil)) (pg_name (i := 6) sc__law_rest_right.nd rfl (.inl rfl)) (pss_cons (ps_par (i := 8) (j := 9) rfl sc__law_rest_right.nd rfl rfl (by decide) rfl rfl (pa_cons (pe_fn O__law_take ⟨rfl, rfl, rfl, rfl, rfl⟩ (hr.mono (by decide)) rfl (pa_cons (pv 0) (pa_cons (pe_op op_add (pv 3) pe_int) pa_nil))) (pa_cons (pe_fn O__law_take ⟨rfl, rfl, rfl, rfl, rfl⟩ (hr.mono (by decide)) rfl (pa_cons (pv 0) (pa_cons (pe_callB (r := rLenQ K) call_len_seq (by rfl) T.b_len (by decide +kernel) (pa_cons (pv 2) pa_nil)) pa_nil))) pa_nil)) rfl) (pss_cons (ps_set (i := 7) sc__law_rest_right.nd rfl (.inl rfl) (pe_op op_add (pe_op op_add (pv 3) pe_int) (pe_fn O__law_take ⟨rfl, rfl, rfl, rfl, rfl⟩ (hr.mono (by decide)) rfl (pa_cons (pv 0) (pa_cons (pe_fn O__law_pick ⟨rfl, rfl, rfl, rfl, rfl⟩ (hr.mono (by decide)) rfl (pa_cons (pv 0) (pa_cons (pe_lst (pa_cons pe_int (pa_cons (pv 4) (pa_cons (pe_op op_mul pe_int (pv 4)) pa_nil)))) pa_nil))) pa_nil))))) (pss_cons (ps_if (PW.pt (pw_or (pt_cmpR op_gt (pe_fn O__law_step ⟨rfl, rfl, rfl, rfl, rfl⟩ (hr.mono (by decide)) rfl (pa_cons (pv 2) (pa_cons (pv 4) (pa_cons (pv 8) (pa_cons (pv 9) pa_nil))))) (pv 3) (nomark _)) (pw_or1 (pt_cmpR op_ge (pe_fn O__law_step ⟨rfl, rfl, rfl, rfl, rfl⟩ (hr.mono (by decide)) rfl (pa_cons (pv 2) (pa_cons (pv 4) (pa_cons (pv 7) (pa_cons (pv 5) pa_nil))))) (pv 7) (nomark _))))) (pss_one (ps_ret pe_bl)) pss_nil) (pss_one (ps_for PassesOwn.never rfl (pi_anyK (K := K) rfl (pe_tup (pa_cons (pe_tup (pa_cons (pv 8) (pa_cons (pv 9) pa_nil))) (pa_cons (pe_tup (pa_cons (pv 7) (pa_cons (pv 5) pa_nil))) (pa_cons (pe_tup (pa_cons (pv 7) (pa_cons (pv 9) pa_nil))) pa_nil))))) (pg_tup rfl (pgs_cons (pg_name (i := 10) sc__law_rest_right.nd rfl (.inl rfl)) (pgs_cons (pg_name (i := 11) sc__law_rest_right.nd rfl (.inl rfl)) pgs_nil))) (pss_one (ps_if (pt_cmpR op_ne (pe_callB (r := rReprD K) (call_reprD hgd (units65 hr)) (by rfl) T.b_repr (by decide +kernel) (pa_cons (pe_ix (r := rIx K) ix_seq (pe_fn O_grow_step ⟨rfl, rfl, rfl, rfl, rfl⟩ (hr.mono (by decide)) rfl (pa_cons (pv 1) (pa_cons (pv 10) (pa_cons (pv 11) pa_nil)))) pe_int (fun _ _ => rfl)) pa_nil)) (pe_callB (r := rReprD K) (call_reprD hgd (units65 hr)) (by rfl) T.b_repr (by decide +kernel) (pa_cons (pe_fn O__law_step ⟨rfl, rfl, rfl, rfl, rfl⟩ (hr.mono (by decide)) rfl (pa_cons (pv 2) (pa_cons (pv 4) (pa_cons (pv 10) (pa_cons (pv 11) pa_nil))))) pa_nil)) (nomark _)) (pss_one (ps_ret pe_bl)) pss_nil)))))))) (pss_one (ps_ret pe_bl)))), fun os Pp h => ?_⟩)
  · obtain ⟨a, g, sd, ms, rfl, R, q⟩ := h
    rfl
  · obtain ⟨a, g, sd, ms, rfl, R, q⟩ := h
    have hg := R.sw.sm.g
    have hl1 := hg.1
    have hl2 := hg.2.1
    have hr0 := R.r0
    have hr1 := R.r1
    have hlc := R.lc
    have hL := lcI_pos hg
    show SvP K E0 _ [some (boxO a g sd), some (.d (hObj CH ms)), some (.d (.lst (ms.map Dat.int))), some (.d (.int (restI ms))), some (.d (.int (lcI ms))), none, none, none, none, none, none, none] _
    walk_at "dls"
    refine DL.ev_len ?_
    walk_at "dls"
    refine ⟨_, _, _, rfl, rfl, ?_⟩
    rw [List.length_map]
    walk_at "dls"
    have hlast : ((ms.length : Int) - 1) = ((ms.length - 1 : Nat) : Int) := by omega
    rw [hlast]
    refine sv_for (ws := [6]) ?_
    refine iv_rng1 ?_
    walk_at "dls"
    refine ⟨by decide, by decide, ?_⟩
    refine loop_inv (fun i ρ' => ∃ (g s : Int) (u7 u8 u9 u10 u11 : Option Ow), ρ' = [some (boxO a g s), some (.d (hObj CH ms)), some (.d (.lst (ms.map Dat.int))), some (.d (.int (restI ms))), some (.d (.int (lcI ms))), some (.d (.int (ms.length - 1 : Nat))), none, none, none, none, none, none]) ⟨_, _, none, none, none, none, none, rfl⟩ (fun i d ρ' hi he => ?_) (fun ρ' he => ?_)
    · obtain ⟨g1, s1, u7, u8, u9, u10, u11, rfl⟩ := he
      refine gv_name (Nat.le_of_ble_eq_true rfl) ?_
      walk_at "dls"
      refine sv_par ?_
      walk_at "dls"
      refine ev_call ?_
      walk_at "dls"
      refine ⟨a, g1, s1, restI ms + 1, rfl, by omega, by omega, fun lo g2 s2 h3 h4 => ?_⟩
      simp only [bks, bk, List.set, bkG_d, bkG_at, bkG_n]
      walk_at "dls"
      refine ev_call ?_
      walk_at "dls"
      refine DL.ev_len ?_
      walk_at "dls"
      refine ⟨_, _, _, rfl, rfl, ?_⟩
      rw [List.length_map]
      walk_at "dls"
      refine ⟨a, g2, s2, ms.length, rfl, by omega, by omega, fun j g3 s3 h5 h6 => ?_⟩
      simp only [bks, bk, List.set, bkG_d, bkG_at, bkG_n]
      walk_at "dls"
      obtain ⟨h, rfl⟩ : ∃ h : Nat, j = (h : Int) := ⟨j.toNat, by omega⟩
      have hh : h < ms.length := by omega
      refine ev_call ?_
      refine av_box rfl ?_
      refine ev_call ?_
      refine av_box rfl ?_
      refine DL.ev_lst ?_
      walk_at "dls"
      refine ⟨.inl ⟨by decide, by decide⟩, ?_⟩
      refine bnd_ok (av_nil ⟨[.int 3, .int (lcI ms), .int (40 * lcI ms)], rfl, Nat.le_of_ble_eq_true rfl, ?_⟩)
      refine bnd_ok ⟨_, rfl, ?_⟩
      refine ⟨a, g3, s3, _, rfl, Nat.le_of_ble_eq_true rfl, Nat.le_of_ble_eq_true rfl, fun x hx g4 s4 => ?_⟩
      obtain ⟨m, rfl, hm0, hm1⟩ : ∃ m : Int, x = .int m ∧ 0 < m ∧ m ≤ 40000 := by
        rcases List.mem_cons.mp hx with z | hx
        · exact ⟨3, z, by decide, by decide⟩
        · rcases List.mem_cons.mp hx with z | hx
          · exact ⟨_, z, by omega, by omega⟩
          · rcases List.mem_cons.mp hx with z | hx
            · exact ⟨_, z, by omega, by omega⟩
            · cases hx
      simp only [bks, bk, List.set, bkG_d, bkG_at, bkG_n]
      refine bnd_ok ⟨_, rfl, ?_⟩
      refine ⟨a, g4, s4, m, rfl, hm0, by omega, fun v g5 s5 h7 h8 => ?_⟩
      simp only [bks, bk, List.set, bkG_d, bkG_at, bkG_n]
      walk_at "dls"
      obtain ⟨hi', hhi⟩ : ∃ y, y = restI ms + 1 + v := ⟨_, rfl⟩
      rw [← hhi]
      have hyr : restI ms < hi' := by omega
      have hab := R.above hi' hyr
      have hlt : ms.length - 1 < ms.length := by omega
      have hlo : stepR ms lo h ≤ restI ms := by
        have e1 := stepR_mono hg hh h3 (show lo ≤ restI ms by omega)
        have e2 := stepR_last hg hh hr0
        rw [R.fix] at e2
        omega
      refine ⟨[.lst (ms.map Dat.int), .int (lcI ms), .int lo, .int h], _, rfl, ⟨ms, lo, h, rfl, R.sw.sm, h3, hh, rfl⟩, ?_⟩
      walk_at "dls"
      · exact absurd (of_decide_eq_true ‹decide (restI ms < stepR ms lo h) = true›) (by omega)
      walk_at "dls"
      refine ⟨[.lst (ms.map Dat.int), .int (lcI ms), .int hi', .int (ms.length - 1 : Nat)], _, rfl, ⟨ms, hi', _, rfl, R.sw.sm, by omega, hlt, rfl⟩, ?_⟩
      walk_at "dls"
      · exact absurd (of_decide_eq_true ‹decide (hi' ≤ stepR ms hi' (ms.length - 1)) = true›) (by omega)
      walk_at "dls"
      refine sv_for (ws := [10] ++ ([11] ++ [])) ?_
      refine iv_any ?_
      refine ev_tup (ds := []) ?_
      refine av_cons ?_
      refine ev_tup2 ?_
      walk_at "dls"
      refine ev_tup2 ?_
      walk_at "dls"
      refine ev_tup2 ?_
      walk_at "dls"
      refine ⟨[.tup [.int lo, .int h], .tup [.int hi', .int (ms.length - 1 : Nat)], .tup [.int hi', .int h]], rfl, Nat.le_of_ble_eq_true rfl, bnd_ok ⟨_, _, _, rfl, rfl, ?_⟩⟩
      have hall : ∀ d2 ∈ [Dat.tup [.int lo, .int h], .tup [.int hi', .int (ms.length - 1 : Nat)], .tup [.int hi', .int h]], ∃ (y : Int) (k : Nat), d2 = .tup [.int y, .int k] ∧ 0 ≤ y ∧ y ≤ 1000000 ∧ k < ms.length := fun d2 hd2 => by
        rcases List.mem_cons.mp hd2 with z | hd2
        · exact ⟨lo, h, z, h3, by omega, hh⟩
        · rcases List.mem_cons.mp hd2 with z | hd2
          · exact ⟨hi', _, z, by omega, by omega, hlt⟩
          · rcases List.mem_cons.mp hd2 with z | hd2
            · exact ⟨hi', h, z, by omega, by omega, hh⟩
            · cases hd2
      refine loop_inv (fun k ρ' => ∃ (u10 u11 : Option Ow), ρ' = [some (boxO a g5 s5), some (.d (hObj CH ms)), some (.d (.lst (ms.map Dat.int))), some (.d (.int (restI ms))), some (.d (.int (lcI ms))), some (.d (.int (ms.length - 1 : Nat))), some (.d d), some (.d (.int hi')), some (.d (.int lo)), some (.d (.int h)), u10, u11]) ⟨_, _, rfl⟩ (fun k d2 ρ' hi2 he => ?_) (fun ρ' he => ?_)
      · obtain ⟨u10, u11, rfl⟩ := he
        obtain ⟨y, k, rfl, hy0, hy1, hk⟩ := hall _ (List.mem_of_getElem? hi2)
        obtain ⟨m2, w2, p2⟩ := hg.part hk
        have hsl := stepR_last hg hk hy0
        have hsn := stepR_nn hg hk hy0
        have hsb : stepR ms y (ms.length - 1) ≤ 1000000 := by
          rcases Int.lt_or_le (restI ms) y with z | z
          · have := R.above y z
            omega
          · have := stepR_mono hg hlt hy0 z
            rw [R.fix] at this
            omega
        have hshw : Shw 0 36 (.int (stepR ms y k)) := shw_intW (by omega)
        refine gv_tup rfl (gs_cons (gv_name (Nat.le_of_ble_eq_true rfl) (gs_cons (gv_name (Nat.le_of_ble_eq_true rfl) (gs_nil ?_)))))
        refine sv_if ?_
        refine tv_test ?_
        refine ev_neS ?_
        refine ev_repr ?_
        refine av_cons ?_
        walk_at "dls"
        refine ⟨[hObj CH ms, .int y, .int k], _, rfl, ⟨ms, y, k, m2, rfl, R.sw.sm, hy0, p2.hm, rfl⟩, ?_⟩
        walk_at "dls"
        refine ⟨_, _, _, _, _, rfl, rfl, rfl, rfl, ?_⟩
        refine bnd_ok (av_nil ⟨_, rfl, hshw.ok (by decide) (by decide), ?_⟩)
        refine bnd_ok ?_
        refine ev_repr ?_
        refine av_cons ?_
        walk_at "dls"
        refine ⟨[.lst (ms.map Dat.int), .int (lcI ms), .int y, .int k], _, rfl, ⟨ms, y, k, rfl, R.sw.sm, hy0, hk, rfl⟩, ?_⟩
        refine bnd_ok (av_nil ⟨_, rfl, hshw.ok (by decide) (by decide), ?_⟩)
        refine bnd_ok ⟨_, _, rfl, rfl, ?_⟩
        refine bnd_ok ⟨_, rfl, ?_⟩
        rw [decide_eq_true rfl]
        refine bndS_ok ⟨false, rfl, fun h => absurd h Bool.false_ne_true, fun _ => ?_⟩
        walk_at "dls"
        exact onT_nx (Wk.refl _) ⟨_, _, rfl⟩
      · obtain ⟨u10, u11, rfl⟩ := he
        exact ⟨_, .cons (.cons (.cons (.cons (.cons (.cons (.skip (.skip (.skip (.skip (.skip (.skip .nil))))))))))), _, _, none, none, none, none, none, rfl⟩
    · obtain ⟨g1, s1, u7, u8, u9, u10, u11, rfl⟩ := he
      walk_at "dls"
      refine ret_rt (.own rfl rfl (.dat (.dat (.dat (.dat .nil))))) ?_
      exact q _ _

end
end K23

namespace K23
open PySem L2 Evl DL
local macro_rules | `(tactic| walk_at "dl") => `(tactic| first
  | with_reducible refine bnd_ok ?_ | with_reducible refine bndS_ok ?_ | with_reducible refine onE_ok ?_ | with_reducible refine seq_nx ?_ | with_reducible refine seq_rt ?_ | with_reducible refine seq_bk ?_ | with_reducible refine seq_ct ?_ | with_reducible refine onT_rt ?_ | with_reducible refine onT_bk ?_ | with_reducible refine resS_nx ?_ | with_reducible refine resS_rt ?_
  | refine ev_v rfl ?_ | refine ev_l rfl ?_ | with_reducible refine ev_i ?_ | with_reducible refine ev_n ?_ | with_reducible refine ev_b ?_ | with_reducible refine ev_s ?_
  | with_reducible refine ev_oZ0 ?_ | with_reducible refine ev_oB0 ?_ | with_reducible refine ev_oZ ?_ | with_reducible refine ev_neg ?_ | with_reducible refine ev_neI ?_ | with_reducible refine ev_eqI ?_ | with_reducible refine ev_isN ?_ | with_reducible refine ev_notN ?_ | with_reducible refine ev_chain ?_
  | with_reducible refine ev_andV ?_ | with_reducible refine ev_orV ?_ | with_reducible refine ev_notV ?_ | with_reducible refine ev_if ?_
  | with_reducible refine tv_test ?_ | with_reducible refine tv_B ?_ | with_reducible refine tv_and ?_ | with_reducible refine tv_or ?_ | with_reducible refine tv_not ?_ | with_reducible refine tv_yes ?_
  | with_reducible refine ev_isiInt ?_ | with_reducible refine ev_isiBool ?_ | with_reducible refine ev_isiSeq ?_
  | with_reducible refine av_cons ?_ | with_reducible refine av_nil ?_
  | with_reducible refine ev_pure ?_ | with_reducible refine ev_gcd ?_ | with_reducible refine ev_abs ?_ | with_reducible refine ev_int1 ?_
  | (with_reducible refine DL.ev_len ?_; refine av_cons ?_; refine ev_v rfl ?_; refine bnd_ok ?_; refine av_nil ?_; refine ⟨_, _, _, rfl, by first | rfl | assumption, ?_⟩)
  | with_reducible refine ev_fldD ?_ | with_reducible refine ev_ixS ?_
  | with_reducible refine sv_seq ?_ | with_reducible refine sv_next ?_ | with_reducible refine sv_brk ?_ | with_reducible refine sv_cont ?_ | with_reducible refine sv_ret ?_ | with_reducible refine sv_retN ?_ | with_reducible refine sv_if ?_ | with_reducible refine sv_drop ?_
  | with_reducible refine sv_asg ?_
  | refine ⟨_, rfl, fun hb => ?_, fun hb => ?_⟩
  | refine ⟨_, _, rfl, rfl, fun hb => ?_, fun hb => ?_⟩
  | refine ⟨_, _, rfl, rfl, ?_⟩
  | refine ⟨_, _, _, _, rfl, rfl, rfl, ?_⟩
  | refine ⟨_, rfl, ?_⟩ | refine ⟨_, _, rfl, ?_⟩
  | refine And.intro rfl ?_ | refine And.intro (Nat.le_of_ble_eq_true rfl) ?_ | refine And.intro (by assumption) ?_)
local macro_rules | `(tactic| walk_at "dls") => `(tactic| repeat (walk_at "dl"; all_goals try (first | (exact (nomatch ‹false = true›)) | (exact (nomatch ‹true = false›)))))
local macro_rules | `(tactic| walk_at "dla") => `(tactic| repeat' (first | (exact (nomatch ‹false = true›)) | (exact (nomatch ‹true = false›)) | walk_at "dl"))
local macro_rules | `(tactic| walk_at "dlr") => `(tactic| (refine ret_rt (pms_d _ _ (Nat.le_of_ble_eq_true rfl)) ?_))
local macro_rules | `(tactic| walk_at "dlt") => `(tactic| first | walk_at "dl" | with_reducible refine ev_tup2 ?_ | with_reducible refine ev_tup3 ?_)
local macro_rules | `(tactic| walk_at "dlts") => `(tactic| repeat walk_at "dlt")
section
variable {P : Program} {w : World} {K : PySem.W.Frag} [HasTabs K] {mg : Str → Option Value} {base : Heap} {CH CD : Addr}
abbrev s__law_refused : Stmt := topS 56
abbrev N__law_refused : List Str := ["ask", "fault"]
theorem sc__law_refused : FnScope N__law_refused ["ask"] (defScope s__law_refused) := ⟨rfl, rfl, rfl, by decide +kernel, rfl, by decide +kernel, by decide +kernel⟩
/-- the classes that the law's def names -/
structure RefF (K : PySem.W.Frag) (mg : Str → Option Value) (CR CE CH : Addr) : Prop where
  mR : mg "Refused" = some (.ref CR)
  mE : mg "LogError" = some (.ref CE)
  mH : mg "Hands" = some (.ref CH)
  x : XfC K CR
  n : PySem.W.findIn K (.ref CR) "at" = some none
  ed : ExcD K CR
  eE : PySem.W.kitOne K (.ref CR) (.ref CE) = some true
  ic : C8.InsC K CH
  xm : PySem.W.exmOne K (.ref CR) (.ref CR) = some true
def teR (K : PySem.W.Frag) (CR CE CH : Addr) (b : Addr) (cls : Value) (d : Option Addr) : TE := tAndV (tCB (rIsX K b cls d) (tCons (tVar 1) (tCons (tC (.ref CE)) tNil))) (tCB (rIsi K) (tCons (tXf b cls d CR "at" (tVar 1)) (tCons (tC (.ref CH)) tNil)))
theorem refused_rule {X : Cx} {CR CE : Addr} (T : Txt mg) (Hd : RefF K mg CR CE CH) (hX : X.K = K ∧ X.mg = mg) (g : Addr) (cdg : Value) (q : Str) :
    LamX.GivesTo X ["ask", "fault"] "_law_refused" (defScope s__law_refused) g cdg (defBody s__law_refused) "ask" q (TTone K CR (teR K CR CE CH)) := by
  obtain ⟨rfl, rfl⟩ := hX
  refine one_gives (C := CR) (te := teR X.K CR CE CH) (by decide) rfl rfl Hd.mR rfl (fun s H b oe cls d pn hz hf => ?_)
  exact pe_and (pe_callB (call_isX hz hf) rfl T.b_isinstance rfl (pa_cons (pv 1) (pa_cons (C8.pe_gc rfl ⟨_, Hd.mE, rfl⟩) pa_nil))) (pe_one (pe_callB call_isi rfl T.b_isinstance rfl (pa_cons (pe_xf Hd.x Hd.n hz hf (pv 1)) (pa_cons (C8.pe_gc rfl ⟨_, Hd.mH, rfl⟩) pa_nil))))
/-- Refused(hands), told -/
theorem refused_tell {CR CE : Addr} (Hd : RefF K mg CR CE CH) (ms : List Int) (ρ1 : Rh) (D H : Hp) (T : Tm) (σ σ1 : L2.St) (a d : Addr) (Q : VK) (s : Sd K D H T σ ρ1) (xa : XAt K D H d [("at", hObj CH ms)]) (h1 : σ1[1]? = some (some (.ref a))) (k : ∀ v D' H', Sd K D' H' ((v, .d (.bl true)) :: T) σ ρ1 → Q v H') : teR K CR CE CH a (.ref CR) (some d) σ1 H Q := by
  obtain ⟨vs, hd, hf⟩ := xa
  cases hf with
  | cons hv ht =>
    cases ht
    cases hv with
    | obj g1 g2 =>
      refine ⟨.ref a, h1, CR, d, _, .ref CE, .ref CE, true, rfl, rfl, rfl, hd, .own CE, Hd.ed, Hd.eE, ?_⟩
      refine ⟨true, rfl, ?_⟩
      rw [if_pos rfl]
      refine ⟨.ref a, h1, rfl, rfl, d, _, _, rfl, hd, rfl, ?_⟩
      refine ⟨_, .ref CH, .ref CH, .ref CH, true, rfl, .own CH, .base (.ins (s.ex _ _ g1) Hd.ic.cl Hd.ic.ha Hd.ic.hn Hd.ic.htk Hd.ic.hm), Hd.ic.me, ?_⟩
      exact k _ D H (s.push (.bl _))

end
end K23

namespace K23
open PySem L2 Evl DL
local macro_rules | `(tactic| walk_at "dl") => `(tactic| first
  | with_reducible refine bnd_ok ?_ | with_reducible refine bndS_ok ?_ | with_reducible refine onE_ok ?_ | with_reducible refine seq_nx ?_ | with_reducible refine seq_rt ?_ | with_reducible refine seq_bk ?_ | with_reducible refine seq_ct ?_ | with_reducible refine onT_rt ?_ | with_reducible refine onT_bk ?_ | with_reducible refine resS_nx ?_ | with_reducible refine resS_rt ?_
  | refine ev_v rfl ?_ | refine ev_l rfl ?_ | with_reducible refine ev_i ?_ | with_reducible refine ev_n ?_ | with_reducible refine ev_b ?_ | with_reducible refine ev_s ?_
  | with_reducible refine ev_oZ0 ?_ | with_reducible refine ev_oB0 ?_ | with_reducible refine ev_oZ ?_ | with_reducible refine ev_neg ?_ | with_reducible refine ev_neI ?_ | with_reducible refine ev_eqI ?_ | with_reducible refine ev_isN ?_ | with_reducible refine ev_notN ?_ | with_reducible refine ev_chain ?_
  | with_reducible refine ev_andV ?_ | with_reducible refine ev_orV ?_ | with_reducible refine ev_notV ?_ | with_reducible refine ev_if ?_
  | with_reducible refine tv_test ?_ | with_reducible refine tv_B ?_ | with_reducible refine tv_and ?_ | with_reducible refine tv_or ?_ | with_reducible refine tv_not ?_ | with_reducible refine tv_yes ?_
  | with_reducible refine ev_isiInt ?_ | with_reducible refine ev_isiBool ?_ | with_reducible refine ev_isiSeq ?_
  | with_reducible refine av_cons ?_ | with_reducible refine av_nil ?_
  | with_reducible refine ev_pure ?_ | with_reducible refine ev_gcd ?_ | with_reducible refine ev_abs ?_ | with_reducible refine ev_int1 ?_
  | (with_reducible refine DL.ev_len ?_; refine av_cons ?_; refine ev_v rfl ?_; refine bnd_ok ?_; refine av_nil ?_; refine ⟨_, _, _, rfl, by first | rfl | assumption, ?_⟩)
  | with_reducible refine ev_fldD ?_ | with_reducible refine ev_ixS ?_
  | with_reducible refine sv_seq ?_ | with_reducible refine sv_next ?_ | with_reducible refine sv_brk ?_ | with_reducible refine sv_cont ?_ | with_reducible refine sv_ret ?_ | with_reducible refine sv_retN ?_ | with_reducible refine sv_if ?_ | with_reducible refine sv_drop ?_
  | with_reducible refine sv_asg ?_
  | refine ⟨_, rfl, fun hb => ?_, fun hb => ?_⟩
  | refine ⟨_, _, rfl, rfl, fun hb => ?_, fun hb => ?_⟩
  | refine ⟨_, _, rfl, rfl, ?_⟩
  | refine ⟨_, _, _, _, rfl, rfl, rfl, ?_⟩
  | refine ⟨_, rfl, ?_⟩ | refine ⟨_, _, rfl, ?_⟩
  | refine And.intro rfl ?_ | refine And.intro (Nat.le_of_ble_eq_true rfl) ?_ | refine And.intro (by assumption) ?_)
local macro_rules | `(tactic| walk_at "dls") => `(tactic| repeat (walk_at "dl"; all_goals try (first | (exact (nomatch ‹false = true›)) | (exact (nomatch ‹true = false›)))))
local macro_rules | `(tactic| walk_at "dla") => `(tactic| repeat' (first | (exact (nomatch ‹false = true›)) | (exact (nomatch ‹true = false›)) | walk_at "dl"))
local macro_rules | `(tactic| walk_at "dlr") => `(tactic| (refine ret_rt (pms_d _ _ (Nat.le_of_ble_eq_true rfl)) ?_))
local macro_rules | `(tactic| walk_at "dlt") => `(tactic| first | walk_at "dl" | with_reducible refine ev_tup2 ?_ | with_reducible refine ev_tup3 ?_)
local macro_rules | `(tactic| walk_at "dlts") => `(tactic| repeat walk_at "dlt")
section
variable {P : Program} {w : World} {K : PySem.W.Frag} [HasTabs K] {mg : Str → Option Value} {base : Heap} {CH CD : Addr}
abbrev s__law_greatest : Stmt := topS 60
abbrev N__law_greatest : List Str := ["marks", "size", "number", "length", "turn"]
theorem sc__law_greatest : FnScope N__law_greatest ["marks", "size", "number", "length"] (defScope s__law_greatest) := ⟨rfl, rfl, rfl, by decide +kernel, rfl, by decide +kernel, by decide +kernel⟩
def R_law_greatest : List Dat → Dat → Prop := fun ds d => ∃ (ms : List Int) (x : Int) (n : Nat), ds = [.lst (ms.map Dat.int), .int (lcI ms), .int x, .int n] ∧ Sm ms ∧ 0 ≤ x ∧ n ≤ 100000 ∧ d = .int (lastI ms n x)
theorem ok__law_greatest (T : Txt mg) (O__law_step : Ok P w K mg base 1 "_law_step" ["marks", "size", "number", "hand"] (pureR R_law_step)) (F : Dfn K mg "_law_greatest" "_law_greatest" s__law_greatest ["marks", "size", "number", "length"]) : Ok P w K mg base 2 "_law_greatest" ["marks", "size", "number", "length"] (pureR R_law_greatest) := by
  refine F.ok sc__law_greatest (by decide) (fun os Pp h => ?_) pureR_noex (fun f cdv A outer s H E hr => ⟨_, (pss_cons (ps_for PassesOwn.never rfl (pi_range1 (by rfl) T.b_range (pa_cons (pv 3) pa_nil)) (pg_name (i := 4) sc__law_greatest.nd rfl (.inl rfl)) (pss_one (ps_set (i := 2) sc__law_greatest.nd rfl (.inl rfl) (pe_fn O__law_step ⟨rfl, rfl, rfl, rfl, rfl⟩ (hr.mono (by decide)) rfl (pa_cons (pv 0) (pa_cons (pv 1) (pa_cons (pv 2) (pa_cons (pe_op op_sub (pe_callB (r := rLenQ K) call_len_seq (by rfl) T.b_len (by decide +kernel) (pa_cons (pv 0) pa_nil)) pe_int) pa_nil)))))))) (pss_one (ps_ret (pv 2)))), fun os Pp h => ?_⟩)
  · obtain ⟨ds, d, rfl, ⟨ms, x, n, rfl, hS, h0, hn, rfl⟩, q⟩ := h
    rfl
  · obtain ⟨ds, d, rfl, ⟨ms, x, n, rfl, hS, h0, hn, rfl⟩, q⟩ := h
    have hg := hS.g
    show SvP K E0 _ [some (.d (.lst (ms.map Dat.int))), some (.d (.int (lcI ms))), some (.d (.int x)), some (.d (.int n)), none] _
    walk_at "dls"
    refine sv_for (ws := [4]) ?_
    refine iv_rng1 ?_
    walk_at "dls"
    refine ⟨by omega, by omega, ?_⟩
    rw [Int.toNat_natCast]
    refine loop_inv (fun i ρ' => ρ' = [some (.d (.lst (ms.map Dat.int))), some (.d (.int (lcI ms))), some (.d (.int (lastI ms i x))), some (.d (.int n)), none]) rfl (fun i d ρ' hi he => ?_) (fun ρ' he => ?_)
    · subst he
      have hnn := lastI_nn hg i x h0
      have hl1 := hg.1
      refine gv_name (Nat.le_of_ble_eq_true rfl) ?_
      walk_at "dls"
      refine DL.ev_len ?_
      walk_at "dls"
      refine ⟨_, _, _, rfl, rfl, ?_⟩
      rw [List.length_map]
      walk_at "dls"
      refine ⟨[.lst (ms.map Dat.int), .int (lcI ms), .int (lastI ms i x), .int (ms.length - 1 : Nat)], _, ?_, ⟨ms, _, ms.length - 1, rfl, hS, hnn, by omega, rfl⟩, ?_⟩
      · show [_, _, _, Ow.d (.int ((ms.length : Int) - 1))] = _
        rw [show ((ms.length : Int) - 1) = ((ms.length - 1 : Nat) : Int) by omega]
        rfl
      walk_at "dls"
      refine onT_nx (.cons (.cons (.cons (.cons (.skip .nil))))) ?_
      rw [lastI_succ]
    · subst he
      rw [rangeD_len]
      walk_at "dls"
      exact ret_rt (pms_d [.lst (ms.map Dat.int), .int (lcI ms), .int x, .int n] _ (Nat.le_of_ble_eq_true rfl)) q

end
end K23

namespace K23
open PySem L2 Evl DL
local macro_rules | `(tactic| walk_at "dl") => `(tactic| first
  | with_reducible refine bnd_ok ?_ | with_reducible refine bndS_ok ?_ | with_reducible refine onE_ok ?_ | with_reducible refine seq_nx ?_ | with_reducible refine seq_rt ?_ | with_reducible refine seq_bk ?_ | with_reducible refine seq_ct ?_ | with_reducible refine onT_rt ?_ | with_reducible refine onT_bk ?_ | with_reducible refine resS_nx ?_ | with_reducible refine resS_rt ?_
  | refine ev_v rfl ?_ | refine ev_l rfl ?_ | with_reducible refine ev_i ?_ | with_reducible refine ev_n ?_ | with_reducible refine ev_b ?_ | with_reducible refine ev_s ?_
  | with_reducible refine ev_oZ0 ?_ | with_reducible refine ev_oB0 ?_ | with_reducible refine ev_oZ ?_ | with_reducible refine ev_neg ?_ | with_reducible refine ev_neI ?_ | with_reducible refine ev_eqI ?_ | with_reducible refine ev_isN ?_ | with_reducible refine ev_notN ?_ | with_reducible refine ev_chain ?_
  | with_reducible refine ev_andV ?_ | with_reducible refine ev_orV ?_ | with_reducible refine ev_notV ?_ | with_reducible refine ev_if ?_
  | with_reducible refine tv_test ?_ | with_reducible refine tv_B ?_ | with_reducible refine tv_and ?_ | with_reducible refine tv_or ?_ | with_reducible refine tv_not ?_ | with_reducible refine tv_yes ?_
  | with_reducible refine ev_isiInt ?_ | with_reducible refine ev_isiBool ?_ | with_reducible refine ev_isiSeq ?_
  | with_reducible refine av_cons ?_ | with_reducible refine av_nil ?_
  | with_reducible refine ev_pure ?_ | with_reducible refine ev_gcd ?_ | with_reducible refine ev_abs ?_ | with_reducible refine ev_int1 ?_
  | (with_reducible refine DL.ev_len ?_; refine av_cons ?_; refine ev_v rfl ?_; refine bnd_ok ?_; refine av_nil ?_; refine ⟨_, _, _, rfl, by first | rfl | assumption, ?_⟩)
  | with_reducible refine ev_fldD ?_ | with_reducible refine ev_ixS ?_
  | with_reducible refine sv_seq ?_ | with_reducible refine sv_next ?_ | with_reducible refine sv_brk ?_ | with_reducible refine sv_cont ?_ | with_reducible refine sv_ret ?_ | with_reducible refine sv_retN ?_ | with_reducible refine sv_if ?_ | with_reducible refine sv_drop ?_
  | with_reducible refine sv_asg ?_
  | refine ⟨_, rfl, fun hb => ?_, fun hb => ?_⟩
  | refine ⟨_, _, rfl, rfl, fun hb => ?_, fun hb => ?_⟩
  | refine ⟨_, _, rfl, rfl, ?_⟩
  | refine ⟨_, _, _, _, rfl, rfl, rfl, ?_⟩
  | refine ⟨_, rfl, ?_⟩ | refine ⟨_, _, rfl, ?_⟩
  | refine And.intro rfl ?_ | refine And.intro (Nat.le_of_ble_eq_true rfl) ?_ | refine And.intro (by assumption) ?_)
local macro_rules | `(tactic| walk_at "dls") => `(tactic| repeat (walk_at "dl"; all_goals try (first | (exact (nomatch ‹false = true›)) | (exact (nomatch ‹true = false›)))))
local macro_rules | `(tactic| walk_at "dla") => `(tactic| repeat' (first | (exact (nomatch ‹false = true›)) | (exact (nomatch ‹true = false›)) | walk_at "dl"))
local macro_rules | `(tactic| walk_at "dlr") => `(tactic| (refine ret_rt (pms_d _ _ (Nat.le_of_ble_eq_true rfl)) ?_))
local macro_rules | `(tactic| walk_at "dlt") => `(tactic| first | walk_at "dl" | with_reducible refine ev_tup2 ?_ | with_reducible refine ev_tup3 ?_)
local macro_rules | `(tactic| walk_at "dlts") => `(tactic| repeat walk_at "dlt")
section
variable {P : Program} {w : World} {K : PySem.W.Frag} [HasTabs K] {mg : Str → Option Value} {base : Heap} {CH CD : Addr}
abbrev s_span_with : Stmt := topS 34
abbrev N_span_with : List Str := ["spans", "place", "at", "first", "behind"]
theorem sc_span_with : FnScope N_span_with ["spans", "place"] (defScope s_span_with) := ⟨rfl, rfl, rfl, by decide +kernel, rfl, by decide +kernel, by decide +kernel⟩
def inSp (pl : Int) (s : Int × Int) : Bool := decide (s.1 ≤ pl) && decide (pl < s.2)
def idxD (i : Option Nat) : Dat := match i with
  | some n => .int n
  | none => .non
def R_span_with : List Dat → Dat → Prop := fun ds d => ∃ (y : Dat) (t : Bool) (sp : List (Int × Int)) (pl : Int), ds = [y, .int pl] ∧ y.seq = some (t, sp.map spD) ∧ d = idxD (sp.findIdx? (inSp pl))
theorem ok_span_with (T : Txt mg) (F : Dfn K mg "span_with" "span_with" s_span_with ["spans", "place"]) : Ok P w K mg base 1 "span_with" ["spans", "place"] (pureR R_span_with) := by
  refine F.ok sc_span_with (by decide) (fun os Pp h => ?_) pureR_noex (fun f cdv A outer s H E hr => ⟨_, (pss_cons (ps_for PassesOwn.never rfl (pi_enumK (K := K) rfl (by rfl) T.b_enumerate (pa_cons (pv 0) pa_nil)) (pg_tup rfl (pgs_cons (pg_name (i := 2) sc_span_with.nd rfl (.inl rfl)) (pgs_cons (pg_tup rfl (pgs_cons (pg_name (i := 3) sc_span_with.nd rfl (.inl rfl)) (pgs_cons (pg_name (i := 4) sc_span_with.nd rfl (.inl rfl)) pgs_nil))) pgs_nil))) (pss_one (ps_if (pt_chain op_le op_lt (pv 3) (pv 1) (pv 4)) (pss_one (ps_ret (pv 2))) pss_nil))) (pss_one (ps_ret pe_non))), fun os Pp h => ?_⟩)
  · obtain ⟨ds, d, rfl, ⟨y, t, sp, pl, rfl, hy, rfl⟩, q⟩ := h
    rfl
  · obtain ⟨ds, d, rfl, ⟨y, t, sp, pl, rfl, hy, rfl⟩, q⟩ := h
    show SvP K E0 _ [some (.d y), some (.d (.int pl)), none, none, none] _
    walk_at "dls"
    refine sv_for (ws := [2] ++ (([3] ++ ([4] ++ [])) ++ [])) ?_
    refine iv_enum ?_
    walk_at "dls"
    refine ⟨_, _, _, rfl, hy, ?_⟩
    refine loop_inv (fun i ρ' => (∃ u v w, ρ' = [some (.d y), some (.d (.int pl)), u, v, w]) ∧ ∀ s ∈ sp.take i, inSp pl s = false) ⟨⟨_, _, _, rfl⟩, by simp⟩ (fun i d ρ' hi he => ?_) (fun ρ' he => ?_)
    · obtain ⟨⟨u, v, w, rfl⟩, hbef⟩ := he
      have hd : ∃ s, sp[i]? = some s ∧ d = .tup [.int (i : Int), spD s] := by
        cases hm : sp[i]? with
        | none =>
          have : (enumD (sp.map spD))[i]? = none := by
            rw [List.getElem?_eq_none_iff] at hm ⊢
            rw [enumD_len, List.length_map]
            exact hm
          rw [this] at hi
          cases hi
        | some z =>
          rw [enumD_get (d := spD z) (by rw [List.getElem?_map, hm]; rfl)] at hi
          exact ⟨z, rfl, (Option.some.inj hi).symm⟩
      obtain ⟨s, hs, rfl⟩ := hd
      refine gv_tup rfl (gs_cons (gv_name (Nat.le_of_ble_eq_true rfl) (gs_cons (gv_tup rfl (gs_cons (gv_name (Nat.le_of_ble_eq_true rfl) (gs_cons (gv_name (Nat.le_of_ble_eq_true rfl) (gs_nil (gs_nil ?_))))))))))
      have nxt : inSp pl s = false → ∀ z ∈ sp.take (i + 1), inSp pl z = false := fun hp z hz => by
        rw [List.take_add_one, hs] at hz
        rcases List.mem_append.mp hz with h | h
        · exact hbef z h
        · simp at h; rw [h]; exact hp
      have out : ∀ (b : Bool) (ρ : Rh), b = inSp pl s → ρ.length = 5 → retS (List.map Ow.d [y, .int pl]) Pp (.rt (.d (.int (i : Int))) ρ) ∨ b = false := fun b ρ e hl => by
        cases hb : b with
        | false => exact .inr rfl
        | true =>
          refine .inl (ret_rt (pms_d _ _ (by rw [hl]; exact Nat.le_of_ble_eq_true rfl)) ?_)
          have : sp.findIdx? (inSp pl) = some i := by
            rw [List.findIdx?_eq_some_iff_getElem]
            obtain ⟨hi2, e2⟩ := List.getElem?_eq_some_iff.mp hs
            refine ⟨hi2, by rw [e2, ← e, hb], fun j hj => ?_⟩
            rw [hbef (sp[j]'(by omega)) (by
              rw [List.mem_take_iff_getElem]
              exact ⟨j, by omega, rfl⟩)]
            exact Bool.false_ne_true
          rw [this] at q
          exact q
      walk_at "dls"
      · rename_i hb1 hb2
        walk_at "dls"
        have e : inSp pl s = true := by
          show (decide (s.1 ≤ pl) && decide (pl < s.2)) = true
          rw [show decide (s.1 ≤ pl) = true from hb1, show decide (pl < s.2) = true from hb2]
          rfl
        exact (out true _ e.symm rfl).resolve_right (fun z => nomatch z)
      · rename_i hb1 hb2
        walk_at "dls"
        refine onT_nx (Wk.refl _) ⟨⟨_, _, _, rfl⟩, nxt ?_⟩
        show (decide (s.1 ≤ pl) && decide (pl < s.2)) = false
        rw [show decide (pl < s.2) = false from hb2, Bool.and_false]
      · rename_i hb1
        walk_at "dls"
        refine onT_nx (Wk.refl _) ⟨⟨_, _, _, rfl⟩, nxt ?_⟩
        show (decide (s.1 ≤ pl) && decide (pl < s.2)) = false
        rw [show decide (s.1 ≤ pl) = false from hb1, Bool.false_and]
    · obtain ⟨⟨u, v, w, rfl⟩, hall⟩ := he
      walk_at "dls"
      walk_at "dlr"
      have : sp.findIdx? (inSp pl) = none := by
        rw [List.findIdx?_eq_none_iff]
        intro x hx
        refine hall x ?_
        rw [enumD_len, List.length_map, List.take_length]
        exact hx
      rw [this] at q
      exact q

end
end K23

namespace K23
open PySem L2 Evl DL
local macro_rules | `(tactic| walk_at "dl") => `(tactic| first
  | with_reducible refine bnd_ok ?_ | with_reducible refine bndS_ok ?_ | with_reducible refine onE_ok ?_ | with_reducible refine seq_nx ?_ | with_reducible refine seq_rt ?_ | with_reducible refine seq_bk ?_ | with_reducible refine seq_ct ?_ | with_reducible refine onT_rt ?_ | with_reducible refine onT_bk ?_ | with_reducible refine resS_nx ?_ | with_reducible refine resS_rt ?_
  | refine ev_v rfl ?_ | refine ev_l rfl ?_ | with_reducible refine ev_i ?_ | with_reducible refine ev_n ?_ | with_reducible refine ev_b ?_ | with_reducible refine ev_s ?_
  | with_reducible refine ev_oZ0 ?_ | with_reducible refine ev_oB0 ?_ | with_reducible refine ev_oZ ?_ | with_reducible refine ev_neg ?_ | with_reducible refine ev_neI ?_ | with_reducible refine ev_eqI ?_ | with_reducible refine ev_isN ?_ | with_reducible refine ev_notN ?_ | with_reducible refine ev_chain ?_
  | with_reducible refine ev_andV ?_ | with_reducible refine ev_orV ?_ | with_reducible refine ev_notV ?_ | with_reducible refine ev_if ?_
  | with_reducible refine tv_test ?_ | with_reducible refine tv_B ?_ | with_reducible refine tv_and ?_ | with_reducible refine tv_or ?_ | with_reducible refine tv_not ?_ | with_reducible refine tv_yes ?_
  | with_reducible refine ev_isiInt ?_ | with_reducible refine ev_isiBool ?_ | with_reducible refine ev_isiSeq ?_
  | with_reducible refine av_cons ?_ | with_reducible refine av_nil ?_
  | with_reducible refine ev_pure ?_ | with_reducible refine ev_gcd ?_ | with_reducible refine ev_abs ?_ | with_reducible refine ev_int1 ?_
  | (with_reducible refine DL.ev_len ?_; refine av_cons ?_; refine ev_v rfl ?_; refine bnd_ok ?_; refine av_nil ?_; refine ⟨_, _, _, rfl, by first | rfl | assumption, ?_⟩)
  | with_reducible refine ev_fldD ?_ | with_reducible refine ev_ixS ?_
  | with_reducible refine sv_seq ?_ | with_reducible refine sv_next ?_ | with_reducible refine sv_brk ?_ | with_reducible refine sv_cont ?_ | with_reducible refine sv_ret ?_ | with_reducible refine sv_retN ?_ | with_reducible refine sv_if ?_ | with_reducible refine sv_drop ?_
  | with_reducible refine sv_asg ?_
  | refine ⟨_, rfl, fun hb => ?_, fun hb => ?_⟩
  | refine ⟨_, _, rfl, rfl, fun hb => ?_, fun hb => ?_⟩
  | refine ⟨_, _, rfl, rfl, ?_⟩
  | refine ⟨_, _, _, _, rfl, rfl, rfl, ?_⟩
  | refine ⟨_, rfl, ?_⟩ | refine ⟨_, _, rfl, ?_⟩
  | refine And.intro rfl ?_ | refine And.intro (Nat.le_of_ble_eq_true rfl) ?_ | refine And.intro (by assumption) ?_)
local macro_rules | `(tactic| walk_at "dls") => `(tactic| repeat (walk_at "dl"; all_goals try (first | (exact (nomatch ‹false = true›)) | (exact (nomatch ‹true = false›)))))
local macro_rules | `(tactic| walk_at "dla") => `(tactic| repeat' (first | (exact (nomatch ‹false = true›)) | (exact (nomatch ‹true = false›)) | walk_at "dl"))
local macro_rules | `(tactic| walk_at "dlr") => `(tactic| (refine ret_rt (pms_d _ _ (Nat.le_of_ble_eq_true rfl)) ?_))
local macro_rules | `(tactic| walk_at "dlt") => `(tactic| first | walk_at "dl" | with_reducible refine ev_tup2 ?_ | with_reducible refine ev_tup3 ?_)
local macro_rules | `(tactic| walk_at "dlts") => `(tactic| repeat walk_at "dlt")
section
variable {P : Program} {w : World} {K : PySem.W.Frag} [HasTabs K] {mg : Str → Option Value} {base : Heap} {CH CD : Addr}
abbrev s_hand_told : Stmt := topS 41
abbrev N_hand_told : List Str := ["rates", "number"]
theorem sc_hand_told : FnScope N_hand_told ["rates", "number"] (defScope s_hand_told) := ⟨rfl, rfl, rfl, by decide +kernel, rfl, by decide +kernel, by decide +kernel⟩
def R_hand_told (CH CT : Addr) : List Dat → Dat → Prop := fun ds d => ∃ (ms : List Int) (x : Int) (h : Nat), ds = [rObj CH CT ms, .int (stepR ms x h)] ∧ Sm ms ∧ 0 ≤ x ∧ h < ms.length ∧ d = .int h
/-- the first span that holds a place -/
theorem span_first {ls : List Int} (nn : ∀ l ∈ ls, 0 ≤ l) {h : Nat} (hh : h < ls.length) {q : Int} (h1 : (ls.take h).sum ≤ q) (h2 : q < (ls.take (h + 1)).sum) : (spansI ls).findIdx? (inSp q) = some h := by
  rw [List.findIdx?_eq_some_iff_getElem]
  have hsl : (spansI ls).length = ls.length := by
    have := spans_len ls ([], 0)
    unfold spansI
    rw [this]
    show 0 + ls.length = _
    omega
  refine ⟨by omega, ?_, fun j hj => ?_⟩
  · have e := spans_at hh
    rw [List.getElem?_eq_getElem (by omega)] at e
    rw [Option.some.inj e]
    unfold inSp
    rw [decide_eq_true h1, decide_eq_true h2]
    rfl
  · have hjl : j < ls.length := by omega
    have e := spans_at hjl
    rw [List.getElem?_eq_getElem (by omega)] at e
    rw [Option.some.inj e]
    have := sum_take_mono nn (show j + 1 ≤ h by omega)
    unfold inSp
    rw [decide_eq_false (show ¬ q < (ls.take (j + 1)).sum by omega), Bool.and_false]
    exact Bool.false_ne_true
theorem hand_at {ms : List Int} (g : Good ms) {h : Nat} (hh : h < ms.length) {x : Int} (h0 : 0 ≤ x) : (spansI (ptsI ms)).findIdx? (inSp (stepR ms x h % whI ms)) = some h := by
  obtain ⟨m, w, p⟩ := g.part hh
  have b := stepR_back g p h0
  have hl : h < (ptsI ms).length := by unfold ptsI; rw [List.length_map]; exact hh
  have e := p.sp
  rw [spans_at hl] at e
  have e2 := (Prod.mk.inj (Option.some.inj e)).2
  refine span_first (fun l hl => by have := pts_pos g l hl; omega) hl ?_ ?_
  · rw [b.2.1]
    show fsI ms h ≤ _
    have := b.2.2.1
    omega
  · rw [b.2.1, e2]
    have := b.2.2.2.1
    omega
theorem ok_hand_told {CT : Addr} (T : Txt mg) (LR : ClRates K CT) (O_span_with : Ok P w K mg base 1 "span_with" ["spans", "place"] (pureR R_span_with)) (F : Dfn K mg "hand_told" "hand_told" s_hand_told ["rates", "number"]) : Ok P w K mg base 2 "hand_told" ["rates", "number"] (pureR (R_hand_told CH CT)) := by
  refine F.ok sc_hand_told (by decide) (fun os Pp h => ?_) pureR_noex (fun f cdv A outer s H E hr => ⟨_, (pss_one (ps_ret (pe_fn O_span_with ⟨rfl, rfl, rfl, rfl, rfl⟩ (hr.mono (by decide)) rfl (pa_cons (pe_fldK (K := K) rfl (pv 0) rfl) (pa_cons (pe_op op_mod (pv 1) (pe_fldK (K := K) rfl (pv 0) rfl)) pa_nil))))), fun os Pp h => ?_⟩)
  · obtain ⟨ds, d, rfl, ⟨ms, x, h, rfl, hS, h0, hh, rfl⟩, q⟩ := h
    rfl
  · obtain ⟨ds, d, rfl, ⟨ms, x, h, rfl, hS, h0, hh, rfl⟩, q⟩ := h
    have hw := hS.wh
    show SvP K E0 _ [some (.d (rObj CH CT ms)), some (.d (.int (stepR ms x h)))] _
    walk_at "dls"
    refine ⟨_, _, _, rfl, LR.c, LR.s, rfl, ?_⟩
    walk_at "dls"
    refine ⟨_, _, _, rfl, LR.c, LR.b, rfl, ?_⟩
    walk_at "dls"
    refine ⟨show 0 < whI ms from hw.1, ?_⟩
    walk_at "dls"
    refine ⟨[.tup ((spansI (ptsI ms)).map spD), .int (stepR ms x h % whI ms)], _, rfl, ⟨_, true, _, _, rfl, rfl, rfl⟩, ?_⟩
    rw [hand_at hS.g hh h0, show idxD (some h) = Dat.int h from rfl]
    walk_at "dls"
    walk_at "dlr"
    exact q

end
end K23

namespace K23
open PySem L2 Evl DL
local macro_rules | `(tactic| walk_at "dl") => `(tactic| first
  | with_reducible refine bnd_ok ?_ | with_reducible refine bndS_ok ?_ | with_reducible refine onE_ok ?_ | with_reducible refine seq_nx ?_ | with_reducible refine seq_rt ?_ | with_reducible refine seq_bk ?_ | with_reducible refine seq_ct ?_ | with_reducible refine onT_rt ?_ | with_reducible refine onT_bk ?_ | with_reducible refine resS_nx ?_ | with_reducible refine resS_rt ?_
  | refine ev_v rfl ?_ | refine ev_l rfl ?_ | with_reducible refine ev_i ?_ | with_reducible refine ev_n ?_ | with_reducible refine ev_b ?_ | with_reducible refine ev_s ?_
  | with_reducible refine ev_oZ0 ?_ | with_reducible refine ev_oB0 ?_ | with_reducible refine ev_oZ ?_ | with_reducible refine ev_neg ?_ | with_reducible refine ev_neI ?_ | with_reducible refine ev_eqI ?_ | with_reducible refine ev_isN ?_ | with_reducible refine ev_notN ?_ | with_reducible refine ev_chain ?_
  | with_reducible refine ev_andV ?_ | with_reducible refine ev_orV ?_ | with_reducible refine ev_notV ?_ | with_reducible refine ev_if ?_
  | with_reducible refine tv_test ?_ | with_reducible refine tv_B ?_ | with_reducible refine tv_and ?_ | with_reducible refine tv_or ?_ | with_reducible refine tv_not ?_ | with_reducible refine tv_yes ?_
  | with_reducible refine ev_isiInt ?_ | with_reducible refine ev_isiBool ?_ | with_reducible refine ev_isiSeq ?_
  | with_reducible refine av_cons ?_ | with_reducible refine av_nil ?_
  | with_reducible refine ev_pure ?_ | with_reducible refine ev_gcd ?_ | with_reducible refine ev_abs ?_ | with_reducible refine ev_int1 ?_
  | (with_reducible refine DL.ev_len ?_; refine av_cons ?_; refine ev_v rfl ?_; refine bnd_ok ?_; refine av_nil ?_; refine ⟨_, _, _, rfl, by first | rfl | assumption, ?_⟩)
  | with_reducible refine ev_fldD ?_ | with_reducible refine ev_ixS ?_
  | with_reducible refine sv_seq ?_ | with_reducible refine sv_next ?_ | with_reducible refine sv_brk ?_ | with_reducible refine sv_cont ?_ | with_reducible refine sv_ret ?_ | with_reducible refine sv_retN ?_ | with_reducible refine sv_if ?_ | with_reducible refine sv_drop ?_
  | with_reducible refine sv_asg ?_
  | refine ⟨_, rfl, fun hb => ?_, fun hb => ?_⟩
  | refine ⟨_, _, rfl, rfl, fun hb => ?_, fun hb => ?_⟩
  | refine ⟨_, _, rfl, rfl, ?_⟩
  | refine ⟨_, _, _, _, rfl, rfl, rfl, ?_⟩
  | refine ⟨_, rfl, ?_⟩ | refine ⟨_, _, rfl, ?_⟩
  | refine And.intro rfl ?_ | refine And.intro (Nat.le_of_ble_eq_true rfl) ?_ | refine And.intro (by assumption) ?_)
local macro_rules | `(tactic| walk_at "dls") => `(tactic| repeat (walk_at "dl"; all_goals try (first | (exact (nomatch ‹false = true›)) | (exact (nomatch ‹true = false›)))))
local macro_rules | `(tactic| walk_at "dla") => `(tactic| repeat' (first | (exact (nomatch ‹false = true›)) | (exact (nomatch ‹true = false›)) | walk_at "dl"))
local macro_rules | `(tactic| walk_at "dlr") => `(tactic| (refine ret_rt (pms_d _ _ (Nat.le_of_ble_eq_true rfl)) ?_))
local macro_rules | `(tactic| walk_at "dlt") => `(tactic| first | walk_at "dl" | with_reducible refine ev_tup2 ?_ | with_reducible refine ev_tup3 ?_)
local macro_rules | `(tactic| walk_at "dlts") => `(tactic| repeat walk_at "dlt")
section
variable {P : Program} {w : World} {K : PySem.W.Frag} [HasTabs K] {mg : Str → Option Value} {base : Heap} {CH CD : Addr}
abbrev s_number_ahead : Stmt := topS 42
abbrev N_number_ahead : List Str := ["rates", "number", "hand", "mark", "within", "first", "_"]
theorem sc_number_ahead : FnScope N_number_ahead ["rates", "number", "hand", "mark"] (defScope s_number_ahead) := ⟨rfl, rfl, rfl, by decide +kernel, rfl, by decide +kernel, by decide +kernel⟩
def R_number_ahead (CH CT : Addr) : List Dat → Dat → Prop := fun ds d => ∃ (ms : List Int) (x : Int) (h : Nat) (m : Int), ds = [rObj CH CT ms, .int (stepR ms x h), .int h, .int (x % m)] ∧ Sm ms ∧ 0 ≤ x ∧ ms[h]? = some m ∧ d = .int x
theorem ok_number_ahead {CT : Addr} (T : Txt mg) (LR : ClRates K CT) (LH : ClHands K CH) (F : Dfn K mg "number_ahead" "number_ahead" s_number_ahead ["rates", "number", "hand", "mark"]) : Ok P w K mg base 1 "number_ahead" ["rates", "number", "hand", "mark"] (pureR (R_number_ahead CH CT)) := by
  refine F.ok sc_number_ahead (by decide) (fun os Pp h => ?_) pureR_noex (fun f cdv A outer s H E hr => ⟨_, (pss_cons (ps_asg (pe_ix (r := rIx K) ix_seq (pe_fldK (K := K) rfl (pv 0) rfl) (pv 2) (fun _ _ => rfl)) (pg_tup rfl (pgs_cons (pg_name (i := 5) sc_number_ahead.nd rfl (.inl rfl)) (pgs_cons (pg_name (i := 6) sc_number_ahead.nd rfl (.inl rfl)) pgs_nil)))) (pss_cons (ps_set (i := 4) sc_number_ahead.nd rfl (.inl rfl) (pe_op op_sub (pe_op op_mod (pv 1) (pe_fldK (K := K) rfl (pv 0) rfl)) (pv 5))) (pss_one (ps_ret (pe_op op_add (pe_op op_add (pe_op op_mul (pe_op op_fdiv (pv 1) (pe_fldK (K := K) rfl (pv 0) rfl)) (pe_fldK (K := K) rfl (pv 0) rfl)) (pe_op op_mul (pv 4) (pe_ix (r := rIx K) ix_seq (pe_fldK (K := K) rfl (pe_fldK (K := K) rfl (pv 0) rfl) rfl) (pv 2) (fun _ _ => rfl)))) (pv 3)))))), fun os Pp h => ?_⟩)
  · obtain ⟨ds, d, rfl, ⟨ms, x, h, m, rfl, hS, h0, hm0, rfl⟩, q⟩ := h
    rfl
  · obtain ⟨ds, d, rfl, ⟨ms, x, h, m, rfl, hS, h0, hm0, rfl⟩, q⟩ := h
    have hh : h < ms.length := (List.getElem?_eq_some_iff.mp hm0).1
    obtain ⟨m', w, p⟩ := hS.g.part hh
    obtain rfl : m' = m := Option.some.inj (p.hm.symm.trans hm0)
    have hL := lcI_pos hS.g
    have hs := hS.s
    have hw := hS.wh
    have hm := p.m1
    have hm2 := p.m2
    have b := (stepR_back hS.g p h0).2.2.2.2.1
    show SvP K E0 _ [some (.d (rObj CH CT ms)), some (.d (.int (stepR ms x h))), some (.d (.int h)), some (.d (.int (x % m'))), none, none, none] _
    generalize stepR ms x h = y at b q
    walk_at "dls"
    refine sv_asgG (ws := [5] ++ ([6] ++ [])) ?_
    walk_at "dls"
    refine ⟨_, _, _, rfl, LR.c, LR.s, rfl, ?_⟩
    walk_at "dls"
    refine ⟨_, _, _, _, _, rfl, rfl, rfl, p.ix, ?_⟩
    walk_at "dls"
    refine gv_tup rfl (gs_cons (gv_name (Nat.le_of_ble_eq_true rfl) (gs_cons (gv_name (Nat.le_of_ble_eq_true rfl) (gs_nil ?_)))))
    walk_at "dls"
    refine ⟨_, _, _, rfl, LR.c, LR.b, rfl, ?_⟩
    walk_at "dls"
    refine ⟨show 0 < whI ms from hw.1, ?_⟩
    walk_at "dls"
    refine ⟨_, _, _, rfl, LR.c, LR.b, rfl, ?_⟩
    walk_at "dls"
    refine ⟨⟨by omega, by omega⟩, ?_⟩
    walk_at "dls"
    refine ⟨_, _, _, rfl, LR.c, LR.a, rfl, ?_⟩
    walk_at "dls"
    refine ⟨.inr ⟨by omega, by omega⟩, ?_⟩
    walk_at "dls"
    refine ⟨_, _, _, rfl, LR.c, LR.h, rfl, ?_⟩
    walk_at "dls"
    refine ⟨_, _, _, rfl, LH.c, LH.m, rfl, ?_⟩
    walk_at "dls"
    refine ⟨_, _, _, _, _, rfl, rfl, rfl, p.mx, ?_⟩
    walk_at "dls"
    refine ⟨.inr ⟨by omega, by omega⟩, ?_⟩
    walk_at "dls"
    walk_at "dlr"
    rw [b]
    exact q

end
end K23

namespace K23
open PySem L2 Evl DL
local macro_rules | `(tactic| walk_at "dl") => `(tactic| first
  | with_reducible refine bnd_ok ?_ | with_reducible refine bndS_ok ?_ | with_reducible refine onE_ok ?_ | with_reducible refine seq_nx ?_ | with_reducible refine seq_rt ?_ | with_reducible refine seq_bk ?_ | with_reducible refine seq_ct ?_ | with_reducible refine onT_rt ?_ | with_reducible refine onT_bk ?_ | with_reducible refine resS_nx ?_ | with_reducible refine resS_rt ?_
  | refine ev_v rfl ?_ | refine ev_l rfl ?_ | with_reducible refine ev_i ?_ | with_reducible refine ev_n ?_ | with_reducible refine ev_b ?_ | with_reducible refine ev_s ?_
  | with_reducible refine ev_oZ0 ?_ | with_reducible refine ev_oB0 ?_ | with_reducible refine ev_oZ ?_ | with_reducible refine ev_neg ?_ | with_reducible refine ev_neI ?_ | with_reducible refine ev_eqI ?_ | with_reducible refine ev_isN ?_ | with_reducible refine ev_notN ?_ | with_reducible refine ev_chain ?_
  | with_reducible refine ev_andV ?_ | with_reducible refine ev_orV ?_ | with_reducible refine ev_notV ?_ | with_reducible refine ev_if ?_
  | with_reducible refine tv_test ?_ | with_reducible refine tv_B ?_ | with_reducible refine tv_and ?_ | with_reducible refine tv_or ?_ | with_reducible refine tv_not ?_ | with_reducible refine tv_yes ?_
  | with_reducible refine ev_isiInt ?_ | with_reducible refine ev_isiBool ?_ | with_reducible refine ev_isiSeq ?_
  | with_reducible refine av_cons ?_ | with_reducible refine av_nil ?_
  | with_reducible refine ev_pure ?_ | with_reducible refine ev_gcd ?_ | with_reducible refine ev_abs ?_ | with_reducible refine ev_int1 ?_
  | (with_reducible refine DL.ev_len ?_; refine av_cons ?_; refine ev_v rfl ?_; refine bnd_ok ?_; refine av_nil ?_; refine ⟨_, _, _, rfl, by first | rfl | assumption, ?_⟩)
  | with_reducible refine ev_fldD ?_ | with_reducible refine ev_ixS ?_
  | with_reducible refine sv_seq ?_ | with_reducible refine sv_next ?_ | with_reducible refine sv_brk ?_ | with_reducible refine sv_cont ?_ | with_reducible refine sv_ret ?_ | with_reducible refine sv_retN ?_ | with_reducible refine sv_if ?_ | with_reducible refine sv_drop ?_
  | with_reducible refine sv_asg ?_
  | refine ⟨_, rfl, fun hb => ?_, fun hb => ?_⟩
  | refine ⟨_, _, rfl, rfl, fun hb => ?_, fun hb => ?_⟩
  | refine ⟨_, _, rfl, rfl, ?_⟩
  | refine ⟨_, _, _, _, rfl, rfl, rfl, ?_⟩
  | refine ⟨_, rfl, ?_⟩ | refine ⟨_, _, rfl, ?_⟩
  | refine And.intro rfl ?_ | refine And.intro (Nat.le_of_ble_eq_true rfl) ?_ | refine And.intro (by assumption) ?_)
local macro_rules | `(tactic| walk_at "dls") => `(tactic| repeat (walk_at "dl"; all_goals try (first | (exact (nomatch ‹false = true›)) | (exact (nomatch ‹true = false›)))))
local macro_rules | `(tactic| walk_at "dla") => `(tactic| repeat' (first | (exact (nomatch ‹false = true›)) | (exact (nomatch ‹true = false›)) | walk_at "dl"))
local macro_rules | `(tactic| walk_at "dlr") => `(tactic| (refine ret_rt (pms_d _ _ (Nat.le_of_ble_eq_true rfl)) ?_))
local macro_rules | `(tactic| walk_at "dlt") => `(tactic| first | walk_at "dl" | with_reducible refine ev_tup2 ?_ | with_reducible refine ev_tup3 ?_)
local macro_rules | `(tactic| walk_at "dlts") => `(tactic| repeat walk_at "dlt")
section
variable {P : Program} {w : World} {K : PySem.W.Frag} [HasTabs K] {mg : Str → Option Value} {base : Heap} {CH CD : Addr}
abbrev s_grow_story : Stmt := topS 45
abbrev N_grow_story : List Str := ["hands", "logs", "number", "rows", "now", "rates", "story", "_", "hand", "log", "row"]
theorem sc_grow_story : FnScope N_grow_story ["hands", "logs", "number"] (defScope s_grow_story) := ⟨rfl, rfl, rfl, by decide +kernel, rfl, by decide +kernel, by decide +kernel⟩
theorem grF_snoc (ms : List Int) (x : Int) (hs : List Nat) (h : Nat) : grI ms x (hs ++ [h]) = grF ms (grI ms x hs) h := by
  unfold grI
  rw [List.foldl_append]
  rfl
/-- as many entries as deeds -/
def totR (rows : List (List Int)) : Int := (rows.map fun r => (r.length : Int)).sum
theorem totR_set : ∀ (rows : List (List Int)) (j : Nat) (r : List Int) (k : Int), rows[j]? = some r → totR (rows.set j (r ++ [k])) = totR rows + 1
  | [], j, r, k, e => by simp at e
  | x :: rows, 0, r, k, e => by
    have : x = r := by simpa using e
    subst this
    show (((x ++ [k]).length : Int) + totR rows) = ((x.length : Int) + totR rows) + 1
    rw [List.length_append]
    show ((x.length + 1 : Nat) : Int) + _ = _
    omega
  | x :: rows, j + 1, r, k, e => by
    have := totR_set rows j r k (by simpa using e)
    show (x.length : Int) + totR (rows.set j (r ++ [k])) = ((x.length : Int) + totR rows) + 1
    omega
theorem totR_rep : ∀ n : Nat, totR (List.replicate n []) = 0
  | 0 => rfl
  | n + 1 => by
    show ((0 : Nat) : Int) + totR (List.replicate n []) = 0
    rw [totR_rep n]
    rfl
theorem gr_tot {ms : List Int} : ∀ (hs : List Nat) (p : Int × List (List Int)), (∀ h ∈ hs, h < ms.length) → p.2.length = ms.length → totR (hs.foldl (grF ms) p).2 = totR p.2 + hs.length
  | [], p, _, _ => by simp
  | h :: hs, p, hb, hl => by
    have hh := hb h List.mem_cons_self
    have hrow := List.getElem?_eq_getElem (l := p.2) (i := h) (by omega)
    have := gr_tot hs (grF ms p h) (fun k hk => hb k (List.mem_cons_of_mem _ hk)) (by show (p.2.set _ _).length = _; rw [List.length_set]; exact hl)
    have e := totR_set p.2 h _ (p.1 % ms.getD h 1) hrow
    rw [List.foldl_cons, this]
    show totR (p.2.set h (p.2.getD h [] ++ [_])) + _ = _
    rw [List.getD_eq_getElem?_getD, hrow]
    show totR (p.2.set h (p.2[h] ++ [_])) + _ = _
    rw [e, List.length_cons]
    omega
theorem rowlens {rows : List (List Int)} {ro : List Ow} (h : RowsOw rows ro) : All2 (fun (n : Nat) (o : Ow) => ∃ b xs, o = .l b xs ∧ xs.length = n) (rows.map List.length) ro := by
  unfold RowsOw at h
  induction h with
  | nil => exact .nil
  | cons q t ih =>
    obtain ⟨b, rfl⟩ := q
    exact .cons ⟨b, _, rfl, by simp⟩ ih
theorem set_self {α : Type} {xs : List α} {i : Nat} {x : α} (h : xs[i]? = some x) : xs.set i x = xs := by
  obtain ⟨hi, rfl⟩ := List.getElem?_eq_some_iff.mp h
  exact List.set_getElem_self hi
def R_grow_story (CH : Addr) : List Dat → Dat → Prop := fun ds d => ∃ (ms : List Int) (x : Int) (y : Dat) (t : Bool) (rs : List Dat) (hs : List Nat), ds = [hObj CH ms, y, .int (grI ms x hs).1] ∧ Sm ms ∧ 0 ≤ x ∧ y.tyn.isSome = true ∧ y.seq = some (t, rs) ∧ LogsOk ms rs ∧ rs.map tupOf = rowsD (grI ms x hs).2 ∧ hs.length ≤ 10000 ∧ (∀ h ∈ hs, h < ms.length) ∧
  d = .tup [.int x, .tup (hs.map fun (h : Nat) => Dat.int h)]
theorem ok_grow_story {CT : Addr} (T : Txt mg) (LR : ClRates K CT) (LH : ClHands K CH) (O_check_logs : Ok P w K mg base 5 "check_logs" ["hands", "value"] (pureR (R_check_logs CH))) (O_need_number : Ok P w K mg base 2 "need_number" ["number"] (pureR R_need_number))
    (O_Rates : OkC P w K mg base 2 "Rates" ["self", "hands"] CT (R_Rates CH CT)) (O_hand_told : Ok P w K mg base 2 "hand_told" ["rates", "number"] (pureR (R_hand_told CH CT))) (O_number_ahead : Ok P w K mg base 1 "number_ahead" ["rates", "number", "hand", "mark"] (pureR (R_number_ahead CH CT))) (F : Dfn K mg "grow_story" "grow_story" s_grow_story ["hands", "logs", "number"]) :
    Ok P w K mg base 6 "grow_story" ["hands", "logs", "number"] (pureR (R_grow_story CH)) := by
  refine F.ok sc_grow_story (by decide) (fun os Pp h => ?_) pureR_noex (fun f cdv A outer s H E hr => ⟨_, (pss_cons (ps_setLc (i := 3) (own := [("log", 9)]) (g := gName 9) (tt := tYes) rfl sc_grow_story.nd rfl rfl (sw_true rfl rfl rfl (by decide +kernel)) (pi_anyK (K := K) rfl (pe_fn O_check_logs ⟨rfl, rfl, rfl, rfl, rfl⟩ (hr.mono (by decide)) rfl (pa_cons (pv 0) (pa_cons (pv 1) pa_nil)))) (blkOk_by (own := [("log", 9)]) (N := N_grow_story) (sc := defScope s_grow_story) (by decide +kernel)) (fun _ _ _ _ _ => (pg_name (i := 9) sc_grow_story.nd rfl (.inl rfl))) (fun _ _ _ _ _ => pts_nil) (fun _ _ _ _ _ => (pe_callTy (r := rListO K) call_list_of (by rfl) T.b_list (by decide +kernel) (pa_cons (pv 9) pa_nil)))) (pss_cons (ps_set (i := 4) sc_grow_story.nd rfl (.inl rfl) (pe_fn O_need_number ⟨rfl, rfl, rfl, rfl, rfl⟩ (hr.mono (by decide)) rfl (pa_cons (pv 2) pa_nil))) (pss_cons (ps_set (i := 5) sc_grow_story.nd rfl (.inl rfl) (pe_cls O_Rates ⟨rfl, rfl, rfl, rfl, rfl⟩ (hr.mono (by decide)) rfl (pa_cons (pv 0) pa_nil))) (pss_cons (ps_set (i := 6) sc_grow_story.nd rfl (.inl rfl) (pe_lst pa_nil)) (pss_cons (ps_for PassesOwn.never rfl (pi_range1 (by rfl) T.b_range (pa_cons (pe_callB (r := rSum K) (cr_sum rfl) (by rfl) T.b_sum (by decide +kernel) (pa_cons (pe_lc (own := [("row", 10)]) (g := gName 10) (tt := tYes) rfl sc_grow_story.nd (pi_anyK (K := K) rfl (pv 3)) (blkOk_by (own := [("row", 10)]) (N := N_grow_story) (sc := defScope s_grow_story) (by decide +kernel)) (fun _ _ _ _ _ => (pg_name (i := 10) sc_grow_story.nd rfl (.inl rfl))) (fun _ _ _ _ _ => pts_nil) (fun _ _ _ _ _ => (pe_callB (r := rLenQ K) call_len_seq (by rfl) T.b_len (by decide +kernel) (pa_cons (pv 10) pa_nil)))) pa_nil)) pa_nil)) (pg_name (i := 7) sc_grow_story.nd rfl (.inl rfl)) (pss_cons (ps_set (i := 8) sc_grow_story.nd rfl (.inl rfl) (pe_fn O_hand_told ⟨rfl, rfl, rfl, rfl, rfl⟩ (hr.mono (by decide)) rfl (pa_cons (pv 5) (pa_cons (pv 4) pa_nil)))) (pss_cons (ps_if (pt_not (pt_truK (K := K) rfl (pe_ix (r := rIxL K) ix_list (pv 3) (pv 8) (fun _ _ => rfl)) (fun _ => rfl))) (pss_one ps_never) pss_nil) (pss_cons (ps_set (i := 4) sc_grow_story.nd rfl (.inl rfl) (pe_fn O_number_ahead ⟨rfl, rfl, rfl, rfl, rfl⟩ (hr.mono (by decide)) rfl (pa_cons (pv 5) (pa_cons (pv 4) (pa_cons (pv 8) (pa_cons (pe_bm0K (K := K) rfl PySem.F.plainAttrs_list PySem.F.slot_list_pop PySem.F.type_list_pop mt_pop (pe_ix (r := rIxL K) ix_list (pv 3) (pv 8) (fun _ _ => rfl))) pa_nil)))))) (pss_one (ps_expr (pe_bmK (K := K) rfl PySem.F.plainAttrs_list PySem.F.slot_list_append PySem.F.type_list_append mt_append (pv 6) (pa_cons (pv 8) pa_nil)))))))) (pss_one (ps_ret (pe_tup (pa_cons (pv 4) (pa_cons (pe_callTy (r := rTupO K) call_tuple_of (by rfl) T.b_tuple (by decide +kernel) (pa_cons (pe_revL (pv 6)) pa_nil)) pa_nil)))))))))), fun os Pp h => ?_⟩)
  · obtain ⟨ds, d, rfl, ⟨ms, x, y, t, rs, hs, rfl, hS, h0, hx, hy, hL, hrw, hl, hb, rfl⟩, q⟩ := h
    rfl
  · obtain ⟨ds, d, rfl, ⟨ms, x, y, t, rs, hs, rfl, hS, h0, hx, hy, hL, hrw, hl, hb, rfl⟩, q⟩ := h
    have hg := hS.g
    show SvP K E0 _ [some (.d (hObj CH ms)), some (.d y), some (.d (.int (grI ms x hs).1)), none, none, none, none, none, none, none, none] _
    obtain ⟨fin, hfin⟩ : ∃ fin, fin = grI ms x hs := ⟨_, rfl⟩
    have hfl : fin.2.length = ms.length := by rw [hfin]; exact gr_rows ms hs _ (by simp)
    have hft : totR fin.2 = hs.length := by
      rw [hfin]
      have := gr_tot hs (x, List.replicate ms.length []) hb (by simp)
      rw [totR_rep] at this
      show totR (hs.foldl (grF ms) _).2 = _
      omega
    have hfr : ∀ r ∈ fin.2, r.length ≤ 10000 := fun r hr => by
      rw [hfin] at hr
      have := gr_rowlen ms hs (x, List.replicate ms.length []) 0 (fun r hr => by rw [List.eq_of_mem_replicate hr]; simp) r hr
      omega
    have hfn : 0 ≤ fin.1 := by rw [hfin]; exact gr_nn hg hs _ hb h0
    rw [← hfin] at hrw q ⊢
    walk_at "dls"
    refine ev_lcR (ws := [9]) (fun r : List Int => .tup (r.map Dat.int)) (fun (r : List Int) (o : Ow) => ∃ b, o = .l b ((r.map Dat.int).map Ow.d)) (by decide) ?_
    refine iv_any ?_
    walk_at "dls"
    refine ⟨[hObj CH ms, y], _, rfl, ⟨ms, y, t, rs, rfl, hg, hx, hy, hL, rfl⟩, ?_⟩
    rw [hrw]
    refine bnd_ok ⟨_, _, _, rfl, rfl, fin.2, rfl, by have := hg.2.1; omega, fun r hr2 => ?_, fun ro hro b => ?_⟩
    · have hrlen : r.length ≤ 100000 := by have := hfr r hr2; omega
      refine gv_name (Nat.le_of_ble_eq_true rfl) ?_
      refine DL.ev_lstD ?_
      walk_at "dls"
      refine ⟨_, _, _, rfl, rfl, by rw [List.length_map]; exact hrlen, fun b => ?_⟩
      exact ⟨⟨b, rfl⟩, rfl⟩
    · walk_at "dls"
      refine ⟨[.int fin.1], _, rfl, ⟨_, rfl, hfn, rfl⟩, ?_⟩
      walk_at "dls"
      refine DL.ev_make ?_ R_Rates_mono
      refine av_cons (ev_v rfl (bnd_ok (av_nil fun a => ?_)))
      refine ⟨a, ms, rfl, hS, rfl, _, _, rfl, ?_⟩
      walk_at "dls"
      refine ev_lsto (av_nil ⟨Nat.le_of_ble_eq_true rfl, fun sa => ?_⟩)
      walk_at "dls"
      refine sv_for (ws := [7]) ?_
      refine iv_rng1 ?_
      refine av_cons ?_
      have hro : RowsOw fin.2 ro := hro
      refine ev_sumlen (ls := fin.2.map List.length) rfl (rowlens hro) (by rw [List.length_map]; have := hg.2.1; omega) (by decide) (Nat.le_of_ble_eq_true rfl) ?_
      rw [show ((fin.2.map List.length).map fun n : Nat => (n : Int)).sum = (hs.length : Int) by rw [← hft]; unfold totR; rw [List.map_map]; rfl]
      walk_at "dls"
      refine ⟨by omega, by omega, ?_⟩
      rw [Int.toNat_natCast]
      refine loop_inv (fun i ρ' => ∃ ro, RowsOw (grI ms x (hs.take (hs.length - i))).2 ro ∧ ρ' = [some (.d (hObj CH ms)), some (.d y), some (.d (.int fin.1)), some (.l b ro), some (.d (.int (grI ms x (hs.take (hs.length - i))).1)), some (.d (rObj CH CT ms)), some (.l sa (((hs.drop (hs.length - i)).reverse.map fun (h : Nat) => Dat.int h).map Ow.d)), none, none, none, none]) ⟨ro, by rw [Nat.sub_zero, List.take_length, ← hfin]; exact hro, by rw [Nat.sub_zero, List.take_length, ← hfin, List.drop_length]; rfl⟩ (fun i d ρ' hi he => ?_) (fun ρ' he => ?_)
      · obtain ⟨ro, hr1, rfl⟩ := he
        have hil : i < hs.length := by
          have := (List.getElem?_eq_some_iff.mp hi).1
          rw [rangeD_len] at this
          exact this
        obtain ⟨n, hn⟩ : ∃ n, n = hs.length - (i + 1) := ⟨_, rfl⟩
        have hn1 : hs.length - i = n + 1 := by omega
        have hnl : n < hs.length := by omega
        rw [← hn]
        rw [hn1] at hr1 ⊢
        have hnn := List.getElem?_eq_getElem hnl
        have hlt : hs[n] < ms.length := hb _ (List.getElem_mem hnl)
        have htk : hs.take (n + 1) = hs.take n ++ [hs[n]] := by rw [List.take_add_one, hnn]; rfl
        have hdr : hs.drop n = hs[n] :: hs.drop (n + 1) := List.drop_eq_getElem_cons hnl
        rw [hdr]
        rw [htk, grF_snoc] at hr1 ⊢
        generalize hs[n] = h at hlt hr1 ⊢
        obtain ⟨m, w0, p⟩ := hg.part hlt
        have hw0 : 0 ≤ (grI ms x (hs.take n)).1 := gr_nn hg _ _ (fun k hk => hb k (List.mem_of_mem_take hk)) h0
        have hwl : (grI ms x (hs.take n)).2.length = ms.length := gr_rows ms _ _ (by simp)
        generalize grI ms x (hs.take n) = w at hr1 hw0 hwl ⊢
        have hrow := List.getElem?_eq_getElem (l := w.2) (i := h) (by omega)
        have hset : (grF ms w h).2 = w.2.set h (w.2[h] ++ [w.1 % m]) := by
          show w.2.set h (w.2.getD h [] ++ [w.1 % ms.getD h 1]) = _
          rw [List.getD_eq_getElem?_getD, hrow, List.getD_eq_getElem?_getD, p.hm]
          rfl
        rw [hset] at hr1
        obtain ⟨b1, hb1⟩ := hr1.get (show (w.2.set h (w.2[h] ++ [w.1 % m]))[h]? = _ from List.getElem?_set_self (by omega))
        show GvP K _ _ (_ :: _ :: _ :: _ :: some (.d (.int (stepR ms w.1 h))) :: _) _ _
        refine gv_name (Nat.le_of_ble_eq_true rfl) ?_
        walk_at "dls"
        refine ⟨[rObj CH CT ms, .int (stepR ms w.1 h)], _, rfl, ⟨ms, w.1, h, rfl, hS, hw0, hlt, rfl⟩, ?_⟩
        walk_at "dls"
        refine tv_truO2 ⟨b, ro, rfl⟩ ?_
        walk_at "dls"
        refine ⟨b, b1, ro, _, h, rfl, rfl, hb1, ?_⟩
        have hne : (!(((w.2[h] ++ [w.1 % m]).map Dat.int).map Ow.d).isEmpty) = true := by simp
        rw [hne]
        have hb2 : ro[h]? = some (.l b1 ((w.2[h].map Dat.int).map Ow.d ++ [.d (.int (w.1 % m))])) := by
          rw [hb1, List.map_append, List.map_append]
          rfl
        walk_at "dls"
        refine ev_pop2 ?_ ⟨b, ro, rfl⟩
        walk_at "dls"
        refine ⟨b, ro, b1, _, h, _, rfl, rfl, hb2, ?_⟩
        walk_at "dls"
        refine ⟨[rObj CH CT ms, .int (stepR ms w.1 h), .int h, .int (w.1 % m)], _, rfl, ⟨ms, w.1, h, m, rfl, hS, hw0, p.hm, rfl⟩, ?_⟩
        walk_at "dls"
        refine ev_app ⟨sa, _, rfl, ?_⟩
        walk_at "dls"
        refine ⟨by rw [List.length_map, List.length_map, List.length_reverse, List.length_drop]; omega, ?_⟩
        walk_at "dls"
        refine onT_nx (.cons (.cons (.cons (.cons (.cons (.cons (.cons (.skip (.skip (.cons (.cons .nil))))))))))) ?_
        have hro2 := hr1.set w.2[h] b1 h
        rw [List.set_set, set_self hrow] at hro2
        refine ⟨_, hro2, ?_⟩
        rw [List.reverse_cons, List.map_append, List.map_append]
        rfl
      · obtain ⟨ro, hr1, rfl⟩ := he
        rw [rangeD_len, Nat.sub_self, List.take_zero, List.drop_zero]
        walk_at "dls"
        refine ev_tup (ds := []) ?_
        refine av_cons ?_
        refine ev_v rfl ?_
        refine bnd_ok ?_
        refine av_cons ?_
        refine DL.ev_tupD ?_
        refine av_cons ?_
        refine ev_rev ?_
        refine ev_lF rfl (okRs_map _) ?_
        refine bnd_ok ⟨_, .d rfl, ?_⟩
        refine bnd_ok ?_
        refine av_nil ⟨_, _, _, rfl, rfl, ?_⟩
        rw [dats_map, ← List.map_reverse, List.reverse_reverse]
        walk_at "dls"
        refine ⟨[.int x, .tup (hs.map fun (h : Nat) => Dat.int h)], rfl, Nat.le_of_ble_eq_true rfl, ?_⟩
        walk_at "dls"
        walk_at "dlr"
        exact q

end
end K23

namespace K23
open PySem L2 Evl DL
local macro_rules | `(tactic| walk_at "dl") => `(tactic| first
  | with_reducible refine bnd_ok ?_ | with_reducible refine bndS_ok ?_ | with_reducible refine onE_ok ?_ | with_reducible refine seq_nx ?_ | with_reducible refine seq_rt ?_ | with_reducible refine seq_bk ?_ | with_reducible refine seq_ct ?_ | with_reducible refine onT_rt ?_ | with_reducible refine onT_bk ?_ | with_reducible refine resS_nx ?_ | with_reducible refine resS_rt ?_
  | refine ev_v rfl ?_ | refine ev_l rfl ?_ | with_reducible refine ev_i ?_ | with_reducible refine ev_n ?_ | with_reducible refine ev_b ?_ | with_reducible refine ev_s ?_
  | with_reducible refine ev_oZ0 ?_ | with_reducible refine ev_oB0 ?_ | with_reducible refine ev_oZ ?_ | with_reducible refine ev_neg ?_ | with_reducible refine ev_neI ?_ | with_reducible refine ev_eqI ?_ | with_reducible refine ev_isN ?_ | with_reducible refine ev_notN ?_ | with_reducible refine ev_chain ?_
  | with_reducible refine ev_andV ?_ | with_reducible refine ev_orV ?_ | with_reducible refine ev_notV ?_ | with_reducible refine ev_if ?_
  | with_reducible refine tv_test ?_ | with_reducible refine tv_B ?_ | with_reducible refine tv_and ?_ | with_reducible refine tv_or ?_ | with_reducible refine tv_not ?_ | with_reducible refine tv_yes ?_
  | with_reducible refine ev_isiInt ?_ | with_reducible refine ev_isiBool ?_ | with_reducible refine ev_isiSeq ?_
  | with_reducible refine av_cons ?_ | with_reducible refine av_nil ?_
  | with_reducible refine ev_pure ?_ | with_reducible refine ev_gcd ?_ | with_reducible refine ev_abs ?_ | with_reducible refine ev_int1 ?_
  | (with_reducible refine DL.ev_len ?_; refine av_cons ?_; refine ev_v rfl ?_; refine bnd_ok ?_; refine av_nil ?_; refine ⟨_, _, _, rfl, by first | rfl | assumption, ?_⟩)
  | with_reducible refine ev_fldD ?_ | with_reducible refine ev_ixS ?_
  | with_reducible refine sv_seq ?_ | with_reducible refine sv_next ?_ | with_reducible refine sv_brk ?_ | with_reducible refine sv_cont ?_ | with_reducible refine sv_ret ?_ | with_reducible refine sv_retN ?_ | with_reducible refine sv_if ?_ | with_reducible refine sv_drop ?_
  | with_reducible refine sv_asg ?_
  | refine ⟨_, rfl, fun hb => ?_, fun hb => ?_⟩
  | refine ⟨_, _, rfl, rfl, fun hb => ?_, fun hb => ?_⟩
  | refine ⟨_, _, rfl, rfl, ?_⟩
  | refine ⟨_, _, _, _, rfl, rfl, rfl, ?_⟩
  | refine ⟨_, rfl, ?_⟩ | refine ⟨_, _, rfl, ?_⟩
  | refine And.intro rfl ?_ | refine And.intro (Nat.le_of_ble_eq_true rfl) ?_ | refine And.intro (by assumption) ?_)
local macro_rules | `(tactic| walk_at "dls") => `(tactic| repeat (walk_at "dl"; all_goals try (first | (exact (nomatch ‹false = true›)) | (exact (nomatch ‹true = false›)))))
local macro_rules | `(tactic| walk_at "dla") => `(tactic| repeat' (first | (exact (nomatch ‹false = true›)) | (exact (nomatch ‹true = false›)) | walk_at "dl"))
local macro_rules | `(tactic| walk_at "dlr") => `(tactic| (refine ret_rt (pms_d _ _ (Nat.le_of_ble_eq_true rfl)) ?_))
local macro_rules | `(tactic| walk_at "dlt") => `(tactic| first | walk_at "dl" | with_reducible refine ev_tup2 ?_ | with_reducible refine ev_tup3 ?_)
local macro_rules | `(tactic| walk_at "dlts") => `(tactic| repeat walk_at "dlt")
section
variable {P : Program} {w : World} {K : PySem.W.Frag} [HasTabs K] {mg : Str → Option Value} {base : Heap} {CH CD : Addr}
abbrev s_law : Stmt := topS 62
abbrev N_law : List Str := ["script", "box", "marks", "turned", "rest", "letter", "length", "far", "turn", "laid", "crowd", "bad", "hands", "size", "number", "story", "logs", "hand", "fault", "many", "log"]
theorem sc_law : FnScope N_law ["script"] (defScope s_law) := ⟨rfl, rfl, rfl, by decide +kernel, rfl, by decide +kernel, by decide +kernel⟩
theorem cutD_drop (xs : List Dat) (h : Nat) (hh : h ≤ xs.length) : cutD xs (some (h : Int)) none = xs.drop h := by
  unfold cutD
  rw [show HT.sIx xs.length xs.length none = xs.length from rfl, HT.sIx_nat, Nat.min_eq_left hh]
  exact List.take_of_length_le (by rw [List.length_drop]; exact Nat.le_refl _)
theorem turn_mem {r : List Int} (hr : r ∈ rows0) {j : Nat} (hj : j < r.length) : turnI r j ∈ rows1 := List.mem_flatMap.mpr ⟨r, hr, List.mem_map.mpr ⟨j, List.mem_range.mpr hj, rfl⟩⟩
theorem rows0_len {r : List Int} (hr : r ∈ rows0) : 2 ≤ r.length ∧ r.length ≤ 4 := by
  have h : ∀ r ∈ rows0, 2 ≤ r.length ∧ r.length ≤ 4 := by decide
  exact h r hr
theorem rows_none : ∀ {ms : List Int} {ro : List Ow}, All2 (fun (_ : Int) (o : Ow) => ∃ b, o = .l b (([] : List Dat).map Ow.d)) ms ro → RowsOw (List.replicate ms.length []) ro := by
  intro ms ro h
  induction h with
  | nil => exact .nil
  | cons q t ih => exact .cons q ih
theorem Row.lastB {ms : List Int} (R : Row ms) {B : Int} (hB : restI ms ≤ B) : ∀ (n : Nat) (x : Int), 0 ≤ x → x ≤ B → lastI ms n x ≤ B
  | 0, _, _, h => h
  | n + 1, x, h0, h => by
    have g := R.sw.sm.g
    have hl : ms.length - 1 < ms.length := by have := g.1; omega
    refine Row.lastB R hB n _ (stepR_nn g hl h0) ?_
    rcases Int.lt_or_le (restI ms) x with z | z
    · have := R.above x z
      omega
    · have := stepR_mono g hl h0 z
      rw [R.fix] at this
      omega
theorem crowd_ok : ∀ r ∈ ([[2, 2], [1, 5], [2, 3, 6], [2, 2, 3], [1, 1]] : List (List Int)), Good r ∧ ¬ shT r < shB r := by
  intro r hr
  have h : (List.all ([[2, 2], [1, 5], [2, 3, 6], [2, 2, 3], [1, 1]] : List (List Int)) fun r => decide (2 ≤ r.length) && decide (r.length ≤ 8) && r.all (fun m => decide (1 ≤ m) && decide (m ≤ 60)) && !decide (shT r < shB r)) = true := by decide +kernel
  have h := List.all_eq_true.mp h r hr
  simp only [Bool.and_eq_true, decide_eq_true_eq, List.all_eq_true, Bool.not_eq_true', decide_eq_false_iff_not] at h
  exact ⟨⟨h.1.1.1, h.1.1.2, h.1.2⟩, h.2⟩
def lstI (r : List Int) : Dat := .lst (r.map Dat.int)
theorem ok_law {CR CE CT : Addr} {c PT : Addr} (T : Txt mg) (LR : ClRates K CT) (LH : ClHands K CH) (Hd : RefF K mg CR CE CH) (TB : LamX.TabB base mg c PT) (hmT : (PT, ("law.<locals>.<lambda>" : Str)) ∈ HasTabs.tt K) (hu : ∀ p ∈ HasTabs.tt K, p.1 = PT → p.2 = ("law.<locals>.<lambda>" : Str))
    (O__law_box : Ok P w K mg base 1 "_law_box" ["script", "k"] R_law_box) (O__law_take : Ok P w K mg base 1 "_law_take" ["box", "many"] R_law_take) (O__law_pick : Ok P w K mg base 2 "_law_pick" ["box", "some"] R_law_pick) (O__law_size : Ok P w K mg base 2 "_law_size" ["marks"] (pureR R_law_size))
    (O__law_rest : Ok P w K mg base 2 "_law_rest" ["marks", "size"] (pureR R_law_rest)) (O__law_rest_right : OkG P w K mg base 5 "_law_rest_right" ["box", "hands", "marks", "rest", "size"] (R_law_rest_right CH)) (O__law_length : Ok P w K mg base 2 "_law_length" ["marks", "size", "number", "rest"] (pureR R_law_length)) (O__law_greatest : Ok P w K mg base 2 "_law_greatest" ["marks", "size", "number", "length"] (pureR R_law_greatest))
    (O__law_step : Ok P w K mg base 1 "_law_step" ["marks", "size", "number", "hand"] (pureR R_law_step)) (O_Hands : OkC P w K mg base 5 "Hands" ["self", "marks"] CH (R_Hands CH)) (O_resting_number : Ok P w K mg base 4 "resting_number" ["hands"] (pureR (R_resting_number CH))) (OK_resting_number : OkK P w K mg base 4 "resting_number" ["hands"] (pureR (R_resting_number CH)))
    (O_swallow_length : Ok P w K mg base 5 "swallow_length" ["hands", "number"] (pureR (R_swallow_length CH))) (OK_swallow_length : OkK P w K mg base 5 "swallow_length" ["hands", "number"] (pureR (R_swallow_length CH))) (ON_greatest_number : OkN P w K mg base 4 "greatest_number" ["hands", "length"] "number" (pureR (R_greatest_number CH)))
    (ON_grow_logs : OkN P w K mg base 5 "grow_logs" ["hands", "story"] "number" (pureR (R_grow_logs CH))) (O_grow_story : Ok P w K mg base 6 "grow_story" ["hands", "logs", "number"] (pureR (R_grow_story CH))) (D__law_refused : Dfn K mg "_law_refused" "_law_refused" s__law_refused ["ask"])
    (OX_resting_number : OkX P w K mg base 4 "resting_number" ["hands"] (R_resting_numberX CH CR)) (OX_swallow_length : OkX P w K mg base 5 "swallow_length" ["hands", "number"] (R_swallow_lengthX CH CR))
    {f : Addr} {fd : FuncData} (F : Fun K "law" "law" s_law f fd) (hcode : fd.code = .ref c) : FnG P w K mg base 10 f fd ["script"] (spOf K R_lawS) := by
  refine fnG_ofC F hcode sc_law (by decide) (fun os Pp h => ?_) R_lawS_noex (fun f A outer s H E hgd hr => ⟨_, (pss_cons (ps_set (i := 1) sc_law.nd rfl (.inl rfl) (pe_fn O__law_box ⟨rfl, rfl, rfl, rfl, rfl⟩ (hr.mono (by decide)) rfl (pa_cons (pv 0) (pa_cons pe_int pa_nil)))) (pss_cons (ps_set (i := 2) sc_law.nd rfl (.inl rfl) (pe_fn O__law_pick ⟨rfl, rfl, rfl, rfl, rfl⟩ (hr.mono (by decide)) rfl (pa_cons (pv 1) (pa_cons (pe_lst (pa_cons (pe_lst (pa_cons pe_int (pa_cons pe_int pa_nil))) (pa_cons (pe_lst (pa_cons pe_int (pa_cons pe_int pa_nil))) (pa_cons (pe_lst (pa_cons pe_int (pa_cons pe_int pa_nil))) (pa_cons (pe_lst (pa_cons pe_int (pa_cons pe_int (pa_cons pe_int pa_nil)))) (pa_cons (pe_lst (pa_cons pe_int (pa_cons pe_int pa_nil))) (pa_cons (pe_lst (pa_cons pe_int (pa_cons pe_int (pa_cons pe_int pa_nil)))) (pa_cons (pe_lst (pa_cons pe_int (pa_cons pe_int (pa_cons pe_int (pa_cons pe_int pa_nil))))) (pa_cons (pe_lst (pa_cons pe_int (pa_cons pe_int (pa_cons pe_int pa_nil)))) (pa_cons (pe_lst (pa_cons pe_int (pa_cons pe_int (pa_cons pe_int pa_nil)))) (pa_cons (pe_lst (pa_cons pe_int (pa_cons pe_int (pa_cons pe_int pa_nil)))) pa_nil))))))))))) pa_nil)))) (pss_cons (ps_set (i := 3) sc_law.nd rfl (.inl rfl) (pe_fn O__law_take ⟨rfl, rfl, rfl, rfl, rfl⟩ (hr.mono (by decide)) rfl (pa_cons (pv 1) (pa_cons (pe_callB (r := rLenQ K) call_len_seq (by rfl) T.b_len (by decide +kernel) (pa_cons (pv 2) pa_nil)) pa_nil)))) (pss_cons (ps_set (i := 2) sc_law.nd rfl (.inl rfl) (pe_op op_cat (pe_slice (r := rSlL K) sl_list (pv 2) (po_some (pv 3)) po_none) (pe_slice (r := rSlL K) sl_list (pv 2) po_none (po_some (pv 3))))) (pss_cons (ps_par (i := 12) (j := 13) rfl sc_law.nd rfl rfl (by decide) rfl rfl (pa_cons (pe_cls O_Hands ⟨rfl, rfl, rfl, rfl, rfl⟩ (hr.mono (by decide)) rfl (pa_cons (pv 2) pa_nil)) (pa_cons (pe_fn O__law_size ⟨rfl, rfl, rfl, rfl, rfl⟩ (hr.mono (by decide)) rfl (pa_cons (pv 2) pa_nil)) pa_nil)) rfl) (pss_cons (ps_set (i := 4) sc_law.nd rfl (.inl rfl) (pe_fn O__law_rest ⟨rfl, rfl, rfl, rfl, rfl⟩ (hr.mono (by decide)) rfl (pa_cons (pv 2) (pa_cons (pv 13) pa_nil)))) (pss_cons (ps_if (pt_cmpR op_ne (pe_callB (r := rReprD K) (call_reprD hgd (units65 hr)) (by rfl) T.b_repr (by decide +kernel) (pa_cons (pe_lst (pa_cons (pe_fn O_resting_number ⟨rfl, rfl, rfl, rfl, rfl⟩ (hr.mono (by decide)) rfl (pa_cons (pv 12) pa_nil)) (pa_cons (pe_fnK OK_resting_number ⟨rfl, rfl, rfl, rfl, rfl⟩ (hr.mono (by decide)) rfl (pk_cons (pv 12) pk_nil)) pa_nil))) pa_nil)) (pe_callB (r := rReprD K) (call_reprD hgd (units65 hr)) (by rfl) T.b_repr (by decide +kernel) (pa_cons (pe_lst (pa_cons (pv 4) (pa_cons (pv 4) pa_nil))) pa_nil)) (nomark _)) (pss_one (ps_ret pe_bl)) pss_nil) (pss_cons (ps_if (pt_not (pt_val (pe_fnG O__law_rest_right ⟨rfl, rfl, rfl, rfl, rfl⟩ hgd (hr.mono (by decide)) rfl (pa_cons (pv 1) (pa_cons (pv 12) (pa_cons (pv 2) (pa_cons (pv 4) (pa_cons (pv 13) pa_nil)))))))) (pss_one (ps_ret pe_bl)) pss_nil) (pss_cons (ps_set (i := 5) sc_law.nd rfl (.inl rfl) (pe_fn O__law_pick ⟨rfl, rfl, rfl, rfl, rfl⟩ (hr.mono (by decide)) rfl (pa_cons (pv 1) (pa_cons (pe_lst (pa_cons (pe_fn O__law_take ⟨rfl, rfl, rfl, rfl, rfl⟩ (hr.mono (by decide)) rfl (pa_cons (pv 1) (pa_cons pe_int pa_nil))) (pa_cons (pe_fn O__law_take ⟨rfl, rfl, rfl, rfl, rfl⟩ (hr.mono (by decide)) rfl (pa_cons (pv 1) (pa_cons (pe_op op_pow pe_int pe_int) pa_nil))) (pa_cons (pe_op op_add (pe_op op_mul (pe_fn O__law_take ⟨rfl, rfl, rfl, rfl, rfl⟩ (hr.mono (by decide)) rfl (pa_cons (pv 1) (pa_cons (pe_op op_pow pe_int pe_int) pa_nil))) (pe_op op_pow pe_int pe_int)) pe_int) (pa_cons (pv 4) (pa_cons (pe_op op_add (pv 4) pe_int) pa_nil)))))) pa_nil)))) (pss_cons (ps_set (i := 6) sc_law.nd rfl (.inl rfl) (pe_fn O__law_length ⟨rfl, rfl, rfl, rfl, rfl⟩ (hr.mono (by decide)) rfl (pa_cons (pv 2) (pa_cons (pv 13) (pa_cons (pv 5) (pa_cons (pv 4) pa_nil)))))) (pss_cons (ps_if (pt_cmpR op_ne (pe_callB (r := rReprD K) (call_reprD hgd (units65 hr)) (by rfl) T.b_repr (by decide +kernel) (pa_cons (pe_lst (pa_cons (pe_fn O_swallow_length ⟨rfl, rfl, rfl, rfl, rfl⟩ (hr.mono (by decide)) rfl (pa_cons (pv 12) (pa_cons (pv 5) pa_nil))) (pa_cons (pe_fnK OK_swallow_length ⟨rfl, rfl, rfl, rfl, rfl⟩ (hr.mono (by decide)) rfl (pk_cons (pv 5) (pk_cons (pv 12) pk_nil))) pa_nil))) pa_nil)) (pe_callB (r := rReprD K) (call_reprD hgd (units65 hr)) (by rfl) T.b_repr (by decide +kernel) (pa_cons (pe_lst (pa_cons (pv 6) (pa_cons (pv 6) pa_nil))) pa_nil)) (nomark _)) (pss_one (ps_ret pe_bl)) pss_nil) (pss_cons (ps_set (i := 7) sc_law.nd rfl (.inl rfl) (pe_callB (r := rMin2) (call_min2 rfl) (by rfl) T.b_min (by decide +kernel) (pa_cons (pv 6) (pa_cons pe_int pa_nil)))) (pss_cons (ps_if (pt_cmpR op_ne (pe_fnN ON_greatest_number ⟨rfl, rfl, rfl, rfl, rfl⟩ (hr.mono (by decide)) rfl (pa_cons (pv 12) (pa_cons (pv 7) pa_nil)) (pk_cons (pv 5) pk_nil)) (pe_fn O__law_greatest ⟨rfl, rfl, rfl, rfl, rfl⟩ (hr.mono (by decide)) rfl (pa_cons (pv 2) (pa_cons (pv 13) (pa_cons (pv 5) (pa_cons (pv 7) pa_nil))))) (nomark _)) (pss_one (ps_ret pe_bl)) pss_nil) (pss_cons (ps_par3 (i := 14) (j := 15) (l := 16) rfl sc_law.nd rfl rfl rfl (by decide) (by decide) (by decide) rfl rfl rfl (pa_cons (pv 5) (pa_cons (pe_lst pa_nil) (pa_cons (pe_lc (own := [("many", 19)]) (g := gName 19) (tt := tYes) rfl sc_law.nd (pi_anyK (K := K) rfl (pv 2)) (blkOk_by (own := [("many", 19)]) (N := N_law) (sc := defScope s_law) (by decide +kernel)) (fun _ _ _ _ _ => (pg_name (i := 19) sc_law.nd rfl (.inl rfl))) (fun _ _ _ _ _ => pts_nil) (fun _ _ _ _ _ => (pe_lst pa_nil))) pa_nil))) rfl) (pss_cons (ps_for PassesOwn.never rfl (pi_range1 (by rfl) T.b_range (pa_cons (pe_callB (r := rMin2) (call_min2 rfl) (by rfl) T.b_min (by decide +kernel) (pa_cons (pv 6) (pa_cons pe_int pa_nil))) pa_nil)) (pg_name (i := 8) sc_law.nd rfl (.inl rfl)) (pss_cons (ps_set (i := 1) sc_law.nd rfl (.inl rfl) (pe_ifExp (pt_cmpR op_eq (pe_op op_mod (pe_callTy call_int1 (by rfl) T.b_int (by decide +kernel) (pa_cons (pv 8) pa_nil)) pe_int) pe_int (nomark _)) (pe_fn O__law_box ⟨rfl, rfl, rfl, rfl, rfl⟩ (hr.mono (by decide)) rfl (pa_cons (pv 0) (pa_cons (pe_op op_add pe_int (pe_op op_fdiv (pv 8) pe_int)) pa_nil))) (pv 1))) (pss_cons (ps_set (i := 17) sc_law.nd rfl (.inl rfl) (pe_ifExp (pt_cmpR op_gt (pe_fn O__law_take ⟨rfl, rfl, rfl, rfl, rfl⟩ (hr.mono (by decide)) rfl (pa_cons (pv 1) (pa_cons pe_int pa_nil))) pe_int (nomark _)) (pe_fn O__law_take ⟨rfl, rfl, rfl, rfl, rfl⟩ (hr.mono (by decide)) rfl (pa_cons (pv 1) (pa_cons (pe_callB (r := rLenQ K) call_len_seq (by rfl) T.b_len (by decide +kernel) (pa_cons (pv 2) pa_nil)) pa_nil))) (pe_op op_sub (pe_callB (r := rLenQ K) call_len_seq (by rfl) T.b_len (by decide +kernel) (pa_cons (pv 2) pa_nil)) pe_int))) (pss_cons (ps_expr (pe_bmK (K := K) rfl PySem.F.plainAttrs_list PySem.F.slot_list_append PySem.F.type_list_append mt_append (pe_ix (r := rIxL K) ix_list (pv 16) (pv 17) (fun _ _ => rfl)) (pa_cons (pe_op op_mod (pe_callTy call_int1 (by rfl) T.b_int (by decide +kernel) (pa_cons (pv 14) pa_nil)) (pe_ix (r := rIx K) ix_seq (pv 2) (pv 17) (fun _ _ => rfl))) pa_nil))) (pss_cons (ps_set (i := 14) sc_law.nd rfl (.inl rfl) (pe_fn O__law_step ⟨rfl, rfl, rfl, rfl, rfl⟩ (hr.mono (by decide)) rfl (pa_cons (pv 2) (pa_cons (pv 13) (pa_cons (pv 14) (pa_cons (pv 17) pa_nil)))))) (pss_one (ps_expr (pe_bmK (K := K) rfl PySem.F.plainAttrs_list PySem.F.slot_list_append PySem.F.type_list_append mt_append (pv 15) (pa_cons (pv 17) pa_nil))))))))) (pss_cons (ps_if (PW.pt (pw_and (pt_cmpR op_le (pv 6) pe_int (nomark _)) (pw_and1 (pt_cmpR op_gt (pv 14) (pv 4) (nomark _))))) (pss_one (ps_ret pe_bl)) pss_nil) (pss_cons (ps_set (i := 9) sc_law.nd rfl (.inl rfl) (pe_callTy (r := rTupO K) call_tuple_of (by rfl) T.b_tuple (by decide +kernel) (pa_cons (pe_lc (own := [("log", 20)]) (g := gName 20) (tt := tYes) rfl sc_law.nd (pi_anyK (K := K) rfl (pv 16)) (blkOk_by (own := [("log", 20)]) (N := N_law) (sc := defScope s_law) (by decide +kernel)) (fun _ _ _ _ _ => (pg_name (i := 20) sc_law.nd rfl (.inl rfl))) (fun _ _ _ _ _ => pts_nil) (fun _ _ _ _ _ => (pe_callTy (r := rTupO K) call_tuple_of (by rfl) T.b_tuple (by decide +kernel) (pa_cons (pv 20) pa_nil)))) pa_nil))) (pss_cons (ps_if (pt_cmpR op_ne (pe_callB (r := rReprD K) (call_reprD hgd (units65 hr)) (by rfl) T.b_repr (by decide +kernel) (pa_cons (pe_fnN ON_grow_logs ⟨rfl, rfl, rfl, rfl, rfl⟩ (hr.mono (by decide)) rfl (pa_cons (pv 12) (pa_cons (pv 15) pa_nil)) (pk_cons (pv 5) pk_nil)) pa_nil)) (pe_callB (r := rReprD K) (call_reprD hgd (units65 hr)) (by rfl) T.b_repr (by decide +kernel) (pa_cons (pe_tup (pa_cons (pv 14) (pa_cons (pv 9) pa_nil))) pa_nil)) (nomark _)) (pss_one (ps_ret pe_bl)) pss_nil) (pss_cons (ps_if (pt_cmpR op_ne (pe_callB (r := rReprD K) (call_reprD hgd (units65 hr)) (by rfl) T.b_repr (by decide +kernel) (pa_cons (pe_fn O_grow_story ⟨rfl, rfl, rfl, rfl, rfl⟩ (hr.mono (by decide)) rfl (pa_cons (pv 12) (pa_cons (pv 9) (pa_cons (pv 14) pa_nil)))) pa_nil)) (pe_callB (r := rReprD K) (call_reprD hgd (units65 hr)) (by rfl) T.b_repr (by decide +kernel) (pa_cons (pe_tup (pa_cons (pv 5) (pa_cons (pe_callTy (r := rTupO K) call_tuple_of (by rfl) T.b_tuple (by decide +kernel) (pa_cons (pv 15) pa_nil)) pa_nil))) pa_nil)) (nomark _)) (pss_one (ps_ret pe_bl)) pss_nil) (pss_cons (ps_set (i := 1) sc_law.nd rfl (.inl rfl) (pe_fn O__law_box ⟨rfl, rfl, rfl, rfl, rfl⟩ (hr.mono (by decide)) rfl (pa_cons (pv 0) (pa_cons pe_int pa_nil)))) (pss_cons (ps_set (i := 10) sc_law.nd rfl (.inr rfl) (pe_cls O_Hands ⟨rfl, rfl, rfl, rfl, rfl⟩ (hr.mono (by decide)) rfl (pa_cons (pe_fn O__law_pick ⟨rfl, rfl, rfl, rfl, rfl⟩ (hr.mono (by decide)) rfl (pa_cons (pv 1) (pa_cons (pe_lst (pa_cons (pe_lst (pa_cons pe_int (pa_cons pe_int pa_nil))) (pa_cons (pe_lst (pa_cons pe_int (pa_cons pe_int pa_nil))) (pa_cons (pe_lst (pa_cons pe_int (pa_cons pe_int (pa_cons pe_int pa_nil)))) (pa_cons (pe_lst (pa_cons pe_int (pa_cons pe_int (pa_cons pe_int pa_nil)))) (pa_cons (pe_lst (pa_cons pe_int (pa_cons pe_int pa_nil))) pa_nil)))))) pa_nil))) pa_nil))) (pss_cons (ps_set (i := 11) sc_law.nd rfl (.inr rfl) (pe_fn O__law_pick ⟨rfl, rfl, rfl, rfl, rfl⟩ (hr.mono (by decide)) rfl (pa_cons (pv 1) (pa_cons (pe_lst (pa_cons pe_int (pa_cons (pe_op op_sub pe_int pe_int) (pa_cons pe_non pa_nil)))) pa_nil)))) (pss_cons (ps_if (pt_cmpR op_notB (pe_lam (K := K) (mg := mg) (T := HasTabs.tt K) (k := 6) ⟨rfl, rfl⟩ D__law_refused sc__law_refused (.inl rfl) (refused_rule (CE := CE) (CR := CR) (K := K) (mg := mg) T Hd ⟨rfl, rfl⟩) TB rfl hmT hu (hr.mono (by decide)) rfl (LamX.lamS_by (show LamX.lamSB (defScope s_law) _ = true by decide +kernel)) (fun A outer s H E f c' hr => (pe_fnX (E := E) OX_resting_number (takes_of rfl rfl rfl rfl) ⟨rfl, rfl, rfl, rfl, rfl⟩ (hr.mono (by decide)) rfl (pa_cons (pv 10) pa_nil)))) pe_bl (nomark _)) (pss_one (ps_ret pe_bl)) pss_nil) (pss_cons (ps_if (pt_cmpR op_notB (pe_lam (K := K) (mg := mg) (T := HasTabs.tt K) (k := 6) ⟨rfl, rfl⟩ D__law_refused sc__law_refused (.inl rfl) (refused_rule (CE := CE) (CR := CR) (K := K) (mg := mg) T Hd ⟨rfl, rfl⟩) TB rfl hmT hu (hr.mono (by decide)) rfl (LamX.lamS_by (show LamX.lamSB (defScope s_law) _ = true by decide +kernel)) (fun A outer s H E f c' hr => (pe_fnX (E := E) OX_swallow_length (takes_of rfl rfl rfl rfl) ⟨rfl, rfl, rfl, rfl, rfl⟩ (hr.mono (by decide)) rfl (pa_cons (pv 10) (pa_cons (pv 11) pa_nil))))) pe_bl (nomark _)) (pss_one (ps_ret pe_bl)) pss_nil) (pss_one (ps_tryX (i := 18) (te := fun b cls d => tOp rIsN (tXf b cls d CR "at" (tVar 18)) (tC .non)) rfl rfl sc_law.nd rfl rfl LamX.takes0 rfl Hd.mR (fun a oe cls d pn hz hf => (pe_cmpR op_isN1 (pe_xf Hd.x Hd.n hz hf (pv 18)) pe_non (nomark _))) (fun E pn xe tk po => (pss_cons (ps_expr (pe_fnX (E := E) OX_swallow_length tk ⟨rfl, rfl, rfl, rfl, rfl⟩ (hr.mono (by decide)) rfl (pa_cons (pv 12) (pa_cons pe_non pa_nil)))) (pss_one (ps_ret pe_bl)))))))))))))))))))))))))))))), fun os Pp h => ?_⟩)
  · obtain ⟨ns, rfl, hl, q⟩ := h
    rfl
  · obtain ⟨ns, rfl, hl, q⟩ := h
    show SvP K E0 _ [some (.d (.scr ns)), none, none, none, none, none, none, none, none, none, none, none, none, none, none, none, none, none, none, none, none] _
    walk_at "dls"
    refine ev_call ?_
    walk_at "dls"
    refine ⟨by decide, by decide, fun a g1 s1 => ?_⟩
    simp only [bks, bk, List.set, bkG_d, bkG_at, bkG_n]
    walk_at "dls"
    refine ev_call ?_
    walk_at "dls"
    refine DL.ev_lst ?_
    repeat (first
      | (refine av_cons ?_; refine DL.ev_lst ?_; walk_at "dls"; first | refine ⟨[.int _, .int _], rfl, Nat.le_of_ble_eq_true rfl, ?_⟩ | refine ⟨[.int _, .int _, .int _], rfl, Nat.le_of_ble_eq_true rfl, ?_⟩ | refine ⟨[.int _, .int _, .int _, .int _], rfl, Nat.le_of_ble_eq_true rfl, ?_⟩)
      | refine bnd_ok ?_)
    refine av_nil ⟨rows0.map lstI, rfl, by decide, ?_⟩
    refine bnd_ok (av_nil ⟨a, g1, s1, _, rfl, by decide, by decide, fun x hx g2 s2 => ?_⟩)
    obtain ⟨r, hr, rfl⟩ := List.mem_map.mp hx
    have hrl := rows0_len hr
    simp only [bks, bk, List.set, bkG_d, bkG_at, bkG_n]
    walk_at "dls"
    refine ev_call ?_
    walk_at "dls"
    refine DL.ev_len ?_
    walk_at "dls"
    refine ⟨_, _, _, rfl, rfl, ?_⟩
    rw [List.length_map]
    walk_at "dls"
    refine ⟨a, g2, s2, r.length, rfl, by omega, by omega, fun j0 g3 s3 h1 h2 => ?_⟩
    obtain ⟨j, rfl⟩ : ∃ j : Nat, j0 = (j : Int) := ⟨j0.toNat, by omega⟩
    have hj : j < r.length := by omega
    simp only [bks, bk, List.set, bkG_d, bkG_at, bkG_n]
    walk_at "dls"
    refine ev_cat ?_
    refine ev_slL ?_
    walk_at "dls"
    refine ev_slU ?_
    walk_at "dls"
    refine ⟨_, _, .d rfl, .d rfl, ?_, ?_⟩
    · have a1 := cutD_len (r.map Dat.int) (some (j : Int)) none
      have a2 := cutD_len (r.map Dat.int) none (some (j : Int))
      rw [List.length_map] at a1 a2
      omega
    rw [cutD_drop _ j (by rw [List.length_map]; omega), cutD_take, ← List.map_drop, ← List.map_take, ← List.map_append]
    rw [show r.drop j ++ r.take j = turnI r j from rfl]
    have R : Row (turnI r j) := row_of (turn_mem hr hj)
    generalize turnI r j = ms at R
    have hg := R.sw.sm.g
    have hl1 := hg.1
    have hl4 := R.len4
    simp only [bks, bk, List.set, bkG_d, bkG_at, bkG_n]
    walk_at "dls"
    refine sv_par ?_
    refine av_cons ?_
    refine DL.ev_make ?_ R_Hands_mono
    refine av_cons (ev_v rfl (bnd_ok (av_nil fun x => ?_)))
    refine ⟨x, .lst (ms.map Dat.int), false, ms, rfl, rfl, rfl, hg, rfl, _, _, rfl, ?_⟩
    walk_at "dls"
    refine ⟨[.lst (ms.map Dat.int)], _, rfl, ⟨ms, rfl, R, rfl⟩, ?_⟩
    walk_at "dls"
    refine ⟨[.lst (ms.map Dat.int), .int (lcI ms)], _, rfl, ⟨ms, rfl, R, rfl⟩, ?_⟩
    have hr0 := R.r0
    have hr1 := R.r1
    have hlc := R.lc
    have hL := lcI_pos hg
    refine bndS_ok ⟨Nat.le_of_ble_eq_true rfl, seq_nx ?_⟩
    simp only [bks, bk, List.set, bkG_d, bkG_at, bkG_n]
    have hshR : Shw 1 200 (.lst [.int (restI ms), .int (restI ms)]) := shw_lst (n := 0) (c := 36) (fun z hz => by
      rcases List.mem_cons.mp hz with e | hz
      · rw [e]; exact shw_intW (by omega)
      · rcases List.mem_cons.mp hz with e | hz
        · rw [e]; exact shw_intW (by omega)
        · cases hz) (show 2 * 36 + 2 * 2 + 3 ≤ 200 by decide)
    refine sv_seq ?_
    refine sv_if ?_
    refine tv_test ?_
    refine ev_neS ?_
    refine ev_repr ?_
    refine av_cons ?_
    refine DL.ev_lst ?_
    refine av_cons ?_
    refine ev_pure ?_
    walk_at "dls"
    refine ⟨[hObj CH ms], _, rfl, ⟨ms, rfl, R.sw, rfl⟩, ?_⟩
    refine bnd_ok ?_
    refine av_cons ?_
    refine ev_callK ?_
    refine av_cons (ev_v rfl (bnd_ok (av_nil ⟨[hObj CH ms], _, rfl, ⟨ms, rfl, R.sw, rfl⟩, ?_⟩)))
    refine bnd_ok (av_nil ⟨[.int (restI ms), .int (restI ms)], rfl, by show 2 ≤ 100000; decide, ?_⟩)
    refine bnd_ok (av_nil ⟨_, rfl, hshR.ok (by decide) (by decide), ?_⟩)
    refine bnd_ok ?_
    refine ev_repr ?_
    refine av_cons ?_
    refine DL.ev_lst ?_
    refine av_cons (ev_v rfl (bnd_ok (av_cons (ev_v rfl (bnd_ok (av_nil ⟨[.int (restI ms), .int (restI ms)], rfl, by show 2 ≤ 100000; decide, ?_⟩))))))
    refine bnd_ok (av_nil ⟨_, rfl, hshR.ok (by decide) (by decide), ?_⟩)
    refine bnd_ok ⟨_, _, rfl, rfl, ?_⟩
    refine bnd_ok ⟨_, rfl, ?_⟩
    rw [decide_eq_true rfl]
    refine bndS_ok ⟨false, rfl, fun h => absurd h Bool.false_ne_true, fun _ => ?_⟩
    refine sv_next ?_
    refine seq_nx ?_
    simp only [bks_d]
    refine sv_seq ?_
    refine sv_if ?_
    walk_at "dls"
    refine ev_call ?_
    walk_at "dls"
    refine ⟨a, g3, s3, ms, rfl, R, fun g4 s4 => ?_⟩
    simp only [bks, bk, List.set, bkG_d, bkG_at, bkG_n]
    walk_at "dls"
    refine ev_call ?_
    refine av_box rfl ?_
    refine DL.ev_lst ?_
    refine av_cons ?_
    refine ev_call ?_
    walk_at "dls"
    refine ⟨a, g4, s4, 1000, rfl, by decide, by decide, fun l1 g5 s5 p1 p2 => ?_⟩
    simp only [bks, bk, List.set, bkG_d, bkG_at, bkG_n]
    refine bnd_ok (av_cons ?_)
    refine ev_call ?_
    walk_at "dls"
    refine ⟨⟨by decide, by decide, by decide⟩, ?_⟩
    refine bnd_ok (av_nil ⟨a, g5, s5, _, rfl, by decide, by decide, fun l2 g6 s6 p3 p4 => ?_⟩)
    simp only [bks, bk, List.set, bkG_d, bkG_at, bkG_n]
    refine bnd_ok (av_cons ?_)
    walk_at "dls"
    refine ev_call ?_
    walk_at "dls"
    refine ⟨⟨by decide, by decide, by decide⟩, ?_⟩
    refine bnd_ok (av_nil ⟨a, g6, s6, _, rfl, by decide, by decide, fun l3 g7 s7 p5 p6 => ?_⟩)
    simp only [bks, bk, List.set, bkG_d, bkG_at, bkG_n]
    have p6 : l3 < 1000000000 := p6
    have p4 : l2 < 1000000000 := p4
    walk_at "dls"
    refine ⟨⟨by decide, by decide, by decide⟩, ?_⟩
    walk_at "dls"
    refine ⟨.inl ⟨by omega, by omega⟩, ?_⟩
    walk_at "dls"
    refine ⟨[.int l1, .int l2, .int (l3 * 10 ^ (21 : Int).toNat + 7), .int (restI ms), .int (restI ms + 1)], rfl, by show 5 ≤ 100000; decide, ?_⟩
    refine bnd_ok ⟨_, rfl, ?_⟩
    refine ⟨a, g7, s7, _, rfl, by show 0 < 5; decide, by show 5 < 1000; decide, fun x2 hx2 g8 s8 => ?_⟩
    obtain ⟨le, rfl, hle0, hle1⟩ : ∃ le : Int, x2 = .int le ∧ 0 ≤ le ∧ le ≤ 1000000000000000000000000000007 := by
      have e21 : (10 : Int) ^ (21 : Int).toNat = 1000000000000000000000 := by decide
      rcases List.mem_cons.mp hx2 with z | hx2
      · exact ⟨_, z, p1, by omega⟩
      · rcases List.mem_cons.mp hx2 with z | hx2
        · exact ⟨_, z, p3, by omega⟩
        · rcases List.mem_cons.mp hx2 with z | hx2
          · exact ⟨_, z, by rw [e21]; omega, by rw [e21]; omega⟩
          · rcases List.mem_cons.mp hx2 with z | hx2
            · exact ⟨_, z, by omega, by omega⟩
            · rcases List.mem_cons.mp hx2 with z | hx2
              · exact ⟨_, z, by omega, by omega⟩
              · cases hx2
    simp only [bks, bk, List.set, bkG_d, bkG_at, bkG_n]
    obtain ⟨n, hn, hsw⟩ := R.swal hle0 hle1
    walk_at "dls"
    refine ⟨[.lst (ms.map Dat.int), .int (lcI ms), .int le, .int (restI ms)], _, rfl, ⟨ms, le, _, n, rfl, R.sw.sm, hle0, hsw, by omega, rfl⟩, ?_⟩
    refine bndS_ok ⟨Nat.le_of_ble_eq_true rfl, seq_nx ?_⟩
    simp only [bks, bk, List.set, bkG_d, bkG_at, bkG_n]
    have hshN : Shw 1 200 (.lst [.int (n : Int), .int (n : Int)]) := shw_lst (n := 0) (c := 36) (fun z hz => by
      rcases List.mem_cons.mp hz with e | hz
      · rw [e]; exact shw_intW (by omega)
      · rcases List.mem_cons.mp hz with e | hz
        · rw [e]; exact shw_intW (by omega)
        · cases hz) (show 2 * 36 + 2 * 2 + 3 ≤ 200 by decide)
    refine sv_seq ?_
    refine sv_if ?_
    refine tv_test ?_
    refine ev_neS ?_
    refine ev_repr ?_
    refine av_cons ?_
    refine DL.ev_lst ?_
    refine av_cons ?_
    refine ev_pure ?_
    walk_at "dls"
    refine ⟨[hObj CH ms, .int le], _, rfl, ⟨ms, le, n, rfl, R.sw, hle0, hsw, rfl⟩, ?_⟩
    refine bnd_ok ?_
    refine av_cons ?_
    refine ev_callK ?_
    refine av_cons (ev_v rfl (bnd_ok (av_cons (ev_v rfl (bnd_ok (av_nil ⟨[hObj CH ms, .int le], _, rfl, ⟨ms, le, n, rfl, R.sw, hle0, hsw, rfl⟩, ?_⟩))))))
    refine bnd_ok (av_nil ⟨[.int n, .int n], rfl, by show 2 ≤ 100000; decide, ?_⟩)
    refine bnd_ok (av_nil ⟨_, rfl, hshN.ok (by decide) (by decide), ?_⟩)
    refine bnd_ok ?_
    refine ev_repr ?_
    refine av_cons ?_
    refine DL.ev_lst ?_
    refine av_cons (ev_v rfl (bnd_ok (av_cons (ev_v rfl (bnd_ok (av_nil ⟨[.int n, .int n], rfl, by show 2 ≤ 100000; decide, ?_⟩))))))
    refine bnd_ok (av_nil ⟨_, rfl, hshN.ok (by decide) (by decide), ?_⟩)
    refine bnd_ok ⟨_, _, rfl, rfl, ?_⟩
    refine bnd_ok ⟨_, rfl, ?_⟩
    rw [decide_eq_true rfl]
    refine bndS_ok ⟨false, rfl, fun h => absurd h Bool.false_ne_true, fun _ => ?_⟩
    refine sv_next ?_
    refine seq_nx ?_
    simp only [bks_d]
    refine sv_seq ?_
    refine sv_asg ?_
    refine ev_min2 ?_
    walk_at "dls"
    obtain ⟨fr, hfr, hf4⟩ : ∃ fr : Nat, (if (400 : Int) < (n : Int) then 400 else (n : Int)) = (fr : Int) ∧ fr ≤ 400 := by
      by_cases z : (400 : Int) < (n : Int)
      · exact ⟨400, by rw [if_pos z]; rfl, Nat.le_refl _⟩
      · exact ⟨n, by rw [if_neg z], by omega⟩
    rw [hfr]
    refine ev_callN ?_
    refine av_cons (ev_v rfl (bnd_ok (av_cons (ev_v rfl (bnd_ok (av_nil ?_))))))
    refine av_cons (ev_v rfl (bnd_ok (av_nil ⟨rfl, rfl, ?_⟩)))
    refine ⟨[hObj CH ms, .int fr, .int le], _, rfl, ⟨ms, fr, le, rfl, R.sw.sm, hle0, hf4, rfl⟩, ?_⟩
    refine bnd_ok ?_
    walk_at "dls"
    refine ⟨[.lst (ms.map Dat.int), .int (lcI ms), .int le, .int fr], _, rfl, ⟨ms, le, fr, rfl, R.sw.sm, hle0, by omega, rfl⟩, ?_⟩
    refine bnd_ok ⟨_, _, rfl, rfl, ?_⟩
    refine bnd_ok ⟨_, rfl, ?_⟩
    refine bndS_ok ⟨_, rfl, fun h => by simp at h, fun _ => ?_⟩
    refine sv_next ?_
    refine seq_nx ?_
    simp only [bks_d]
    refine sv_seq ?_
    refine sv_par3 ?_
    refine av_cons (ev_v rfl (bnd_ok (av_cons ?_)))
    refine ev_lsto (av_nil ⟨Nat.le_of_ble_eq_true rfl, fun b => ?_⟩)
    refine bnd_ok (av_cons ?_)
    refine ev_lcR (ws := [19]) Dat.int (fun (_ : Int) (o : Ow) => ∃ b, o = .l b (([] : List Dat).map Ow.d)) (by decide) ?_
    refine iv_any ?_
    refine ev_v rfl (bnd_ok ⟨_, _, _, rfl, rfl, ms, rfl, by omega, fun m hm => ?_, fun ro hro lb => ?_⟩)
    · refine gv_name (Nat.le_of_ble_eq_true rfl) ?_
      refine ev_lsto (av_nil ⟨Nat.le_of_ble_eq_true rfl, fun a => ?_⟩)
      exact ⟨⟨a, rfl⟩, rfl⟩
    have hro := rows_none hro
    refine bnd_ok (av_nil ⟨_, _, _, rfl, Nat.le_of_ble_eq_true rfl, Nat.le_of_ble_eq_true rfl, Nat.le_of_ble_eq_true rfl, ?_⟩)
    refine seq_nx ?_
    refine sv_seq ?_
    refine sv_for (ws := [8]) ?_
    refine iv_rng1 ?_
    refine av_cons ?_
    refine ev_min2 ?_
    walk_at "dls"
    obtain ⟨tr, htr, htr3⟩ : ∃ tr : Nat, (if (300 : Int) < (n : Int) then 300 else (n : Int)) = (tr : Int) ∧ tr ≤ 300 := by
      by_cases z : (300 : Int) < (n : Int)
      · exact ⟨300, by rw [if_pos z]; rfl, Nat.le_refl _⟩
      · exact ⟨n, by rw [if_neg z], by omega⟩
    rw [htr]
    refine ⟨by omega, by omega, ?_⟩
    rw [Int.toNat_natCast]
    refine loop_inv (fun i ρ' => ∃ (a5 : Addr) (g5 s5 : Int) (hs : List Nat) (ro : List Ow), ρ' = [some (.d (.scr ns)), some (boxO a5 g5 s5), some (.d (.lst (ms.map Dat.int))), some (.d (.int j)), some (.d (.int (restI ms))), some (.d (.int le)), some (.d (.int n)), some (.d (.int fr)), none, none, none, none, some (.d (.obj CH (fsH ms))), some (.d (.int (lcI ms))), some (.d (.int (grI ms le hs).1)), some (.l b ((hs.map fun (h : Nat) => Dat.int h).map Ow.d)), some (.l lb ro), none, none, none, none] ∧ hs.length = i ∧ (∀ h ∈ hs, h < ms.length) ∧ RowsOw (grI ms le hs).2 ro) ⟨a, g8, s8, [], ro, rfl, rfl, fun h hh => absurd hh List.not_mem_nil, hro⟩ (fun i d ρ' hi he => ?_) (fun ρ' he => ?_)
    · obtain ⟨a5, g5, s5, hs, ro, rfl, hsl, hb, hro⟩ := he
      have hil : i < tr := by
        have := (List.getElem?_eq_some_iff.mp hi).1
        rw [rangeD_len] at this
        exact this
      rw [rangeD_get hil] at hi
      cases hi
      refine gv_name (Nat.le_of_ble_eq_true rfl) ?_
      refine sv_seq ?_
      refine sv_asg ?_
      refine ev_mid (fun o ρ1 => ∃ (a6 : Addr) (g6 s6 : Int) (u : Option Ow), o = boxO a6 g6 s6 ∧ ρ1 = [some (.d (.scr ns)), u, some (.d (.lst (ms.map Dat.int))), some (.d (.int j)), some (.d (.int (restI ms))), some (.d (.int le)), some (.d (.int n)), some (.d (.int fr)), some (.d (.int (0 + (i : Int)))), none, none, none, some (.d (.obj CH (fsH ms))), some (.d (.int (lcI ms))), some (.d (.int (grI ms le hs).1)), some (.l b ((hs.map fun (h : Nat) => Dat.int h).map Ow.d)), some (.l lb ro), none, none, none, none]) ?_ ?_
      · refine ev_if ?_
        walk_at "dls"
        refine ⟨show (0 : Int) < 8 by decide, ?_⟩
        walk_at "dls"
        · refine ev_call ?_
          walk_at "dls"
          refine ⟨⟨by omega, by omega⟩, ?_⟩
          walk_at "dls"
          refine ⟨by omega, by omega, fun a6 g6 s6 => ?_⟩
          simp only [bks, bk, List.set, bkG_d, bkG_at, bkG_n]
          exact ⟨_, _, _, _, rfl, rfl⟩
        · refine ev_l rfl ?_
          exact bnd_ok ⟨_, _, _, _, rfl, rfl⟩
      rintro o ρ1 ⟨a6, g6, s6, u, rfl, rfl⟩
      refine bndS_ok ⟨Nat.le_of_ble_eq_true rfl, seq_nx ?_⟩
      simp only [List.set]
      refine sv_seq ?_
      refine sv_asg ?_
      refine ev_mid (fun o ρ1 => ∃ (h : Nat) (g7 s7 : Int), o = .d (.int h) ∧ h < ms.length ∧ ρ1 = [some (.d (.scr ns)), some (boxO a6 g7 s7), some (.d (.lst (ms.map Dat.int))), some (.d (.int j)), some (.d (.int (restI ms))), some (.d (.int le)), some (.d (.int n)), some (.d (.int fr)), some (.d (.int (0 + (i : Int)))), none, none, none, some (.d (.obj CH (fsH ms))), some (.d (.int (lcI ms))), some (.d (.int (grI ms le hs).1)), some (.l b ((hs.map fun (h : Nat) => Dat.int h).map Ow.d)), some (.l lb ro), none, none, none, none]) ?_ ?_
      · refine ev_if ?_
        walk_at "dls"
        refine ev_call ?_
        walk_at "dls"
        refine ⟨a6, g6, s6, 6, rfl, by decide, by decide, fun v g7 s7 w1 w2 => ?_⟩
        simp only [bks, bk, List.set, bkG_d, bkG_at, bkG_n]
        walk_at "dls"
        · refine ev_call ?_
          walk_at "dls"
          refine DL.ev_len ?_
          walk_at "dls"
          refine ⟨_, _, _, rfl, rfl, ?_⟩
          rw [List.length_map]
          walk_at "dls"
          refine ⟨a6, g7, s7, ms.length, rfl, by omega, by omega, fun v2 g8 s8 w3 w4 => ?_⟩
          simp only [bks, bk, List.set, bkG_d, bkG_at, bkG_n]
          obtain ⟨h, rfl⟩ : ∃ h : Nat, v2 = (h : Int) := ⟨v2.toNat, by omega⟩
          exact ⟨h, _, _, rfl, by omega, rfl⟩
        · walk_at "dls"
          refine DL.ev_len ?_
          walk_at "dls"
          refine ⟨_, _, _, rfl, rfl, ?_⟩
          rw [List.length_map]
          walk_at "dls"
          rw [show ((ms.length : Int) - 1) = ((ms.length - 1 : Nat) : Int) by omega]
          exact ⟨_, _, _, rfl, by omega, rfl⟩
      rintro o ρ1 ⟨h, g7, s7, rfl, hh, rfl⟩
      refine bndS_ok ⟨Nat.le_of_ble_eq_true rfl, seq_nx ?_⟩
      simp only [List.set]
      obtain ⟨m, w0, p⟩ := hg.part hh
      have hm1 := p.m1
      have hnn : 0 ≤ (grI ms le hs).1 := gr_nn hg hs _ hb hle0
      have hwl : (grI ms le hs).2.length = ms.length := gr_rows ms hs _ (by simp)
      have hwr : ∀ r ∈ (grI ms le hs).2, r.length ≤ 400 := fun r hr => by
        have := gr_rowlen ms hs (le, List.replicate ms.length []) 0 (fun r hr => by rw [List.eq_of_mem_replicate hr]; simp) r hr
        omega
      have hsn := grF_snoc ms le hs h
      generalize hW : grI ms le hs = W at hro hnn hwl hwr hsn ⊢
      have hrow := List.getElem?_eq_getElem (l := W.2) (i := h) (by omega)
      obtain ⟨b1, hb1⟩ := hro.get hrow
      walk_at "dls"
      refine ev_app2 ⟨lb, ro, rfl⟩ ?_
      walk_at "dls"
      refine ⟨lb, b1, ro, _, h, rfl, rfl, hb1, by rw [List.length_map, List.length_map]; have := hwr _ (List.mem_of_getElem? hrow); omega, ?_⟩
      walk_at "dls"
      refine ⟨_, _, _, _, _, rfl, rfl, rfl, p.mx, ?_⟩
      walk_at "dls"
      refine ⟨[.lst (ms.map Dat.int), .int (lcI ms), .int W.1, .int h], _, rfl, ⟨ms, W.1, h, rfl, R.sw.sm, hnn, hh, rfl⟩, ?_⟩
      walk_at "dls"
      refine ev_app ⟨b, _, rfl, ?_⟩
      walk_at "dls"
      refine ⟨by rw [List.length_map, List.length_map]; omega, ?_⟩
      walk_at "dls"
      refine onT_nx (.cons (.cons (.cons (.cons (.cons (.cons (.cons (.cons (.skip (.cons (.cons (.cons (.cons (.cons (.cons (.cons (.cons (.skip (.cons (.cons (.cons .nil))))))))))))))))))))) ?_
      have hset := hro.set (W.2[h] ++ [W.1 % m]) b1 h
      refine ⟨a6, g7, s7, hs ++ [h], ro.set h (.l b1 (((W.2[h] ++ [W.1 % m]).map Dat.int).map Ow.d)), ?_, by rw [List.length_append, hsl]; rfl, fun k hk => ?_, ?_⟩
      · rw [hsn, List.map_append, List.map_append, List.map_append, List.map_append]
        rfl
      · rcases List.mem_append.mp hk with z | z
        · exact hb k z
        · have z : k = h := by simpa using z
          omega
      · rw [hsn]
        show RowsOw (W.2.set h (W.2.getD h [] ++ [W.1 % ms.getD h 1])) _
        rw [List.getD_eq_getElem?_getD, hrow, List.getD_eq_getElem?_getD, p.hm]
        exact hset
    · obtain ⟨a5, g5, s5, hs, ro, rfl, hsl, hb, hro⟩ := he
      rw [rangeD_len] at hsl
      have hnum : (grI ms le hs).1 ≤ lastI ms tr le := by
        rw [← hsl]
        exact gr_le hg hs _ le hb hle0 (Int.le_refl _)
      have hnn : 0 ≤ (grI ms le hs).1 := gr_nn hg hs _ hb hle0
      have hwl : (grI ms le hs).2.length = ms.length := gr_rows ms hs _ (by simp)
      have hwr : ∀ r ∈ (grI ms le hs).2, r.length ≤ 300 := fun r hr => by
        have := gr_rowlen ms hs (le, List.replicate ms.length []) 0 (fun r hr => by rw [List.eq_of_mem_replicate hr]; simp) r hr
        omega
      have hstop : n ≤ 300 → (grI ms le hs).1 ≤ restI ms := fun h300 => by
        have : tr = n := by
          rw [if_neg (by omega)] at htr
          omega
        rw [this] at hnum
        exact Int.le_trans hnum hsw.1
      refine resS_nx ?_
      refine seq_nx ?_
      refine sv_seq ?_
      refine sv_if (tv_dec false ?_ ?_)
      · walk_at "dls"
        · rename_i hb
          exact ⟨by rw [decide_eq_false (by have := hstop (by have := of_decide_eq_true hb; omega); omega)], rfl⟩
        · exact ⟨rfl, rfl⟩
      refine bndS_ok ⟨false, rfl, fun h => absurd h Bool.false_ne_true, fun _ => ?_⟩
      refine sv_next ?_
      refine seq_nx ?_
      obtain ⟨rows, hrows⟩ : ∃ rows, rows = (grI ms le hs).2 := ⟨_, rfl⟩
      rw [← hrows] at hro hwl hwr
      refine sv_seq ?_
      refine sv_asg ?_
      refine DL.ev_tupD ?_
      refine av_cons ?_
      refine ev_lcM (ws := [20]) (fun r : List Int => .lst (r.map Dat.int)) (fun r : List Int => .tup (r.map Dat.int)) (by decide) ?_
      refine iv_any ?_
      refine ev_lF rfl hro.okR.1 ?_
      rw [hro.okR.2]
      refine bnd_ok ⟨_, _, _, rfl, rfl, rows, rfl, by omega, fun r hr => ?_, ?_⟩
      · have := hwr r hr
        refine gv_name (Nat.le_of_ble_eq_true rfl) ⟨rfl, ?_⟩
        refine DL.ev_tupD ?_
        walk_at "dls"
        refine ⟨_, _, _, rfl, rfl, ?_⟩
        exact ⟨rfl, rfl⟩
      refine bnd_ok (av_nil ⟨_, _, _, rfl, rfl, ?_⟩)
      refine bndS_ok ⟨Nat.le_of_ble_eq_true rfl, seq_nx ?_⟩
      rw [show (rows.map fun r : List Int => Dat.tup (r.map Dat.int)) = rowsD rows from rfl]
      have hM : InM ms rows := by rw [hrows]; exact grI_vals hg hb
      have hSR : Shw 2 45000 (.tup (rowsD rows)) := shw_rowsM hg hM hwl fun r hr => by have := hwr r hr; omega
      have hnB : (grI ms le hs).1 ≤ 1000000000000000000000000000007 := Int.le_trans hnum (R.lastB (by omega) _ _ hle0 hle1)
      have hS1 : Shw 3 100000 (.tup [.int (grI ms le hs).1, .tup (rowsD rows)]) := shw_two (n := 2) (c := 45000) ((shw_intW (by omega)).le (by decide)) hSR (by decide)
      have hS2 : Shw 3 100000 (.tup [.int le, .tup (hs.map fun (h : Nat) => Dat.int h)]) := shw_two (n := 2) (c := 45000) ((shw_intW (by omega)).le (by decide)) ((shw_tup (n := 1) (c := 11) (m := 45000) (shw_map fun h hh => shw_int (by have := hb h hh; have := hg.2.1; omega)) (by rw [List.length_map]; omega))) (by decide)
      refine sv_seq ?_
      refine sv_if ?_
      refine tv_test ?_
      refine ev_neS ?_
      refine ev_repr ?_
      refine av_cons ?_
      refine ev_callN ?_
      refine av_cons (ev_v rfl (bnd_ok (av_cons ?_)))
      refine ev_lF rfl (okRs_map _) ?_
      rw [dats_map]
      refine bnd_ok (av_nil ?_)
      refine av_cons (ev_v rfl (bnd_ok (av_nil ⟨rfl, rfl, ?_⟩)))
      refine ⟨[hObj CH ms, .lst (hs.map fun (h : Nat) => Dat.int h), .int le], _, rfl, ⟨ms, le, _, false, hs, rfl, R.sw.sm, hle0, rfl, rfl, by omega, hb, rfl⟩, ?_⟩
      rw [← hrows]
      refine bnd_ok (av_nil ⟨_, rfl, hS1.ok (by decide) (by decide), ?_⟩)
      refine bnd_ok ?_
      refine ev_repr ?_
      refine av_cons ?_
      refine ev_tup2 ?_
      refine ev_v rfl (bnd_ok ⟨_, rfl, ?_⟩)
      refine ev_v rfl (bnd_ok ⟨_, rfl, ?_⟩)
      refine bnd_ok (av_nil ⟨_, rfl, hS1.ok (by decide) (by decide), ?_⟩)
      refine bnd_ok ⟨_, _, rfl, rfl, ?_⟩
      refine bnd_ok ⟨_, rfl, ?_⟩
      rw [decide_eq_true rfl]
      refine bndS_ok ⟨false, rfl, fun h => absurd h Bool.false_ne_true, fun _ => ?_⟩
      refine sv_next ?_
      refine seq_nx ?_
      simp only [bks_d]
      refine sv_seq ?_
      refine sv_if ?_
      refine tv_test ?_
      refine ev_neS ?_
      refine ev_repr ?_
      refine av_cons ?_
      refine ev_pure ?_
      walk_at "dls"
      refine ⟨[hObj CH ms, .tup (rowsD rows), .int (grI ms le hs).1], _, rfl, ⟨ms, le, .tup (rowsD rows), true, rowsD rows, hs, rfl, R.sw.sm, hle0, rfl, rfl, logs_okM hwl hM fun r hr => by have := hwr r hr; omega, by rw [tup_rowsM, hrows], by omega, hb, rfl⟩, ?_⟩
      refine bnd_ok (av_nil ⟨_, rfl, hS2.ok (by decide) (by decide), ?_⟩)
      refine bnd_ok ?_
      refine ev_repr ?_
      refine av_cons ?_
      refine ev_tup2 ?_
      refine ev_v rfl (bnd_ok ⟨_, rfl, ?_⟩)
      refine DL.ev_tupD ?_
      refine av_cons ?_
      refine ev_v rfl (bnd_ok (av_nil ⟨_, _, _, rfl, rfl, ?_⟩))
      refine bnd_ok ⟨_, rfl, ?_⟩
      refine bnd_ok (av_nil ⟨_, rfl, hS2.ok (by decide) (by decide), ?_⟩)
      refine bnd_ok ⟨_, _, rfl, rfl, ?_⟩
      refine bnd_ok ⟨_, rfl, ?_⟩
      rw [decide_eq_true rfl]
      refine bndS_ok ⟨false, rfl, fun h => absurd h Bool.false_ne_true, fun _ => ?_⟩
      refine sv_next ?_
      refine seq_nx ?_
      try simp only [bks_d]
      refine sv_seq ?_
      refine sv_asg ?_
      refine ev_call ?_
      walk_at "dls"
      refine ⟨by decide, by decide, fun a6 g6 s6 => ?_⟩
      simp only [bks, bk, List.set, bkG_d, bkG_at, bkG_n]
      walk_at "dls"
      refine DL.ev_make ?_ R_Hands_mono
      refine av_cons ?_
      refine ev_call ?_
      walk_at "dls"
      refine DL.ev_lst ?_
      repeat (first
        | (refine av_cons ?_; refine DL.ev_lst ?_; walk_at "dls"; first | refine ⟨[.int _, .int _], rfl, Nat.le_of_ble_eq_true rfl, ?_⟩ | refine ⟨[.int _, .int _, .int _], rfl, Nat.le_of_ble_eq_true rfl, ?_⟩)
        | refine bnd_ok ?_)
      refine av_nil ⟨([[2, 2], [1, 5], [2, 3, 6], [2, 2, 3], [1, 1]] : List (List Int)).map lstI, rfl, by decide, ?_⟩
      refine bnd_ok (av_nil ⟨a6, g6, s6, _, rfl, by decide, by decide, fun x hx g7 s7 => ?_⟩)
      obtain ⟨cr, hcr, rfl⟩ := List.mem_map.mp hx
      have hcr2 := crowd_ok cr hcr
      simp only [bks, bk, List.set, bkG_d, bkG_at, bkG_n]
      refine bnd_ok (av_nil fun x => ?_)
      refine ⟨x, .lst (cr.map Dat.int), false, cr, rfl, rfl, rfl, hcr2.1, rfl, _, _, rfl, ?_⟩
      walk_at "dls"
      simp only [bks, bk, List.set, wp, List.map, List.foldl, bkG_d, bkG_at, bkG_n]
      refine ⟨Nat.le_of_ble_eq_true rfl, seq_nx ?_⟩
      refine sv_seq ?_
      refine sv_asg ?_
      refine ev_call ?_
      walk_at "dls"
      refine DL.ev_lst ?_
      walk_at "dls"
      refine ⟨[.int 0, .int (0 - 1), .non], rfl, Nat.le_of_ble_eq_true rfl, ?_⟩
      refine bnd_ok (av_nil ⟨a6, g7, s7, _, rfl, by decide, by decide, fun bad hbad g8 s8 => ?_⟩)
      have hbt : bad.tyn.isSome = true := by
        rcases List.mem_cons.mp hbad with rfl | hz
        · rfl
        · rcases List.mem_cons.mp hz with rfl | hz
          · rfl
          · rcases List.mem_cons.mp hz with rfl | hz
            · rfl
            · cases hz
      simp only [bks, bk, List.set, bkG_d, bkG_at, bkG_n]
      refine bndS_ok ⟨Nat.le_of_ble_eq_true rfl, seq_nx ?_⟩
      simp only [bks, bk, List.set, wp, List.map, bkG_d, bkG_at, bkG_n]
      refine sv_seq ?_
      refine sv_if ?_
      refine tv_test ?_
      refine ev_notB ?_
      refine ev_one Hd.xm (fun E' => ?_)
      refine ev_call (av_cons (ev_v rfl (bnd_ok (av_nil ?_))))
      refine ⟨cr, rfl, .inr ⟨hcr2.1, hcr2.2, rfl, .bl true, fun D H T σ σ1 a d Q s xa h1 k => refused_tell Hd cr _ D H T σ σ1 a d Q s xa h1 k, ?_⟩⟩
      refine bnd_ok ⟨_, rfl, ?_⟩
      refine bnd_ok ⟨_, rfl, ?_⟩
      rw [decide_eq_true rfl]
      refine bndS_ok ⟨false, rfl, fun h => absurd h Bool.false_ne_true, fun _ => ?_⟩
      refine sv_next ?_
      refine seq_nx ?_
      simp only [bks, bk]
      refine sv_seq ?_
      refine sv_if ?_
      refine tv_test ?_
      refine ev_notB ?_
      refine ev_one Hd.xm (fun E' => ?_)
      refine ev_call (av_cons (ev_v rfl (bnd_ok (av_cons (ev_v rfl (bnd_ok (av_nil ?_)))))))
      refine ⟨cr, bad, rfl, hbt, .inr ⟨hcr2.1, hcr2.2, rfl, .bl true, fun D H T σ σ1 a d Q s xa h1 k => refused_tell Hd cr _ D H T σ σ1 a d Q s xa h1 k, ?_⟩⟩
      refine bnd_ok ⟨_, rfl, ?_⟩
      refine bnd_ok ⟨_, rfl, ?_⟩
      rw [decide_eq_true rfl]
      refine bndS_ok ⟨false, rfl, fun h => absurd h Bool.false_ne_true, fun _ => ?_⟩
      refine sv_next ?_
      refine seq_nx ?_
      simp only [bks, bk]
      refine sv_tryX Hd.xm (show 18 < 21 by decide) (fun E' => ?_)
      refine sv_seq ?_
      refine sv_drop ?_
      refine ev_call (av_cons (ev_v rfl (bnd_ok (av_cons (ev_n (bnd_ok (av_nil ?_)))))))
      refine ⟨ms, .non, rfl, rfl, .inl ⟨R.sw, rfl, rfl, .bl true, fun D H T σ σ1 a d Q s xa h1 k => ?_, ?_⟩⟩
      · obtain ⟨vs, hd, hf⟩ := xa
        cases hf with
        | cons hv ht =>
          cases ht
          cases hv
          refine ⟨.ref a, h1, rfl, rfl, d, _, _, rfl, hd, rfl, ?_⟩
          exact ⟨rfl, k _ D H (s.push (.bl _))⟩
      simp only [bks, bk]
      refine ret_rt (pms_d [.scr ns] _ (Nat.le_of_ble_eq_true rfl)) ?_
      exact q

end
end K23

namespace K23
open PySem L2 Evl DL
local macro_rules | `(tactic| walk_at "dl") => `(tactic| first
  | with_reducible refine bnd_ok ?_ | with_reducible refine bndS_ok ?_ | with_reducible refine onE_ok ?_ | with_reducible refine seq_nx ?_ | with_reducible refine seq_rt ?_ | with_reducible refine seq_bk ?_ | with_reducible refine seq_ct ?_ | with_reducible refine onT_rt ?_ | with_reducible refine onT_bk ?_ | with_reducible refine resS_nx ?_ | with_reducible refine resS_rt ?_
  | refine ev_v rfl ?_ | refine ev_l rfl ?_ | with_reducible refine ev_i ?_ | with_reducible refine ev_n ?_ | with_reducible refine ev_b ?_ | with_reducible refine ev_s ?_
  | with_reducible refine ev_oZ0 ?_ | with_reducible refine ev_oB0 ?_ | with_reducible refine ev_oZ ?_ | with_reducible refine ev_neg ?_ | with_reducible refine ev_neI ?_ | with_reducible refine ev_eqI ?_ | with_reducible refine ev_isN ?_ | with_reducible refine ev_notN ?_ | with_reducible refine ev_chain ?_
  | with_reducible refine ev_andV ?_ | with_reducible refine ev_orV ?_ | with_reducible refine ev_notV ?_ | with_reducible refine ev_if ?_
  | with_reducible refine tv_test ?_ | with_reducible refine tv_B ?_ | with_reducible refine tv_and ?_ | with_reducible refine tv_or ?_ | with_reducible refine tv_not ?_ | with_reducible refine tv_yes ?_
  | with_reducible refine ev_isiInt ?_ | with_reducible refine ev_isiBool ?_ | with_reducible refine ev_isiSeq ?_
  | with_reducible refine av_cons ?_ | with_reducible refine av_nil ?_
  | with_reducible refine ev_pure ?_ | with_reducible refine ev_gcd ?_ | with_reducible refine ev_abs ?_ | with_reducible refine ev_int1 ?_
  | (with_reducible refine DL.ev_len ?_; refine av_cons ?_; refine ev_v rfl ?_; refine bnd_ok ?_; refine av_nil ?_; refine ⟨_, _, _, rfl, by first | rfl | assumption, ?_⟩)
  | with_reducible refine ev_fldD ?_ | with_reducible refine ev_ixS ?_
  | with_reducible refine sv_seq ?_ | with_reducible refine sv_next ?_ | with_reducible refine sv_brk ?_ | with_reducible refine sv_cont ?_ | with_reducible refine sv_ret ?_ | with_reducible refine sv_retN ?_ | with_reducible refine sv_if ?_ | with_reducible refine sv_drop ?_
  | with_reducible refine sv_asg ?_
  | refine ⟨_, rfl, fun hb => ?_, fun hb => ?_⟩
  | refine ⟨_, _, rfl, rfl, fun hb => ?_, fun hb => ?_⟩
  | refine ⟨_, _, rfl, rfl, ?_⟩
  | refine ⟨_, _, _, _, rfl, rfl, rfl, ?_⟩
  | refine ⟨_, rfl, ?_⟩ | refine ⟨_, _, rfl, ?_⟩
  | refine And.intro rfl ?_ | refine And.intro (Nat.le_of_ble_eq_true rfl) ?_ | refine And.intro (by assumption) ?_)
local macro_rules | `(tactic| walk_at "dls") => `(tactic| repeat (walk_at "dl"; all_goals try (first | (exact (nomatch ‹false = true›)) | (exact (nomatch ‹true = false›)))))
local macro_rules | `(tactic| walk_at "dla") => `(tactic| repeat' (first | (exact (nomatch ‹false = true›)) | (exact (nomatch ‹true = false›)) | walk_at "dl"))
local macro_rules | `(tactic| walk_at "dlr") => `(tactic| (refine ret_rt (pms_d _ _ (Nat.le_of_ble_eq_true rfl)) ?_))
local macro_rules | `(tactic| walk_at "dlt") => `(tactic| first | walk_at "dl" | with_reducible refine ev_tup2 ?_ | with_reducible refine ev_tup3 ?_)
local macro_rules | `(tactic| walk_at "dlts") => `(tactic| repeat walk_at "dlt")
section
variable {P : Program} {w : World} {K : PySem.W.Frag} [HasTabs K] {mg : Str → Option Value} {base : Heap} {CH CD : Addr}
theorem all_top {CE CR CT : Addr} {c PT : Addr} (T : Txt mg) (LR : ClRates K CT) (LH : ClHands K CH) (Hd : RefF K mg CR CE CH) (TB : LamX.TabB base mg c PT) (hmT : (PT, ("law.<locals>.<lambda>" : Str)) ∈ HasTabs.tt K) (hu : ∀ p ∈ HasTabs.tt K, p.1 = PT → p.2 = ("law.<locals>.<lambda>" : Str))
    (D_is_number : Dfn K mg "is_number" "is_number" s_is_number ["value"])
    (D_is_below : Dfn K mg "is_below" "is_below" s_is_below ["value", "bound"])
    (D_is_sequence : Dfn K mg "is_sequence" "is_sequence" s_is_sequence ["value"])
    (D_is_marks_number : Dfn K mg "is_marks_number" "is_marks_number" s_is_marks_number ["value"])
    (D_wrong_marks : DfnT K mg "wrong_marks" "wrong_marks" s_wrong_marks ["value", "fewest", "most"] (.int 2) (.int 8))
    (D_Hands : Cfn K mg "Hands" "Hands.__init__" s_Hands___init__ ["self", "marks"] CH)
    (D_check_items : Dfn K mg "check_items" "check_items" s_check_items ["value", "bound"])
    (D_check_story : Dfn K mg "check_story" "check_story" s_check_story ["hands", "value"])
    (D_need_number : Dfn K mg "need_number" "need_number" s_need_number ["number"])
    (D_spans_of : Dfn K mg "spans_of" "spans_of" s_spans_of ["lengths"])
    (D_sum_of_parts : Dfn K mg "sum_of_parts" "sum_of_parts" s_sum_of_parts ["tops", "bottoms"])
    (D_share : Dfn K mg "share" "share" s_share ["hands"])
    (D_common_multiple : Dfn K mg "common_multiple" "common_multiple" s_common_multiple ["hands"])
    (D_Rates : Cfn K mg "Rates" "Rates.__init__" s_Rates___init__ ["self", "hands"] CT)
    (D_number_behind : Dfn K mg "number_behind" "number_behind" s_number_behind ["rates", "number", "hand"])
    (D_as_tuples : Dfn K mg "as_tuples" "as_tuples" s_as_tuples ["rows"])
    (D_empty_logs : Dfn K mg "empty_logs" "empty_logs" s_empty_logs ["hands"])
    (D_grow_logs : DfnO K mg "grow_logs" "grow_logs" s_grow_logs ["hands", "story"] "number" (.int 0))
    (D_fits_bounds : Dfn K mg "fits_bounds" "fits_bounds" s_fits_bounds ["value", "bounds"])
    (D_is_log : Dfn K mg "is_log" "is_log" s_is_log ["value", "marks"])
    (D_check_logs : Dfn K mg "check_logs" "check_logs" s_check_logs ["hands", "value"])
    (D__law_box : Dfn K mg "_law_box" "_law_box" s__law_box ["script", "k"])
    (D__law_common : Dfn K mg "_law_common" "_law_common" s__law_common ["one", "other"])
    (D_Refused : DfnE K mg "Refused" "Refused.__init__" s_Refused___init__ CR ["at"])
    (D_need_swallowing : Dfn K mg "need_swallowing" "need_swallowing" s_need_swallowing ["hands"])
    (D_resting_number : DfnK K mg "resting_number" "resting_number" s_resting_number ["hands"])
    (D_need_length : Dfn K mg "need_length" "need_length" s_need_length ["length"])
    (D_greatest_number : DfnO K mg "greatest_number" "greatest_number" s_greatest_number ["hands", "length"] "number" (.int 0))
    (D_swallow_length : DfnK K mg "swallow_length" "swallow_length" s_swallow_length ["hands", "number"])
    (D__law_size : Dfn K mg "_law_size" "_law_size" s__law_size ["marks"])
    (D__law_step : Dfn K mg "_law_step" "_law_step" s__law_step ["marks", "size", "number", "hand"])
    (D__law_rest : Dfn K mg "_law_rest" "_law_rest" s__law_rest ["marks", "size"])
    (D__law_length : Dfn K mg "_law_length" "_law_length" s__law_length ["marks", "size", "number", "rest"])
    (D__law_take : Dfn K mg "_law_take" "_law_take" s__law_take ["box", "many"])
    (D__law_pick : Dfn K mg "_law_pick" "_law_pick" s__law_pick ["box", "some"])
    (D_need_hand : Dfn K mg "need_hand" "need_hand" s_need_hand ["hands", "hand"])
    (D_grow_step : Dfn K mg "grow_step" "grow_step" s_grow_step ["hands", "number", "hand"])
    (D__law_rest_right : Dfn K mg "_law_rest_right" "_law_rest_right" s__law_rest_right ["box", "hands", "marks", "rest", "size"])
    (D__law_greatest : Dfn K mg "_law_greatest" "_law_greatest" s__law_greatest ["marks", "size", "number", "length"])
    (D_span_with : Dfn K mg "span_with" "span_with" s_span_with ["spans", "place"])
    (D_hand_told : Dfn K mg "hand_told" "hand_told" s_hand_told ["rates", "number"])
    (D_number_ahead : Dfn K mg "number_ahead" "number_ahead" s_number_ahead ["rates", "number", "hand", "mark"])
    (D_grow_story : Dfn K mg "grow_story" "grow_story" s_grow_story ["hands", "logs", "number"])
    (D__law_refused : Dfn K mg "_law_refused" "_law_refused" s__law_refused ["ask"])
    {f : Addr} {fd : FuncData} (F : Fun K "law" "law" s_law f fd) (hcode : fd.code = .ref c) : FnG P w K mg base 10 f fd ["script"] (spOf K R_lawS) := by
  have O_is_number := ok_is_number (P := P) (w := w) (base := base)  T D_is_number
  have O_is_below := ok_is_below (P := P) (w := w) (base := base)  T O_is_number D_is_below
  have O_is_sequence := ok_is_sequence (P := P) (w := w) (base := base)  T D_is_sequence
  have O_is_marks_number := ok_is_marks_number (P := P) (w := w) (base := base)  T O_is_below D_is_marks_number
  obtain ⟨O_wrong_marks, OT_wrong_marks⟩ := ok_wrong_marks (P := P) (w := w) (base := base)  T O_is_sequence O_is_marks_number D_wrong_marks
  have O_Hands := ok_Hands (P := P) (w := w) (base := base) (CH := CH) T LH OT_wrong_marks D_Hands
  have O_check_items := ok_check_items (P := P) (w := w) (base := base)  T O_is_sequence O_is_below D_check_items
  have O_check_story := ok_check_story (P := P) (w := w) (base := base) (CH := CH) T LH O_check_items D_check_story
  have O_need_number := ok_need_number (P := P) (w := w) (base := base)  T O_is_number D_need_number
  have O_spans_of := ok_spans_of (P := P) (w := w) (base := base)  T D_spans_of
  have O_sum_of_parts := ok_sum_of_parts (P := P) (w := w) (base := base)  T D_sum_of_parts
  have O_share := ok_share (P := P) (w := w) (base := base) (CH := CH) T LH O_sum_of_parts D_share
  have O_common_multiple := ok_common_multiple (P := P) (w := w) (base := base) (CH := CH) T LH D_common_multiple
  have O_Rates := ok_Rates (P := P) (w := w) (base := base) (CH := CH) (CT := CT) T LR LH O_common_multiple O_spans_of D_Rates
  have O_number_behind := ok_number_behind (P := P) (w := w) (base := base) (CH := CH) (CT := CT) T LR LH D_number_behind
  have O_as_tuples := ok_as_tuples (P := P) (w := w) (base := base)  T D_as_tuples
  have O_empty_logs := ok_empty_logs (P := P) (w := w) (base := base) (CH := CH) T LH D_empty_logs
  obtain ⟨ON_grow_logs, OM_grow_logs⟩ := ok_grow_logs (P := P) (w := w) (base := base) (CH := CH) (CT := CT) T LR LH O_check_story O_need_number O_empty_logs O_Rates O_number_behind O_as_tuples D_grow_logs
  have O_fits_bounds := ok_fits_bounds (P := P) (w := w) (base := base)  T O_is_sequence O_is_below D_fits_bounds
  have O_is_log := ok_is_log (P := P) (w := w) (base := base)  T O_is_sequence O_fits_bounds D_is_log
  have O_check_logs := ok_check_logs (P := P) (w := w) (base := base) (CH := CH) T LH O_is_sequence O_is_log O_as_tuples D_check_logs
  have O__law_box := ok__law_box (P := P) (w := w) (base := base)  T D__law_box
  have O__law_common := ok__law_common (P := P) (w := w) (base := base)  T D__law_common
  have ER_Refused := er_Refused (P := P) (w := w) (base := base) (CR := CR) D_Refused
  have O_need_swallowing := ok_need_swallowing (P := P) (w := w) (base := base) (CH := CH) T O_share D_need_swallowing
  have OX_need_swallowing := okx_need_swallowing (P := P) (w := w) (base := base) (CH := CH) (CR := CR) T ER_Refused O_share D_need_swallowing
  obtain ⟨O_resting_number, OK_resting_number⟩ := ok_resting_number (P := P) (w := w) (base := base) (CH := CH) (CT := CT) T LR LH O_need_swallowing O_Rates D_resting_number
  have OX_resting_number := okx_resting_number (P := P) (w := w) (base := base) (CH := CH) (CR := CR) (CT := CT) T LR LH OX_need_swallowing O_Rates D_resting_number
  have O_need_length := ok_need_length (P := P) (w := w) (base := base)  T O_is_below D_need_length
  obtain ⟨ON_greatest_number, OM_greatest_number⟩ := ok_greatest_number (P := P) (w := w) (base := base) (CH := CH) (CT := CT) T LR LH O_need_number O_need_length O_Rates O_number_behind D_greatest_number
  have OX_need_number := okx_need_number (P := P) (w := w) (base := base) (CR := CR) T ER_Refused O_is_number D_need_number
  obtain ⟨O_swallow_length, OK_swallow_length⟩ := ok_swallow_length (P := P) (w := w) (base := base) (CH := CH) (CT := CT) T LR LH O_resting_number O_need_number O_number_behind O_Rates D_swallow_length
  have OX_swallow_length := okx_swallow_length (P := P) (w := w) (base := base) (CH := CH) (CR := CR) (CT := CT) T LR LH OX_resting_number OX_need_number O_number_behind O_Rates D_swallow_length
  have O__law_size := ok__law_size (P := P) (w := w) (base := base)  T O__law_common D__law_size
  have O__law_step := ok__law_step (P := P) (w := w) (base := base)  T D__law_step
  have O__law_rest := ok__law_rest (P := P) (w := w) (base := base)  T O__law_step D__law_rest
  have O__law_length := ok__law_length (P := P) (w := w) (base := base)  T O__law_step D__law_length
  have O__law_take := ok__law_take (P := P) (w := w) (base := base)  T D__law_take
  have O__law_pick := ok__law_pick (P := P) (w := w) (base := base)  T O__law_take D__law_pick
  have O_need_hand := ok_need_hand (P := P) (w := w) (base := base) (CH := CH) T LH O_is_below D_need_hand
  have O_grow_step := ok_grow_step (P := P) (w := w) (base := base) (CH := CH) (CT := CT) T LR LH O_need_number O_need_hand O_number_behind O_Rates D_grow_step
  have O__law_rest_right := ok__law_rest_right (P := P) (w := w) (base := base) (CH := CH) T O__law_take O__law_pick O__law_step O_grow_step D__law_rest_right
  have O__law_greatest := ok__law_greatest (P := P) (w := w) (base := base)  T O__law_step D__law_greatest
  have O_span_with := ok_span_with (P := P) (w := w) (base := base)  T D_span_with
  have O_hand_told := ok_hand_told (P := P) (w := w) (base := base) (CH := CH) (CT := CT) T LR O_span_with D_hand_told
  have O_number_ahead := ok_number_ahead (P := P) (w := w) (base := base) (CH := CH) (CT := CT) T LR LH D_number_ahead
  have O_grow_story := ok_grow_story (P := P) (w := w) (base := base) (CH := CH) (CT := CT) T LR LH O_check_logs O_need_number O_Rates O_hand_told O_number_ahead D_grow_story
  exact ok_law T LR LH Hd TB hmT hu O__law_box O__law_take O__law_pick O__law_size O__law_rest O__law_rest_right O__law_length O__law_greatest O__law_step O_Hands O_resting_number OK_resting_number O_swallow_length OK_swallow_length ON_greatest_number ON_grow_logs O_grow_story D__law_refused OX_resting_number OX_swallow_length F hcode
theorem all_end {CE CR CT : Addr} {c PT : Addr} {h : Heap} {fa f : Addr} {oc kV doc pm ct : Value} {od an : Option Addr} {osl : Array (Option Value)} (X : K.In h) (G : h.Ns mainGlobals mg) (hfa : mg "law" = some (.ref fa)) (aCH : PySem.W.nsIn K mainGlobals "Hands" = some (some (.ref CH))) (aCT : PySem.W.nsIn K mainGlobals "Rates" = some (some (.ref CT))) (aCR : PySem.W.nsIn K mainGlobals "Refused" = some (some (.ref CR))) (aCE : PySem.W.nsIn K mainGlobals "LogError" = some (some (.ref CE)))
    (al : PySem.W.nsIn K mainGlobals "law" = some (some (.ref f))) (ll : K.lookup f = some ⟨oc, od, .func (PySem.W.fnOf "law" "law" (defArgs s_law) (defBody s_law) (defScope s_law) .none kV doc pm an (.ref c) ct), osl⟩) (cl : PySem.W.codeIn K (.ref c) "law" = true) (kl : PySem.W.keepIn K (.ref f) = true)
    (T : Txt mg) (LR : ClRates K CT) (LH : ClHands K CH) (Hd : RefF K mg CR CE CH) (hmT : (PT, ("law.<locals>.<lambda>" : Str)) ∈ HasTabs.tt K) (hu : ∀ p ∈ HasTabs.tt K, p.1 = PT → p.2 = ("law.<locals>.<lambda>" : Str))
    (D_is_number : Dfn K mg "is_number" "is_number" s_is_number ["value"])
    (D_is_below : Dfn K mg "is_below" "is_below" s_is_below ["value", "bound"])
    (D_is_sequence : Dfn K mg "is_sequence" "is_sequence" s_is_sequence ["value"])
    (D_is_marks_number : Dfn K mg "is_marks_number" "is_marks_number" s_is_marks_number ["value"])
    (D_wrong_marks : DfnT K mg "wrong_marks" "wrong_marks" s_wrong_marks ["value", "fewest", "most"] (.int 2) (.int 8))
    (D_Hands : Cfn K mg "Hands" "Hands.__init__" s_Hands___init__ ["self", "marks"] CH)
    (D_check_items : Dfn K mg "check_items" "check_items" s_check_items ["value", "bound"])
    (D_check_story : Dfn K mg "check_story" "check_story" s_check_story ["hands", "value"])
    (D_need_number : Dfn K mg "need_number" "need_number" s_need_number ["number"])
    (D_spans_of : Dfn K mg "spans_of" "spans_of" s_spans_of ["lengths"])
    (D_sum_of_parts : Dfn K mg "sum_of_parts" "sum_of_parts" s_sum_of_parts ["tops", "bottoms"])
    (D_share : Dfn K mg "share" "share" s_share ["hands"])
    (D_common_multiple : Dfn K mg "common_multiple" "common_multiple" s_common_multiple ["hands"])
    (D_Rates : Cfn K mg "Rates" "Rates.__init__" s_Rates___init__ ["self", "hands"] CT)
    (D_number_behind : Dfn K mg "number_behind" "number_behind" s_number_behind ["rates", "number", "hand"])
    (D_as_tuples : Dfn K mg "as_tuples" "as_tuples" s_as_tuples ["rows"])
    (D_empty_logs : Dfn K mg "empty_logs" "empty_logs" s_empty_logs ["hands"])
    (D_grow_logs : DfnO K mg "grow_logs" "grow_logs" s_grow_logs ["hands", "story"] "number" (.int 0))
    (D_fits_bounds : Dfn K mg "fits_bounds" "fits_bounds" s_fits_bounds ["value", "bounds"])
    (D_is_log : Dfn K mg "is_log" "is_log" s_is_log ["value", "marks"])
    (D_check_logs : Dfn K mg "check_logs" "check_logs" s_check_logs ["hands", "value"])
    (D__law_box : Dfn K mg "_law_box" "_law_box" s__law_box ["script", "k"])
    (D__law_common : Dfn K mg "_law_common" "_law_common" s__law_common ["one", "other"])
    (D_Refused : DfnE K mg "Refused" "Refused.__init__" s_Refused___init__ CR ["at"])
    (D_need_swallowing : Dfn K mg "need_swallowing" "need_swallowing" s_need_swallowing ["hands"])
    (D_resting_number : DfnK K mg "resting_number" "resting_number" s_resting_number ["hands"])
    (D_need_length : Dfn K mg "need_length" "need_length" s_need_length ["length"])
    (D_greatest_number : DfnO K mg "greatest_number" "greatest_number" s_greatest_number ["hands", "length"] "number" (.int 0))
    (D_swallow_length : DfnK K mg "swallow_length" "swallow_length" s_swallow_length ["hands", "number"])
    (D__law_size : Dfn K mg "_law_size" "_law_size" s__law_size ["marks"])
    (D__law_step : Dfn K mg "_law_step" "_law_step" s__law_step ["marks", "size", "number", "hand"])
    (D__law_rest : Dfn K mg "_law_rest" "_law_rest" s__law_rest ["marks", "size"])
    (D__law_length : Dfn K mg "_law_length" "_law_length" s__law_length ["marks", "size", "number", "rest"])
    (D__law_take : Dfn K mg "_law_take" "_law_take" s__law_take ["box", "many"])
    (D__law_pick : Dfn K mg "_law_pick" "_law_pick" s__law_pick ["box", "some"])
    (D_need_hand : Dfn K mg "need_hand" "need_hand" s_need_hand ["hands", "hand"])
    (D_grow_step : Dfn K mg "grow_step" "grow_step" s_grow_step ["hands", "number", "hand"])
    (D__law_rest_right : Dfn K mg "_law_rest_right" "_law_rest_right" s__law_rest_right ["box", "hands", "marks", "rest", "size"])
    (D__law_greatest : Dfn K mg "_law_greatest" "_law_greatest" s__law_greatest ["marks", "size", "number", "length"])
    (D_span_with : Dfn K mg "span_with" "span_with" s_span_with ["spans", "place"])
    (D_hand_told : Dfn K mg "hand_told" "hand_told" s_hand_told ["rates", "number"])
    (D_number_ahead : Dfn K mg "number_ahead" "number_ahead" s_number_ahead ["rates", "number", "hand", "mark"])
    (D_grow_story : Dfn K mg "grow_story" "grow_story" s_grow_story ["hands", "logs", "number"])
    (D__law_refused : Dfn K mg "_law_refused" "_law_refused" s__law_refused ["ask"]) :
    ∃ fd : FuncData, (∀ (s : Shared) (u : Value), BindsTo s fd ⟨[u], []⟩ [("script", u)]) ∧ ∀ base : Heap, K.In base → base.Ns mainGlobals mg → (∀ p ∈ [(c, PT)], LamX.TabB base mg p.1 p.2) → FnG P w K mg base 10 fa fd ["script"] (spOf K R_lawS) := by
  have e := hfa.symm.trans (PySem.W.mg_of X G al)
  cases e
  have F := fun_mk (st := s_law) ll cl kl
  exact ⟨_, fun s u => .of_eq rfl, fun base _ _ tb => all_top T LR LH Hd (tb (c, PT) List.mem_cons_self) hmT hu D_is_number D_is_below D_is_sequence D_is_marks_number D_wrong_marks D_Hands D_check_items D_check_story D_need_number D_spans_of D_sum_of_parts D_share D_common_multiple D_Rates D_number_behind D_as_tuples D_empty_logs D_grow_logs D_fits_bounds D_is_log D_check_logs D__law_box D__law_common D_Refused D_need_swallowing D_resting_number D_need_length D_greatest_number D_swallow_length D__law_size D__law_step D__law_rest D__law_length D__law_take D__law_pick D_need_hand D_grow_step D__law_rest_right D__law_greatest D_span_with D_hand_told D_number_ahead D_grow_story D__law_refused F rfl⟩

end
end K23

instance inst_K23 (K : PySem.W.Frag) : DL.HasTabs K := ⟨[(478, ("law.<locals>.<lambda>" : PySem.Str))]⟩
open PySem PySem.W PyProof.Rows in
set_option maxRecDepth 100000 in
set_option maxHeartbeats 0 in
theorem PySem.Challenge.cw_logsapart_k23_whole_letters_swallowed_by_holds : PySem.Challenge.rw_logsapart_k23_whole_letters_swallowed_by.Holds := by
  w_on; o_law; k_head; (case hw => w_witness2)
  k_fill
  refine DL.walkT (l := PySem.Challenge.rw_logsapart_k23_whole_letters_swallowed_by) (k := 10) (x := "script") (cs := [(480, 478)]) (fun p q hq => by rw [List.mem_singleton.mp hq]; exact List.mem_singleton.mpr rfl) rfl rfl ⟨rfl, by decide, by decide⟩ (fun w h Y => PySem.W.km_in_of Y) ?tbs ?F
  case tbs =>
    intro w h Y KX
    have hT := PySem.W.km_tabs_of Y 478 (by simp)
    refine ⟨fun p hp => ?_, fun p hp => ?_, fun p hp => ?_⟩
    · rw [List.mem_singleton.mp hp]; exact hT
    · rw [List.mem_singleton.mp hp]; kernel_rfl
    · rw [List.mem_singleton.mp hp]; exact PySem.W.codeHd_of_K KX (by kernel_rfl)
  case F =>
    intro w mg fa h KX G hmg
    refine' K23.all_end (c := 480) (PT := 478) KX G hmg ?aCH ?aCT ?aCR ?aCE ?al ?ll ?cl ?kl ?T ?LR ?LH ?Hd ?hmT ?hu ?D_is_number ?D_is_below ?D_is_sequence ?D_is_marks_number ?D_wrong_marks ?D_Hands ?D_check_items ?D_check_story ?D_need_number ?D_spans_of ?D_sum_of_parts ?D_share ?D_common_multiple ?D_Rates ?D_number_behind ?D_as_tuples ?D_empty_logs ?D_grow_logs ?D_fits_bounds ?D_is_log ?D_check_logs ?D__law_box ?D__law_common ?D_Refused ?D_need_swallowing ?D_resting_number ?D_need_length ?D_greatest_number ?D_swallow_length ?D__law_size ?D__law_step ?D__law_rest ?D__law_length ?D__law_take ?D__law_pick ?D_need_hand ?D_grow_step ?D__law_rest_right ?D__law_greatest ?D_span_with ?D_hand_told ?D_number_ahead ?D_grow_story ?D__law_refused
    (case aCH => k_is); (case aCT => k_is); (case aCR => k_is); (case aCE => k_is); (case al => k_is); (case ll => k_is); (case cl => k_is); (case kl => k_is)
    (case T => refine' {b_isinstance := ?b_isinstance, b_int := ?b_int, b_bool := ?b_bool, b_list := ?b_list, b_tuple := ?b_tuple, b_len := ?b_len, b_all := ?b_all, b_sum := ?b_sum, b_abs := ?b_abs, b_min := ?b_min, b_zip := ?b_zip, b_enumerate := ?b_enumerate, b_range := ?b_range, b_repr := ?b_repr, m_gcd := ?m_gcd, m_lcm := ?m_lcm, c_FEWEST_HANDS := ?c_FEWEST_HANDS, c_MOST_HANDS := ?c_MOST_HANDS, c_MOST_MARKS := ?c_MOST_MARKS, c_LONGEST := ?c_LONGEST, c_MOST_LENGTH := ?c_MOST_LENGTH}; (case b_isinstance => exact PySem.W.mg_none_of KX G (by k_is)); (case b_int => exact PySem.W.mg_none_of KX G (by k_is)); (case b_bool => exact PySem.W.mg_none_of KX G (by k_is)); (case b_list => exact PySem.W.mg_none_of KX G (by k_is)); (case b_tuple => exact PySem.W.mg_none_of KX G (by k_is)); (case b_len => exact PySem.W.mg_none_of KX G (by k_is)); (case b_all => exact PySem.W.mg_none_of KX G (by k_is)); (case b_sum => exact PySem.W.mg_none_of KX G (by k_is)); (case b_abs => exact PySem.W.mg_none_of KX G (by k_is)); (case b_min => exact PySem.W.mg_none_of KX G (by k_is)); (case b_zip => exact PySem.W.mg_none_of KX G (by k_is)); (case b_enumerate => exact PySem.W.mg_none_of KX G (by k_is)); (case b_range => exact PySem.W.mg_none_of KX G (by k_is)); (case b_repr => exact PySem.W.mg_none_of KX G (by k_is)); (case m_gcd => refine' PySem.W.mg_of KX G ?z; (case z => k_is)); (case m_lcm => refine' PySem.W.mg_of KX G ?z; (case z => k_is)); (case c_FEWEST_HANDS => refine' DL.const_mk KX G ?z ?e; (case z => k_is); (case e => exact ⟨_, rfl⟩)); (case c_MOST_HANDS => refine' DL.const_mk KX G ?z ?e; (case z => k_is); (case e => exact ⟨_, rfl⟩)); (case c_MOST_MARKS => refine' DL.const_mk KX G ?z ?e; (case z => k_is); (case e => exact ⟨_, rfl⟩)); (case c_LONGEST => refine' DL.const_mk KX G ?z ?e; (case z => k_is); (case e => exact ⟨_, rfl⟩)); (case c_MOST_LENGTH => refine' DL.const_mk KX G ?z ?e; (case z => k_is); (case e => exact ⟨_, rfl⟩)))
    (case LR => refine' ⟨⟨?pg, ?hd, ?po, ?sa⟩, ?x1, ?x2, ?x3, ?x4⟩; (case pg => k_is); (case hd => k_is); (case po => k_is); (case sa => k_is); (case x1 => refine' DL.no_attr ?nq; (case nq => k_is)); (case x2 => refine' DL.no_attr ?nq; (case nq => k_is)); (case x3 => refine' DL.no_attr ?nq; (case nq => k_is)); (case x4 => refine' DL.no_attr ?nq; (case nq => k_is)))
    (case LH => refine' ⟨⟨?pg, ?hd, ?po, ?sa⟩, ?x1, ?x2⟩; (case pg => k_is); (case hd => k_is); (case po => k_is); (case sa => k_is); (case x1 => refine' DL.no_attr ?nq; (case nq => k_is)); (case x2 => refine' DL.no_attr ?nq; (case nq => k_is)))
    (case Hd => refine' ⟨?mR, ?mE, ?mH, ?x, ?n, ⟨?e1, ?e2, ?e3, ?e4, ?e5, ?e6, ?e7, ?e8⟩, ?eE, ⟨⟨?p1, ?p2, ?p3, ?p4⟩, ?i2, ?i3, ?i4, ?i5, ?i6⟩, ?xm⟩; (case mR => refine' PySem.W.mg_of KX G ?z; (case z => k_is)); (case mE => refine' PySem.W.mg_of KX G ?z; (case z => k_is)); (case mH => refine' PySem.W.mg_of KX G ?z; (case z => k_is)); (case x => exact L2.xfB_ok (by kernel_rfl)); (case n => k_is); (case e1 => kernel_rfl); (case e2 => k_is); (case e3 => k_is); (case e4 => k_is); (case e5 => k_is); (case e6 => k_is); (case e7 => k_is); (case e8 => k_is); (case eE => kernel_rfl); (case p1 => k_is); (case p2 => k_is); (case p3 => k_is); (case p4 => k_is); (case i2 => k_is); (case i3 => k_is); (case i4 => k_is); (case i5 => k_is); (case i6 => kernel_rfl); (case xm => kernel_rfl))
    (case hmT => exact List.mem_singleton.mpr rfl); (case hu => exact fun p hp _ => by rw [List.mem_singleton.mp hp])
    (case D_is_number => refine' DL.dfn_mk KX G ?a ?l ?c ?k (fun _ _ _ _ _ _ us hl => match us, hl with | [_], _ => rfl); (case a => k_is); (case l => k_is); (case c => k_is); (case k => k_is))
    (case D_is_below => refine' DL.dfn_mk KX G ?a ?l ?c ?k (fun _ _ _ _ _ _ us hl => match us, hl with | [_, _], _ => rfl); (case a => k_is); (case l => k_is); (case c => k_is); (case k => k_is))
    (case D_is_sequence => refine' DL.dfn_mk KX G ?a ?l ?c ?k (fun _ _ _ _ _ _ us hl => match us, hl with | [_], _ => rfl); (case a => k_is); (case l => k_is); (case c => k_is); (case k => k_is))
    (case D_is_marks_number => refine' DL.dfn_mk KX G ?a ?l ?c ?k (fun _ _ _ _ _ _ us hl => match us, hl with | [_], _ => rfl); (case a => k_is); (case l => k_is); (case c => k_is); (case k => k_is))
    (case D_wrong_marks => refine' DL.dfnT_mk KX G ?a ?l ?lt ?r1 ?r2 ?c ?k (by decide) (fun _ _ _ _ _ _ _ us its l1 l2 => match us, its, l1, l2 with | [_, _, _], [_, _], _, _ => ⟨_, rfl, rfl⟩) (fun _ _ _ _ _ _ _ us its l1 l2 => match us, its, l1, l2 with | [_], [_, _], _, _ => ⟨_, rfl, rfl⟩); (case a => k_is); (case l => k_is); (case lt => k_is); (case r1 => first | exact rfl | exact ⟨_, rfl⟩); (case r2 => first | exact rfl | exact ⟨_, rfl⟩); (case c => k_is); (case k => k_is))
    (case D_Hands => refine' DL.cfn_mk KX G ?a ⟨?m1, ?m2, ?m3, ?m4⟩ ?l ?c ?k (fun _ _ _ _ _ _ us hl => match us, hl with | [_, _], _ => rfl); (case a => k_is); (case m2 => k_is); (case m1 => k_is); (case m3 => k_is); (case m4 => k_is); (case l => k_is); (case c => k_is); (case k => k_is))
    (case D_check_items => refine' DL.dfn_mk KX G ?a ?l ?c ?k (fun _ _ _ _ _ _ us hl => match us, hl with | [_, _], _ => rfl); (case a => k_is); (case l => k_is); (case c => k_is); (case k => k_is))
    (case D_check_story => refine' DL.dfn_mk KX G ?a ?l ?c ?k (fun _ _ _ _ _ _ us hl => match us, hl with | [_, _], _ => rfl); (case a => k_is); (case l => k_is); (case c => k_is); (case k => k_is))
    (case D_need_number => refine' DL.dfn_mk KX G ?a ?l ?c ?k (fun _ _ _ _ _ _ us hl => match us, hl with | [_], _ => rfl); (case a => k_is); (case l => k_is); (case c => k_is); (case k => k_is))
    (case D_spans_of => refine' DL.dfn_mk KX G ?a ?l ?c ?k (fun _ _ _ _ _ _ us hl => match us, hl with | [_], _ => rfl); (case a => k_is); (case l => k_is); (case c => k_is); (case k => k_is))
    (case D_sum_of_parts => refine' DL.dfn_mk KX G ?a ?l ?c ?k (fun _ _ _ _ _ _ us hl => match us, hl with | [_, _], _ => rfl); (case a => k_is); (case l => k_is); (case c => k_is); (case k => k_is))
    (case D_share => refine' DL.dfn_mk KX G ?a ?l ?c ?k (fun _ _ _ _ _ _ us hl => match us, hl with | [_], _ => rfl); (case a => k_is); (case l => k_is); (case c => k_is); (case k => k_is))
    (case D_common_multiple => refine' DL.dfn_mk KX G ?a ?l ?c ?k (fun _ _ _ _ _ _ us hl => match us, hl with | [_], _ => rfl); (case a => k_is); (case l => k_is); (case c => k_is); (case k => k_is))
    (case D_Rates => refine' DL.cfn_mk KX G ?a ⟨?m1, ?m2, ?m3, ?m4⟩ ?l ?c ?k (fun _ _ _ _ _ _ us hl => match us, hl with | [_, _], _ => rfl); (case a => k_is); (case m2 => k_is); (case m1 => k_is); (case m3 => k_is); (case m4 => k_is); (case l => k_is); (case c => k_is); (case k => k_is))
    (case D_number_behind => refine' DL.dfn_mk KX G ?a ?l ?c ?k (fun _ _ _ _ _ _ us hl => match us, hl with | [_, _, _], _ => rfl); (case a => k_is); (case l => k_is); (case c => k_is); (case k => k_is))
    (case D_as_tuples => refine' DL.dfn_mk KX G ?a ?l ?c ?k (fun _ _ _ _ _ _ us hl => match us, hl with | [_], _ => rfl); (case a => k_is); (case l => k_is); (case c => k_is); (case k => k_is))
    (case D_empty_logs => refine' DL.dfn_mk KX G ?a ?l ?c ?k (fun _ _ _ _ _ _ us hl => match us, hl with | [_], _ => rfl); (case a => k_is); (case l => k_is); (case c => k_is); (case k => k_is))
    (case D_grow_logs => refine' DL.dfnO_mk KX G ?a ?l ?ld ?r ?c ?k (fun _ _ _ _ _ _ us ws l1 l2 => match us, ws, l1, l2 with | [_, _], [_], _, _ => rfl) (fun _ _ _ _ _ _ us ks l1 l2 => match us, ks, l1, l2 with | [_, _], [_], _, _ => ⟨_, _, _, _, _, _, rfl, rfl, rfl⟩); (case a => k_is); (case l => k_is); (case ld => k_is); (case r => first | exact rfl | exact ⟨_, rfl⟩); (case c => k_is); (case k => k_is))
    (case D_fits_bounds => refine' DL.dfn_mk KX G ?a ?l ?c ?k (fun _ _ _ _ _ _ us hl => match us, hl with | [_, _], _ => rfl); (case a => k_is); (case l => k_is); (case c => k_is); (case k => k_is))
    (case D_is_log => refine' DL.dfn_mk KX G ?a ?l ?c ?k (fun _ _ _ _ _ _ us hl => match us, hl with | [_, _], _ => rfl); (case a => k_is); (case l => k_is); (case c => k_is); (case k => k_is))
    (case D_check_logs => refine' DL.dfn_mk KX G ?a ?l ?c ?k (fun _ _ _ _ _ _ us hl => match us, hl with | [_, _], _ => rfl); (case a => k_is); (case l => k_is); (case c => k_is); (case k => k_is))
    (case D__law_box => refine' DL.dfn_mk KX G ?a ?l ?c ?k (fun _ _ _ _ _ _ us hl => match us, hl with | [_, _], _ => rfl); (case a => k_is); (case l => k_is); (case c => k_is); (case k => k_is))
    (case D__law_common => refine' DL.dfn_mk KX G ?a ?l ?c ?k (fun _ _ _ _ _ _ us hl => match us, hl with | [_, _], _ => rfl); (case a => k_is); (case l => k_is); (case c => k_is); (case k => k_is))
    (case D_Refused => refine' DL.dfnE_mk KX G ?a ?e1 ?e2 ?e3 ?e4 ?e5 ?e6 (List.forall_mem_cons.mpr ⟨?n1, fun _ h => nomatch h⟩) ?fi ?ti ?l ?c ?k (fun _ _ _ _ _ _ us hl => match us, hl with | [_, _], _ => rfl); (case a => k_is); (case e1 => k_is); (case e2 => exact rfl); (case e3 => k_is); (case e4 => k_is); (case e5 => k_is); (case e6 => k_is); (case n1 => k_is); (case fi => k_is); (case ti => k_is); (case l => k_is); (case c => k_is); (case k => k_is))
    (case D_need_swallowing => refine' DL.dfn_mk KX G ?a ?l ?c ?k (fun _ _ _ _ _ _ us hl => match us, hl with | [_], _ => rfl); (case a => k_is); (case l => k_is); (case c => k_is); (case k => k_is))
    (case D_resting_number => refine' DL.dfnK_mk KX G ?a ?l ?c ?k (fun _ _ _ _ _ _ us hl => match us, hl with | [_], _ => rfl) (fun _ _ _ _ _ _ ws hl => match ws, hl with | [_], _ => rfl); (case a => k_is); (case l => k_is); (case c => k_is); (case k => k_is))
    (case D_need_length => refine' DL.dfn_mk KX G ?a ?l ?c ?k (fun _ _ _ _ _ _ us hl => match us, hl with | [_], _ => rfl); (case a => k_is); (case l => k_is); (case c => k_is); (case k => k_is))
    (case D_greatest_number => refine' DL.dfnO_mk KX G ?a ?l ?ld ?r ?c ?k (fun _ _ _ _ _ _ us ws l1 l2 => match us, ws, l1, l2 with | [_, _], [_], _, _ => rfl) (fun _ _ _ _ _ _ us ks l1 l2 => match us, ks, l1, l2 with | [_, _], [_], _, _ => ⟨_, _, _, _, _, _, rfl, rfl, rfl⟩); (case a => k_is); (case l => k_is); (case ld => k_is); (case r => first | exact rfl | exact ⟨_, rfl⟩); (case c => k_is); (case k => k_is))
    (case D_swallow_length => refine' DL.dfnK_mk KX G ?a ?l ?c ?k (fun _ _ _ _ _ _ us hl => match us, hl with | [_, _], _ => rfl) (fun _ _ _ _ _ _ ws hl => match ws, hl with | [_, _], _ => rfl); (case a => k_is); (case l => k_is); (case c => k_is); (case k => k_is))
    (case D__law_size => refine' DL.dfn_mk KX G ?a ?l ?c ?k (fun _ _ _ _ _ _ us hl => match us, hl with | [_], _ => rfl); (case a => k_is); (case l => k_is); (case c => k_is); (case k => k_is))
    (case D__law_step => refine' DL.dfn_mk KX G ?a ?l ?c ?k (fun _ _ _ _ _ _ us hl => match us, hl with | [_, _, _, _], _ => rfl); (case a => k_is); (case l => k_is); (case c => k_is); (case k => k_is))
    (case D__law_rest => refine' DL.dfn_mk KX G ?a ?l ?c ?k (fun _ _ _ _ _ _ us hl => match us, hl with | [_, _], _ => rfl); (case a => k_is); (case l => k_is); (case c => k_is); (case k => k_is))
    (case D__law_length => refine' DL.dfn_mk KX G ?a ?l ?c ?k (fun _ _ _ _ _ _ us hl => match us, hl with | [_, _, _, _], _ => rfl); (case a => k_is); (case l => k_is); (case c => k_is); (case k => k_is))
    (case D__law_take => refine' DL.dfn_mk KX G ?a ?l ?c ?k (fun _ _ _ _ _ _ us hl => match us, hl with | [_, _], _ => rfl); (case a => k_is); (case l => k_is); (case c => k_is); (case k => k_is))
    (case D__law_pick => refine' DL.dfn_mk KX G ?a ?l ?c ?k (fun _ _ _ _ _ _ us hl => match us, hl with | [_, _], _ => rfl); (case a => k_is); (case l => k_is); (case c => k_is); (case k => k_is))
    (case D_need_hand => refine' DL.dfn_mk KX G ?a ?l ?c ?k (fun _ _ _ _ _ _ us hl => match us, hl with | [_, _], _ => rfl); (case a => k_is); (case l => k_is); (case c => k_is); (case k => k_is))
    (case D_grow_step => refine' DL.dfn_mk KX G ?a ?l ?c ?k (fun _ _ _ _ _ _ us hl => match us, hl with | [_, _, _], _ => rfl); (case a => k_is); (case l => k_is); (case c => k_is); (case k => k_is))
    (case D__law_rest_right => refine' DL.dfn_mk KX G ?a ?l ?c ?k (fun _ _ _ _ _ _ us hl => match us, hl with | [_, _, _, _, _], _ => rfl); (case a => k_is); (case l => k_is); (case c => k_is); (case k => k_is))
    (case D__law_greatest => refine' DL.dfn_mk KX G ?a ?l ?c ?k (fun _ _ _ _ _ _ us hl => match us, hl with | [_, _, _, _], _ => rfl); (case a => k_is); (case l => k_is); (case c => k_is); (case k => k_is))
    (case D_span_with => refine' DL.dfn_mk KX G ?a ?l ?c ?k (fun _ _ _ _ _ _ us hl => match us, hl with | [_, _], _ => rfl); (case a => k_is); (case l => k_is); (case c => k_is); (case k => k_is))
    (case D_hand_told => refine' DL.dfn_mk KX G ?a ?l ?c ?k (fun _ _ _ _ _ _ us hl => match us, hl with | [_, _], _ => rfl); (case a => k_is); (case l => k_is); (case c => k_is); (case k => k_is))
    (case D_number_ahead => refine' DL.dfn_mk KX G ?a ?l ?c ?k (fun _ _ _ _ _ _ us hl => match us, hl with | [_, _, _, _], _ => rfl); (case a => k_is); (case l => k_is); (case c => k_is); (case k => k_is))
    (case D_grow_story => refine' DL.dfn_mk KX G ?a ?l ?c ?k (fun _ _ _ _ _ _ us hl => match us, hl with | [_, _, _], _ => rfl); (case a => k_is); (case l => k_is); (case c => k_is); (case k => k_is))
    (case D__law_refused => refine' DL.dfn_mk KX G ?a ?l ?c ?k (fun _ _ _ _ _ _ us hl => match us, hl with | [_], _ => rfl); (case a => k_is); (case l => k_is); (case c => k_is); (case k => k_is))
