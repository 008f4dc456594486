import PyProof.Rows.All
import Wide.All
import OpenK.AllK
import Wide.FinOn
import HandS.ForMost
import HandS.Exc
import HandS.CallSlots
import KE.KeyNested
import HandS.Defaults
import HandS.ExcOwn
import HandS.ExcInit
import HandS.ExcField
import HandS.ExcIs
import HandS.TryOnly
import HandS.TryMany
import HandS.IsInst
import HandS.Wide
import HandS.TupAny
import HandS.Gcd
import HandS.More
import HandS.Codes
import HandS.WordsDict
import HandS.OwnEq
import HandS.HeadEnd
import HandS.HeadHook1
import HandS.HeadHook2
import HandS.Head0
import HandS.Head1
import HandS.Head2
import PyProof.InstNe
import HandS.Head3
import PyProof.SeqIndex
import PyProof.FactsAll.dict_1
import HandS.Deep
import HandS.Iter
import KE.GoesMore
import PyProof.Draws
import PyProof.EnumMake
import HandS.Conv
import HandS.Style
import KE.GoesZip
import HandS.SetFor
import KE.KOpsOwn
import PyProof.StrReplace2
import KE.GoesEnum
import PyProof.SumAny
import HandS.SetKeys
import HandS.ListItems
import KE.KDictList
import HandS.HotCalls
import HandS.DictComp
import KE.KUnpack
import KE.DataMinMax
import PyProof.Rows.RowBridgeK
import KE.KRevSl
import OpenK.KOps
import HandS.Flow
import PySem.Challenge.RW_likespans_k25_faults_of_likenesses
set_option Elab.async false
set_option Elab.async false
set_option Elab.async false
set_option linter.all false
set_option autoImplicit false
set_option maxRecDepth 100000
set_option maxHeartbeats 2000000
/-! Data by value over the hand layer: D (tuples and instances by value, lists and dicts by their number in a store), and what evaluates to what. -/
namespace Lk
open PySem PySem.Spec PyProof.Rows L2

inductive D where
  | non | bl (b : Bool) | int (i : Int) | str (x : Str) | tup (xs : List D) | rol (xs : List D) | ref (n : Nat) | ins (C : Str) (xs : List D)
inductive Ob where
  | lst (xs : List D) | obj (C : Str) (xs : List D) | dk (kvs : List (Key × D)) | dt (kvs : List (D × D)) | gone
abbrev Store := List Ob
abbrev Env := List (Option D)
structure G where
  K : PySem.W.Frag
  c : Str → Addr
  flds : Str → List Str
  af : List Str
  xfl : Str → List Str
  xc : Option (Addr × Nat × Str × List D × Option Addr) := none
  w : Option World := none

/-- a list that is read alone -/
def SqR (K : PySem.W.Frag) (H : Hp) (a : Addr) (xs : List V) : Prop := SqL K H a xs ∧ ((∃ o, H a = some (.frz o (.lst xs))) ∨ ∃ (o : Obj) (its : Array Value) (n : Nat), K.lookup a = some o ∧ o.cls = .type "list" ∧ o.dict = none ∧ o.data = .seq its n ∧ its.size ≤ sizeLine ∧ Vals xs its.toList)
section
variable (Γ : G) (f : List Addr) (H : Hp)
mutual
def Rp : D → V → Prop
  | .non, v => v = .non
  | .bl b, v => v = .bl b
  | .int i, v => v = .int i
  | .str x, v => v = .str x
  | .tup ds, v => ∃ a vs, v = .ref a ∧ SqT Γ.K H a vs ∧ RpL ds vs
  | .rol ds, v => ∃ a vs, v = .ref a ∧ SqR Γ.K H a vs ∧ RpL ds vs
  | .ref n, v => ∃ a, f[n]? = some a ∧ v = .ref a
  | .ins C ds, v => ∃ a dx fvs, v = .ref a ∧ H a = some (.ins (Γ.c C) dx fvs) ∧ (∀ x, (fvs.lookup x).isSome = true → x ∈ Γ.af) ∧ RpF ds (Γ.flds C) fvs
def RpL : List D → List V → Prop
  | [], vs => vs = []
  | d :: ds, vs => ∃ v r, vs = v :: r ∧ Rp d v ∧ RpL ds r
def RpF : List D → List Str → List (Str × V) → Prop
  | [], _, _ => True
  | d :: ds, ns, fvs => ∃ x r v, ns = x :: r ∧ fvs.lookup x = some v ∧ Rp d v ∧ RpF ds r fvs
end
end
/-- what stays for ever: tuples, frozen things, instances' fields -/
structure Keep (Γ : G) (H H' : Hp) : Prop where
  tup : ∀ a xs, H a = some (.tup xs) → H' a = some (.tup xs)
  frz : ∀ a o u, H a = some (.frz o u) → H' a = some (.frz o u)
  xd : ∀ a fs, H a = some (.xd fs) → H' a = some (.xd fs)
  ins : ∀ C a dx fs, H a = some (.ins C dx fs) → ∃ fs', H' a = some (.ins C dx fs') ∧ (∀ x v, fs.lookup x = some v → fs'.lookup x = some v) ∧ ∀ x, (fs'.lookup x).isSome = true → (fs.lookup x).isSome = true ∨ x ∈ Γ.af
structure Up (Γ : G) (f : List Addr) (H : Hp) (f' : List Addr) (H' : Hp) : Prop where
  pre : ∃ t, f' = f ++ t
  keep : Keep Γ H H'
section
variable {Γ : G} {f f' f'' : List Addr} {H H' H'' : Hp}
theorem Keep.trans (a : Keep Γ H H') (b : Keep Γ H' H'') : Keep Γ H H'' := ⟨fun x y h => b.tup x y (a.tup x y h), fun x y z h => b.frz x y z (a.frz x y z h), fun x y h => b.xd x y (a.xd x y h), fun C x dx fs h => by
  obtain ⟨fs1, h1, s1, m1⟩ := a.ins C x dx fs h
  obtain ⟨fs2, h2, s2, m2⟩ := b.ins C x dx fs1 h1
  exact ⟨fs2, h2, fun x v q => s2 x v (s1 x v q), fun x q => (m2 x q).elim (fun z => m1 x z) .inr⟩⟩
theorem Up.trans (a : Up Γ f H f' H') (b : Up Γ f' H' f'' H'') : Up Γ f H f'' H'' := by
  obtain ⟨⟨t, e⟩, k⟩ := a
  obtain ⟨⟨u, e'⟩, k'⟩ := b
  exact ⟨⟨t ++ u, by rw [e', e, List.append_assoc]⟩, k.trans k'⟩
theorem Keep.sqT (k : Keep Γ H H') {a : Addr} {vs : List V} (h : SqT Γ.K H a vs) : SqT Γ.K H' a vs := by
  rcases h with (h | ⟨o, h⟩) | h
  · exact .inl (.inl (k.tup _ _ h))
  · exact .inl (.inr ⟨o, k.frz _ _ _ h⟩)
  · exact .inr h
theorem Keep.sqR (k : Keep Γ H H') {a : Addr} {vs : List V} (h : SqR Γ.K H a vs) : SqR Γ.K H' a vs := by
  rcases h.2 with ⟨o, h⟩ | h
  · exact ⟨.inl (.inr ⟨o, k.frz _ _ _ h⟩), .inl ⟨o, k.frz _ _ _ h⟩⟩
  · exact ⟨.inr h, .inr h⟩
theorem Up.at (u : Up Γ f H f' H') {n : Nat} {a : Addr} (h : f[n]? = some a) : f'[n]? = some a := by
  obtain ⟨⟨t, e⟩, _⟩ := u
  have hn := (List.getElem?_eq_some_iff.mp h).1
  rw [e, List.getElem?_append_left hn]
  exact h
mutual
theorem Rp.up (u : Up Γ f H f' H') : ∀ {d : D} {v : V}, Rp Γ f H d v → Rp Γ f' H' d v
  | .non, _, h => by simp only [Rp] at h ⊢; exact h
  | .bl _, _, h => by simp only [Rp] at h ⊢; exact h
  | .int _, _, h => by simp only [Rp] at h ⊢; exact h
  | .str _, _, h => by simp only [Rp] at h ⊢; exact h
  | .tup ds, _, h => by
    simp only [Rp] at h ⊢
    obtain ⟨a, vs, e, s, r⟩ := h
    exact ⟨a, vs, e, u.keep.sqT s, RpL.up u r⟩
  | .rol ds, _, h => by
    simp only [Rp] at h ⊢
    obtain ⟨a, vs, e, s, r⟩ := h
    exact ⟨a, vs, e, u.keep.sqR s, RpL.up u r⟩
  | .ref n, _, h => by
    simp only [Rp] at h ⊢
    obtain ⟨a, e, r⟩ := h
    exact ⟨a, u.at e, r⟩
  | .ins C ds, _, h => by
    simp only [Rp] at h ⊢
    obtain ⟨a, dx, fvs, e, s, m, r⟩ := h
    obtain ⟨fs', h', s', m'⟩ := u.keep.ins _ a dx fvs s
    exact ⟨a, dx, fs', e, h', fun x q => (m' x q).elim (m x) id, RpF.up u s' r⟩
theorem RpL.up (u : Up Γ f H f' H') : ∀ {ds : List D} {vs : List V}, RpL Γ f H ds vs → RpL Γ f' H' ds vs
  | [], _, h => by simp only [RpL] at h ⊢; exact h
  | d :: ds, _, h => by
    simp only [RpL] at h ⊢
    obtain ⟨v, r, e, h1, h2⟩ := h
    exact ⟨v, r, e, Rp.up u h1, RpL.up u h2⟩
theorem RpF.up (u : Up Γ f H f' H') : ∀ {ds : List D} {ns : List Str} {fs fs' : List (Str × V)}, (∀ x v, fs.lookup x = some v → fs'.lookup x = some v) → RpF Γ f H ds ns fs → RpF Γ f' H' ds ns fs'
  | [], _, _, _, _, h => by simp only [RpF]
  | d :: ds, _, _, _, s, h => by
    simp only [RpF] at h ⊢
    obtain ⟨x, r, v, e, l, h1, h2⟩ := h
    exact ⟨x, r, v, e, s x v l, Rp.up u h1, RpF.up u s h2⟩
end
end
/-! no number from n on stands in it -/
mutual
def D.cl (n : Nat) : D → Bool
  | .ref m => decide (m < n)
  | .tup ds => clL n ds
  | .rol ds => clL n ds
  | .ins _ ds => clL n ds
  | .non => true
  | .bl _ => true
  | .int _ => true
  | .str _ => true
def clL (n : Nat) : List D → Bool
  | [] => true
  | d :: ds => d.cl n && clL n ds
end
section
variable {Γ : G} {f f' : List Addr} {H H' : Hp}
mutual
theorem Rp.cl : ∀ {d : D} {v : V}, Rp Γ f H d v → d.cl f.length = true
  | .non, _, h => by simp only [D.cl]
  | .bl _, _, h => by simp only [D.cl]
  | .int _, _, h => by simp only [D.cl]
  | .str _, _, h => by simp only [D.cl]
  | .tup ds, _, h => by
    simp only [Rp] at h
    simp only [D.cl]
    obtain ⟨a, vs, e, s, r⟩ := h
    exact RpL.cl r
  | .rol ds, _, h => by
    simp only [Rp] at h
    simp only [D.cl]
    obtain ⟨a, vs, e, s, r⟩ := h
    exact RpL.cl r
  | .ref n, _, h => by
    simp only [Rp] at h
    simp only [D.cl]
    obtain ⟨a, e, r⟩ := h
    exact decide_eq_true (List.getElem?_eq_some_iff.mp e).1
  | .ins C ds, _, h => by
    simp only [Rp] at h
    simp only [D.cl]
    obtain ⟨a, dx, fvs, e, s, m, r⟩ := h
    exact RpF.cl r
theorem RpL.cl : ∀ {ds : List D} {vs : List V}, RpL Γ f H ds vs → clL f.length ds = true
  | [], _, h => by simp only [clL]
  | d :: ds, _, h => by
    simp only [RpL] at h
    simp only [clL]
    obtain ⟨v, r, e, h1, h2⟩ := h
    rw [Rp.cl h1, RpL.cl h2]
    rfl
theorem RpF.cl : ∀ {ds : List D} {ns : List Str} {fs : List (Str × V)}, RpF Γ f H ds ns fs → clL f.length ds = true
  | [], _, _, h => by simp only [clL]
  | d :: ds, _, _, h => by
    simp only [RpF] at h
    simp only [clL]
    obtain ⟨x, r, v, e, l, h1, h2⟩ := h
    rw [Rp.cl h1, RpF.cl h2]
    rfl
end
mutual
theorem Rp.cut {t : List Addr} : ∀ {d : D} {v : V}, d.cl f.length = true → Rp Γ (f ++ t) H d v → Rp Γ f H d v
  | .non, _, _, h => by simp only [Rp] at h ⊢; exact h
  | .bl _, _, _, h => by simp only [Rp] at h ⊢; exact h
  | .int _, _, _, h => by simp only [Rp] at h ⊢; exact h
  | .str _, _, _, h => by simp only [Rp] at h ⊢; exact h
  | .tup ds, _, c, h => by
    simp only [Rp] at h ⊢
    simp only [D.cl] at c
    obtain ⟨a, vs, e, s, r⟩ := h
    exact ⟨a, vs, e, s, RpL.cut c r⟩
  | .rol ds, _, c, h => by
    simp only [Rp] at h ⊢
    simp only [D.cl] at c
    obtain ⟨a, vs, e, s, r⟩ := h
    exact ⟨a, vs, e, s, RpL.cut c r⟩
  | .ref n, _, c, h => by
    simp only [Rp] at h ⊢
    simp only [D.cl] at c
    obtain ⟨a, e, r⟩ := h
    rw [List.getElem?_append_left (of_decide_eq_true c)] at e
    exact ⟨a, e, r⟩
  | .ins C ds, _, c, h => by
    simp only [Rp] at h ⊢
    simp only [D.cl] at c
    obtain ⟨a, dx, fvs, e, s, m, r⟩ := h
    exact ⟨a, dx, fvs, e, s, m, RpF.cut c r⟩
theorem RpL.cut {t : List Addr} : ∀ {ds : List D} {vs : List V}, clL f.length ds = true → RpL Γ (f ++ t) H ds vs → RpL Γ f H ds vs
  | [], _, _, h => by simp only [RpL] at h ⊢; exact h
  | d :: ds, _, c, h => by
    simp only [RpL] at h ⊢
    simp only [clL] at c
    obtain ⟨c1, c2⟩ := Bool.and_eq_true_iff.mp c
    obtain ⟨v, r, e, h1, h2⟩ := h
    exact ⟨v, r, e, Rp.cut c1 h1, RpL.cut c2 h2⟩
theorem RpF.cut {t : List Addr} : ∀ {ds : List D} {ns : List Str} {fs : List (Str × V)}, clL f.length ds = true → RpF Γ (f ++ t) H ds ns fs → RpF Γ f H ds ns fs
  | [], _, _, _, h => by simp only [RpF]
  | d :: ds, _, _, c, h => by
    simp only [RpF] at h ⊢
    simp only [clL] at c
    obtain ⟨c1, c2⟩ := Bool.and_eq_true_iff.mp c
    obtain ⟨x, r, v, e, l, h1, h2⟩ := h
    exact ⟨x, r, v, e, l, Rp.cut c1 h1, RpF.cut c2 h2⟩
end
end
end Lk

set_option Elab.async false
set_option linter.all false
set_option autoImplicit false
set_option maxRecDepth 100000
set_option maxHeartbeats 2000000
namespace Lk
open PySem PySem.Spec PyProof.Rows L2

mutual
/-- what a thing is as a key of a dict -/
def nkey : D → Option NestedKey
  | .non => some .none
  | .bl b => some (.num (if b = true then 1 else 0))
  | .int i => some (.num i)
  | .str x => some (.text x)
  | .tup ds => (nkeyL ds).map .tup
  | .rol _ => none
  | .ref _ => none
  | .ins _ _ => none
def nkeyL : List D → Option (List NestedKey)
  | [] => some []
  | d :: ds => (nkey d).bind fun k => (nkeyL ds).map fun ks => k :: ks
end
def dtE (w : World) (x : NestedKey × Addr × Value) : DictEntry := ⟨x.1.hash w, .ref x.2.1, x.2.2⟩
/-- a dict whose keys are tuples, whatever stands in them -/
def DtO (w : World) (a : Addr) (xs : List (NestedKey × Addr × Value)) : HO := .ext fun h => (xs.length ≤ sizeLine ∧ (a == sysModules) = false) ∧ ∃ o es ep, h.get? a = some o ∧ o.ExactDict ∧ o.data = .dict es ep ∧ es.toList = xs.map (dtE w) ∧ (xs.map (·.1)).Nodup
structure DtR (Γ : G) (f : List Addr) (H : Hp) (kvs : List (D × D)) (w : World) (xs : List (NestedKey × Addr × Value)) (us : List V) : Prop where
  w : Γ.w = some w
  ks : RpL Γ f H (kvs.map (·.1)) (xs.map fun x => .ref x.2.1)
  vs : RpL Γ f H (kvs.map (·.2)) us
  rv : Vals us (xs.map (·.2.2))
  nk : (kvs.map fun kv => nkey kv.1) = xs.map fun x => some x.1
  dp : ∀ x ∈ xs, x.1.depth ≤ 8
def ROb (Γ : G) (f : List Addr) (H : Hp) : Ob → Addr → Prop
  | .lst ds, a => ∃ vs, H a = some (.lst vs) ∧ RpL Γ f H ds vs
  | .dk kvs, a => ∃ us : List (Key × V), H a = some (.dK us) ∧ us.map (·.1) = kvs.map (·.1) ∧ RpL Γ f H (kvs.map (·.2)) (us.map (·.2))
  | .dt kvs, a => ∃ w xs us, H a = some (DtO w a xs) ∧ DtR Γ f H kvs w xs us
  | .obj C ds, a => ∃ dx fvs, H a = some (.ins (Γ.c C) dx fvs) ∧ RpF Γ f H ds (Γ.flds C) fvs ∧ (∀ x, (fvs.lookup x).isSome = true → x ∈ (Γ.flds C).take ds.length) ∧ fvs.length ≤ ds.length
  | .gone, a => ∃ o, H a = some o
/-- an exception's own dict -/
def XRep (Γ : G) (f : List Addr) (H : Hp) (C : Str) (ds : List D) (o : Option Addr) : Prop :=
  (ds = [] ∧ o = none) ∨ ∃ dd fvs, o = some dd ∧ H dd = some (.xd fvs) ∧ RpF Γ f H ds (Γ.xfl C) fvs

theorem nd_ix {N : List Addr} (hN : N.Nodup) {i j : Nat} {x : Addr} (a : N[i]? = some x) (b : N[j]? = some x) : i = j := by
  obtain ⟨h1, e1⟩ := List.getElem?_eq_some_iff.mp a
  obtain ⟨h2, e2⟩ := List.getElem?_eq_some_iff.mp b
  exact (List.getElem_inj hN).mp (e1.trans e2.symm)
structure RelS (Γ : G) (f : List Addr) (S : Store) (H : Hp) : Prop where
  len : f.length = S.length
  nd : f.Nodup
  ob : ∀ (n : Nat) (o : Ob), S[n]? = some o → ∃ a, f[n]? = some a ∧ ROb Γ f H o a
  xc : ∀ a i C ds o, Γ.xc = some (a, i, C, ds, o) → XRep Γ f H C ds o
def RelE (Γ : G) (f : List Addr) (H : Hp) (env : Env) (σ : L2.St) : Prop := env.length = σ.length ∧ (∀ (i : Nat) (d : D), env[i]? = some (some d) → ∃ v, σ[i]? = some (some v) ∧ Rp Γ f H d v) ∧ ∀ a i C ds o, Γ.xc = some (a, i, C, ds, o) → env[i]? = some none → σ[i]? = some (some (.ref a))
inductive R (α : Type) where
  | ok (a : α) (S : Store) | ex (C : Str) (ds : List D) (S : Store) | bad
def R.bind {α β : Type} (r : R α) (k : α → Store → R β) : R β := match r with
  | .ok a S => k a S
  | .ex C ds S => .ex C ds S
  | .bad => .bad
inductive RS where
  | nx (e : Env) (S : Store) | rt (d : D) (S : Store) | bk (e : Env) (S : Store) | ct (e : Env) (S : Store) | ex (C : Str) (ds : List D) (e : Env) (S : Store) | bad
abbrev ME := Env → Store → R D
abbrev MT := Env → Store → R Bool
abbrev MA := Env → Store → R (List D)
abbrev MS := Env → Store → RS

section
variable {Γ : G} {f f' f'' : List Addr} {H H' H'' : Hp} {S S' : Store} {α β : Type}
theorem XRep.up {C : Str} {ds : List D} {o : Option Addr} (u : Up Γ f H f' H') (h : XRep Γ f H C ds o) : XRep Γ f' H' C ds o := by
  rcases h with h | ⟨dd, fvs, e1, e2, r⟩
  · exact .inl h
  · exact .inr ⟨dd, fvs, e1, u.keep.xd _ _ e2, r.up u fun _ _ q => q⟩
theorem XRep.cl {C : Str} {ds : List D} {o : Option Addr} (h : XRep Γ f H C ds o) : clL f.length ds = true := by
  rcases h with ⟨h, _⟩ | ⟨dd, fvs, e1, e2, r⟩
  · rw [h]
    rfl
  · exact r.cl
theorem XRep.cut {C : Str} {ds : List D} {o : Option Addr} {t : List Addr} (c : clL f.length ds = true) (h : XRep Γ (f ++ t) H C ds o) : XRep Γ f H C ds o := by
  rcases h with h | ⟨dd, fvs, e1, e2, r⟩
  · exact .inl h
  · exact .inr ⟨dd, fvs, e1, e2, r.cut c⟩
theorem ROb.at {o : Ob} {a : Addr} (h : ROb Γ f H o a) : ∃ u, H a = some u := by
  cases o with
  | lst ds => obtain ⟨vs, e, _⟩ := h; exact ⟨_, e⟩
  | dk ds => obtain ⟨vs, e, _⟩ := h; exact ⟨_, e⟩
  | dt ds => obtain ⟨w, xs, us, e, _⟩ := h; exact ⟨_, e⟩
  | obj C ds => obtain ⟨dx, vs, e, _⟩ := h; exact ⟨_, e⟩
  | gone => exact h
theorem ROb.move {o : Ob} {a : Addr} (u : Up Γ f H f' H') (e : H' a = H a) (h : ROb Γ f H o a) : ROb Γ f' H' o a := by
  cases o with
  | lst ds => obtain ⟨vs, h1, h2⟩ := h; exact ⟨vs, e.trans h1, h2.up u⟩
  | dk ds => obtain ⟨vs, h1, h3, h2⟩ := h; exact ⟨vs, e.trans h1, h3, h2.up u⟩
  | dt ds => obtain ⟨w, xs, us, h1, h2⟩ := h; exact ⟨w, xs, us, e.trans h1, ⟨h2.w, h2.ks.up u, h2.vs.up u, h2.rv, h2.nk, h2.dp⟩⟩
  | obj C ds => obtain ⟨dx, vs, h1, h2, h3⟩ := h; exact ⟨dx, vs, e.trans h1, h2.up u fun _ _ q => q, h3⟩
  | gone => obtain ⟨o, h⟩ := h; exact ⟨o, e.trans h⟩
theorem RelS.set {n : Nat} {a : Addr} {o : HO} {b : Ob} (r : RelS Γ f S H) (ha : f[n]? = some a) (k : Keep Γ H (upd H a o)) (hb : ROb Γ f (upd H a o) b a) : RelS Γ f (S.set n b) (upd H a o) :=
  ⟨by rw [List.length_set]; exact r.len, r.nd, fun m d e => by
    by_cases hm : m = n
    · subst hm
      have hs : m < S.length := by rw [← r.len]; exact (List.getElem?_eq_some_iff.mp ha).1
      rw [List.getElem?_set_self hs] at e
      cases e
      exact ⟨a, ha, hb⟩
    · rw [List.getElem?_set_ne (Ne.symm hm)] at e
      obtain ⟨a', ha', ho⟩ := r.ob m d e
      have ne : a' ≠ a := fun z => by
        subst z
        exact hm (nd_ix r.nd ha' ha)
      exact ⟨a', ha', ho.move ⟨⟨[], by simp⟩, k⟩ (upd_ne ne)⟩, fun a i C ds o e => (r.xc a i C ds o e).up ⟨⟨[], by simp⟩, k⟩⟩
/-- an object is given up -/
theorem RelS.drop (r : RelS Γ f S H) (n : Nat) : RelS Γ f (S.set n .gone) H := ⟨by rw [List.length_set]; exact r.len, r.nd, fun m d e => by
  by_cases hm : m = n
  · subst hm
    have hs : m < S.length := by
      have := (List.getElem?_eq_some_iff.mp e).1
      rwa [List.length_set] at this
    rw [List.getElem?_set_self hs] at e
    cases e
    obtain ⟨a, ha, ho⟩ := r.ob m S[m] (List.getElem?_eq_getElem hs)
    exact ⟨a, ha, ho.at⟩
  · rw [List.getElem?_set_ne (Ne.symm hm)] at e
    exact r.ob m d e, r.xc⟩
theorem ROb.cl {o : Ob} {a : Addr} {t : List Addr} (h : ROb Γ f H o a) (h' : ROb Γ (f ++ t) H' o a) : ROb Γ f H' o a := by
  cases o with
  | lst ds => obtain ⟨vs, h1, h2⟩ := h; obtain ⟨vs', h1', h2'⟩ := h'; exact ⟨vs', h1', h2'.cut h2.cl⟩
  | dk ds => obtain ⟨vs, h1, h3, h2⟩ := h; obtain ⟨vs', h1', h3', h2'⟩ := h'; exact ⟨vs', h1', h3', h2'.cut h2.cl⟩
  | dt ds => obtain ⟨w, xs, us, h1, h2⟩ := h; obtain ⟨w', xs', us', h1', h2'⟩ := h'; exact ⟨w', xs', us', h1', ⟨h2'.w, h2'.ks.cut h2.ks.cl, h2'.vs.cut h2.vs.cl, h2'.rv, h2'.nk, h2'.dp⟩⟩
  | obj C ds => obtain ⟨dx, vs, h1, h2, h3⟩ := h; obtain ⟨dx', vs', h1', h2', h3'⟩ := h'; exact ⟨dx', vs', h1', h2'.cut h2.cl, h3'⟩
  | gone => exact h'
/-- what a call has made and nobody names is forgotten -/
theorem RelS.cut {S1 : Store} {t : List Addr} (r : RelS Γ f S H) (r1 : RelS Γ (f ++ t) S1 H') (e : S1.take S.length = S) : RelS Γ f S H' := ⟨r.len, r.nd, fun n o q => by
  have hn : n < S.length := (List.getElem?_eq_some_iff.mp q).1
  obtain ⟨a, ha, ho⟩ := r.ob n o q
  have q1 : S1[n]? = some o := by
    rw [← e, List.getElem?_take_of_lt hn] at q
    exact q
  obtain ⟨b, hb, ho'⟩ := r1.ob n o q1
  rw [List.getElem?_append_left (by rw [r.len]; exact hn), ha] at hb
  cases hb
  exact ⟨a, ha, ho.cl ho'⟩, fun a i C ds o q => (r1.xc a i C ds o q).cut (r.xc a i C ds o q).cl⟩
theorem RelE.up {env : Env} {σ : L2.St} (u : Up Γ f H f' H') (r : RelE Γ f H env σ) : RelE Γ f' H' env σ := ⟨r.1, fun i d e => by
  obtain ⟨v, h1, h2⟩ := r.2.1 i d e
  exact ⟨v, h1, h2.up u⟩, r.2.2⟩
theorem RelE.set {env : Env} {σ : L2.St} {d : D} {v : V} (r : RelE Γ f H env σ) (h : Rp Γ f H d v) (i : Nat) : RelE Γ f H (env.set i (some d)) (σ.set i (some v)) := ⟨by rw [List.length_set, List.length_set]; exact r.1, fun j e q => by
  by_cases hj : j = i
  · subst hj
    have hl : j < env.length := by
      have := (List.getElem?_eq_some_iff.mp q).1
      rwa [List.length_set] at this
    rw [List.getElem?_set_self hl] at q
    cases q
    exact ⟨v, List.getElem?_set_self (by rw [← r.1]; exact hl), h⟩
  · rw [List.getElem?_set_ne (Ne.symm hj)] at q
    obtain ⟨v', h1, h2⟩ := r.2.1 j e q
    exact ⟨v', by rw [List.getElem?_set_ne (Ne.symm hj)]; exact h1, h2⟩, fun a j C ds o e q => by
  by_cases hj : j = i
  · subst hj
    have hl : j < env.length := by
      have := (List.getElem?_eq_some_iff.mp q).1
      rwa [List.length_set] at this
    rw [List.getElem?_set_self hl] at q
    cases q
  · rw [List.getElem?_set_ne (Ne.symm hj)] at q ⊢
    exact r.2.2 a j C ds o e q⟩
/-- what a result of the mirror wants -/
def Wp (Γ : G) (W : WX) (σ : L2.St) (f : List Addr) (H : Hp) (rep : List Addr → Hp → α → β → Prop) (Q : β → Hp → Prop) : R α → Prop
  | .ok a S' => ∀ f' H' b, Up Γ f H f' H' → RelS Γ f' S' H' → rep f' H' a b → Q b H'
  | .ex C ds S' => ∀ f' H' o, Up Γ f H f' H' → RelS Γ f' S' H' → XRep Γ f' H' C ds o → W (.ref (Γ.c C)) o σ H'
  | .bad => False
theorem Wp.mono {W : WX} {σ : L2.St} {rep : List Addr → Hp → α → β → Prop} {Q : β → Hp → Prop} {r : R α} (u : Up Γ f H f' H') (h : Wp Γ W σ f H rep Q r) : Wp Γ W σ f' H' rep Q r := by
  cases r with
  | ok a S1 => exact fun f1 H1 b u1 => h f1 H1 b (u.trans u1)
  | ex C ds S1 => exact fun f1 H1 o u1 => h f1 H1 o (u.trans u1)
  | bad => exact h
/-- a bind's result, seen from its first part -/
theorem Wp.bindL {γ δ : Type} {W : WX} {σ : L2.St} {rep : List Addr → Hp → α → β → Prop} {rep2 : List Addr → Hp → γ → δ → Prop} {Q : δ → Hp → Prop} {Q1 : β → Hp → Prop} {r : R α} {k : α → Store → R γ} (h : Wp Γ W σ f H rep2 Q (r.bind k))
    (hk : ∀ a S1 f1 H1 b, Up Γ f H f1 H1 → RelS Γ f1 S1 H1 → rep f1 H1 a b → Wp Γ W σ f1 H1 rep2 Q (k a S1) → Q1 b H1) : Wp Γ W σ f H rep Q1 r := by
  cases r with
  | ok a S1 => exact fun f1 H1 b u1 r1 p => hk a S1 f1 H1 b u1 r1 p (Wp.mono u1 h)
  | ex C ds S1 => exact h
  | bad => exact h
def WpS (Γ : G) (W : WX) (f : List Addr) (H : Hp) (D : Ends) : RS → Prop
  | .nx e S' => ∀ f' σ' H', Up Γ f H f' H' → RelS Γ f' S' H' → RelE Γ f' H' e σ' → D.nx σ' H'
  | .rt d S' => ∀ f' H' v, Up Γ f H f' H' → RelS Γ f' S' H' → Rp Γ f' H' d v → D.rt v H'
  | .bk e S' => ∀ f' σ' H', Up Γ f H f' H' → RelS Γ f' S' H' → RelE Γ f' H' e σ' → D.bk σ' H'
  | .ct e S' => ∀ f' σ' H', Up Γ f H f' H' → RelS Γ f' S' H' → RelE Γ f' H' e σ' → D.ct σ' H'
  | .ex C ds e S' => ∀ f' σ' H' o, Up Γ f H f' H' → RelS Γ f' S' H' → RelE Γ f' H' e σ' → XRep Γ f' H' C ds o → W (.ref (Γ.c C)) o σ' H'
  | .bad => False
theorem WpS.mono {W : WX} {D : Ends} {r : RS} (u : Up Γ f H f' H') (h : WpS Γ W f H D r) : WpS Γ W f' H' D r := by
  cases r with
  | nx e S1 => exact fun f1 σ1 H1 u1 => h f1 σ1 H1 (u.trans u1)
  | rt d S1 => exact fun f1 H1 v u1 => h f1 H1 v (u.trans u1)
  | bk e S1 => exact fun f1 σ1 H1 u1 => h f1 σ1 H1 (u.trans u1)
  | ct e S1 => exact fun f1 σ1 H1 u1 => h f1 σ1 H1 (u.trans u1)
  | ex C ds e S1 => exact fun f1 σ1 H1 o u1 => h f1 σ1 H1 o (u.trans u1)
  | bad => exact h
def tE (Γ : G) (W : WX) (m : ME) : TE := fun σ H Q => ∃ env S f, RelS Γ f S H ∧ RelE Γ f H env σ ∧ Wp Γ W σ f H (Rp Γ) Q (m env S)
def tA (Γ : G) (W : WX) (m : MA) : TA := fun σ H Q => ∃ env S f, RelS Γ f S H ∧ RelE Γ f H env σ ∧ Wp Γ W σ f H (RpL Γ) Q (m env S)
def tS (Γ : G) (W : WX) (m : MS) : TS := fun D σ H => ∃ env S f, RelS Γ f S H ∧ RelE Γ f H env σ ∧ WpS Γ W f H D (m env S)
/-- a statement whose expression is evaluated first -/
def R.bindS {α : Type} (r : R α) (env : Env) (k : α → Store → RS) : RS := match r with
  | .ok a S => k a S
  | .ex C ds S => .ex C ds env S
  | .bad => .bad
theorem WpS.bindL {W : WX} {σ : L2.St} {env : Env} {rep : List Addr → Hp → α → β → Prop} {Q1 : β → Hp → Prop} {D : Ends} {r : R α} {k : α → Store → RS} (hE : RelE Γ f H env σ) (h : WpS Γ W f H D (r.bindS env k))
    (hk : ∀ a S1 f1 H1 b, Up Γ f H f1 H1 → RelS Γ f1 S1 H1 → rep f1 H1 a b → WpS Γ W f1 H1 D (k a S1) → Q1 b H1) : Wp Γ W σ f H rep Q1 r := by
  cases r with
  | ok a S1 => exact fun f1 H1 b u1 r1 p => hk a S1 f1 H1 b u1 r1 p (WpS.mono u1 h)
  | ex C ds S1 => exact fun f1 H1 o u1 r1 x => h f1 σ H1 o u1 r1 (hE.up u1) x
  | bad => exact h
end
end Lk

set_option Elab.async false
set_option linter.all false
set_option autoImplicit false
set_option maxRecDepth 100000
set_option maxHeartbeats 2000000
namespace Lk
open PySem PySem.Spec PyProof.Rows L2

/-! ### the mirror's words: expressions -/
def mVar (i : Nat) : ME := fun env S => match env[i]? with
  | some (some d) => .ok d S
  | _ => .bad
def mC (d : D) : ME := fun _ S => .ok d S
def mNil : MA := fun _ S => .ok [] S
def mCons (m : ME) (r : MA) : MA := fun env S => (m env S).bind fun d S1 => (r env S1).bind fun ds S2 => .ok (d :: ds) S2
def lim : Nat := 16777216
def mTup (m : MA) : ME := fun env S => (m env S).bind fun ds S1 => if ds.length ≤ lim then .ok (.tup ds) S1 else .bad
def mLst (m : MA) : ME := fun env S => (m env S).bind fun ds S1 => if ds.length ≤ lim then .ok (.ref S1.length) (S1 ++ [.lst ds]) else .bad
def m2 (g : D → D → Store → R D) (a b : ME) : ME := fun env S => (a env S).bind fun x S1 => (b env S1).bind fun y S2 => g x y S2
def m1 (g : D → Store → R D) (a : ME) : ME := fun env S => (a env S).bind fun x S1 => g x S1
def mB (g : List D → Store → R D) (a : MA) : ME := fun env S => (a env S).bind fun xs S1 => g xs S1
def mIf (t : MT) (a b : ME) : ME := fun env S => (t env S).bind fun c S1 => if c = true then a env S1 else b env S1
def asB : D → Store → R Bool
  | .bl b, S => .ok b S
  | _, _ => .bad
def mTest (a : ME) : MT := fun env S => (a env S).bind asB
def mAndT (t u : MT) : MT := fun env S => (t env S).bind fun c S1 => if c = true then u env S1 else .ok false S1
def mOrT (t u : MT) : MT := fun env S => (t env S).bind fun c S1 => if c = true then .ok true S1 else u env S1
def mNotT (t : MT) : MT := fun env S => (t env S).bind fun c S1 => .ok (!c) S1
def mAnd (a b : ME) : ME := fun env S => (a env S).bind fun x S1 => (asB x S1).bind fun c S2 => if c = true then b env S2 else .ok (.bl false) S2
def mOr (a b : ME) : ME := fun env S => (a env S).bind fun x S1 => (asB x S1).bind fun c S2 => if c = true then .ok (.bl true) S2 else b env S2
def mNot (a : ME) : ME := fun env S => (a env S).bind fun x S1 => (asB x S1).bind fun c S2 => .ok (.bl (!c)) S2
/-! ### statements -/
def mNext : MS := fun env S => .nx env S
def mRet (a : ME) : MS := fun env S => (a env S).bindS env fun d S1 => .rt d S1
def mRetN : MS := fun _ S => .rt .non S
def mDrop (a : ME) : MS := fun env S => (a env S).bindS env fun _ S1 => .nx env S1
def mSet (i : Nat) (a : ME) : MS := fun env S => (a env S).bindS env fun d S1 => .nx (env.set i (some d)) S1
def mIfS (t : MT) (a b : MS) : MS := fun env S => (t env S).bindS env fun c S1 => if c = true then a env S1 else b env S1
def mBreak : MS := fun env S => .bk env S
def mCont : MS := fun env S => .ct env S
/-- what a target does with a value -/
abbrev MG := D → Env → Store → R Env
def gSet (i : Nat) : MG := fun d env S => .ok (env.set i (some d)) S
abbrev MGs := List D → Env → Store → R Env
def gNil' : MGs := fun ds env S => match ds with
  | [] => .ok env S
  | _ => .bad
def gCons' (g : MG) (r : MGs) : MGs := fun ds env S => match ds with
  | [] => .bad
  | d :: ds => (g d env S).bind fun e S1 => r ds e S1
def gUnpack (n : Nat) (r : MGs) : MG := fun d env S => match d with
  | .tup ds => if ds.length = n then r ds env S else .bad
  | _ => .bad
def R.nxt (r : R Env) : RS := match r with
  | .ok e S => .nx e S
  | _ => .bad
def mAsg (a : ME) (g : MG) : MS := fun env S => (a env S).bindS env fun d S1 => (g d env S1).nxt

section
variable {Γ : G} {W : WX} {X : Cx} {f : List Addr} {H : Hp} {S : Store} {a b c : Expr} {es : List Expr} {ma mb mc : ME} {mt mu : MT} {mr : MA} {pos pos' : Pos}
/-! ### names, constants -/
/-! ### argument lists, displays -/
theorem RpL.length : ∀ {ds : List D} {vs : List V}, RpL Γ f H ds vs → ds.length = vs.length
  | [], _, h => by
    simp only [RpL] at h
    rw [h]
    rfl
  | _ :: ds, _, h => by
    simp only [RpL] at h
    obtain ⟨v, r, e, _, h2⟩ := h
    rw [e, List.length_cons, List.length_cons, RpL.length h2]
/-! ### operators by values -/
/-- a built-in by its arguments' values -/
def ArOk (Γ : G) (r : List V → Hp → VK → Prop) (g : List D → Store → R D) : Prop := ∀ (W : WX) (σ : L2.St) (f : List Addr) (S : Store) (H : Hp) (xs : List D) (vs : List V) (Q : VK), RelS Γ f S H → RpL Γ f H xs vs → Wp Γ W σ f H (Rp Γ) Q (g xs S) → r vs H Q
theorem many {r : List V → Hp → VK → Prop} {g : List D → Store → R D} (hg : ArOk Γ r g) {σ : L2.St} {H : Hp} {Q : VK} (h : tE Γ W (mB g mr) σ H Q) : tCB r (tA Γ W mr) σ H Q := by
  obtain ⟨env, S, f, rs, re, h⟩ := h
  exact ⟨env, S, f, rs, re, Wp.bindL h fun x S1 f1 H1 v u1 rs1 r1 h1 => hg W σ f1 S1 H1 x v Q rs1 r1 h1⟩
/-! ### tests -/
/-! ### statements -/
variable {st : Stmt} {sts sts' : List Stmt} {ms mn : MS}
end
section
variable {Γ : G} {W : WX} {X : Cx} {a : Expr} {es : List Expr} {ma : ME} {g : MG} {gs : MGs} {pos pos' : Pos}
end
end Lk

set_option Elab.async false
set_option linter.all false
set_option autoImplicit false
set_option maxRecDepth 100000
set_option maxHeartbeats 2000000
namespace Lk
open PySem PySem.Spec PyProof.Rows L2

noncomputable def gcX (S : Store) (C : Str) (ds : List D) (S1 : Store) : R D := open Classical in if clL S.length ds = true ∧ S1.take S.length = S then .ex C ds S else .ex C ds S1
/-- a def's promise -/
def spOf (Γ : G) (n : Nat) (m : List D → Store → R D) : Sp := fun vs H Q E => vs.length = n ∧ ∃ f S ds, RelS Γ f S H ∧ RpL Γ f H ds vs ∧ Wp Γ (fun c o _ H => E c o H) [] f H (Rp Γ) Q (m ds S)
section
variable {Γ : G} {f : List Addr} {H : Hp} {S : Store}
theorem Wp.gcX {W : WX} {σ : L2.St} {Q : VK} {C : Str} {ds : List D} {S1 : Store} (rs : RelS Γ f S H) (h : Wp Γ W σ f H (Rp Γ) Q (gcX S C ds S1)) : Wp Γ W σ f H (Rp Γ) Q (.ex C ds S1) := by
  unfold Lk.gcX at h
  split at h
  · rename_i c
    intro f' H' b u r1 p
    obtain ⟨⟨t, e⟩, k⟩ := u
    subst e
    exact h f H' b ⟨⟨[], by simp⟩, k⟩ (rs.cut r1 c.2) (p.cut (by rw [rs.len]; exact c.1))
  · exact h
end
section
variable {Γ : G} {P : Program} {w : World} {mg : Str → Option Value} {base : Heap}
end
/-! ### calls -/
def mCall (n : Nat) (m : List D → Store → R D) (a : MA) : ME := fun env S => (a env S).bind fun ds S1 => if ds.length = n then m ds S1 else .bad
section
variable {Γ : G} {W : WX} {X : Cx} {f : List Addr} {H : Hp} {S : Store} {a o : Expr} {es : List Expr} {ma : ME} {mr : MA} {p pos apos : Pos} {x : Str} {fA : Addr} {fd : FuncData} {ps : List Str} {k n : Nat} {m : List D → Store → R D}
theorem Wp.spOf {σ : L2.St} {Q : VK} {xs : List D} {vs : List V} (rs : RelS Γ f S H) (r : RpL Γ f H xs vs) (h : Wp Γ W σ f H (Rp Γ) Q (if xs.length = n then m xs S else .bad)) : spOf Γ n m vs H Q (WE W σ) := by
  by_cases hl : xs.length = n
  · rw [if_pos hl] at h
    refine ⟨by rw [← r.length]; exact hl, f, S, xs, rs, r, ?_⟩
    revert h
    cases m xs S with
    | ok d S' => exact fun h => h
    | ex C ds S' => exact fun h => h
    | bad => exact fun h => h
  · rw [if_neg hl] at h
    exact h.elim
end
end Lk

set_option Elab.async false
set_option linter.all false
set_option autoImplicit false
set_option maxRecDepth 100000
set_option maxHeartbeats 2000000
namespace Lk
open PySem PySem.Spec PyProof.Rows L2

/-! ### what a loop goes over: the items, and what must stand meanwhile -/
structure Src where
  items : List D
  gd : Store → Prop
def vals (xs : List D) : Src := ⟨xs, fun _ => True⟩
def lstAt (n : Nat) (xs : List D) : Src := ⟨xs, fun S => S[n]? = some (.lst xs)⟩
abbrev MI := Env → Store → R Src
/-- an iterator J yields these -/
structure Serves (Γ : G) (J : It) (ok : List Addr → Store → Hp → Prop) (items : List D) : Prop where
  go : ∀ (f : List Addr) (S : Store) (H : Hp) (i : Nat) (d : D), RelS Γ f S H → ok f S H → items[i]? = some d → J.go i H ∧ ∀ x H', J.yld i H x H' → Up Γ f H f H' ∧ RelS Γ f S H' ∧ Rp Γ f H' d x
  stop : ∀ (f : List Addr) (S : Store) (H : Hp), RelS Γ f S H → ok f S H → J.stop items.length H
/-! ### for -/
noncomputable def forGo (gd : Store → Prop) (g : MG) (mb : MS) : List D → Env → Store → RS
  | [], env, S => open Classical in if gd S then .nx env S else .bad
  | d :: ds, env, S => open Classical in if gd S then (match g d env S with
    | .ok e1 S1 => (match mb e1 S1 with
      | .nx e2 S2 => forGo gd g mb ds e2 S2
      | .ct e2 S2 => forGo gd g mb ds e2 S2
      | .bk e2 S2 => .nx e2 S2
      | r => r)
    | _ => .bad) else .bad
noncomputable def mFor (mi : MI) (g : MG) (mb : MS) : MS := fun env S => (mi env S).bindS env fun s S1 => forGo s.gd g mb s.items env S1
section
variable {Γ : G} {W : WX} {X : Cx} {f : List Addr} {H : Hp} {S : Store}
/-! ### what is gone over -/
def srcOf (d : D) (S : Store) : R Src := match d with
  | .tup xs => .ok (vals xs) S
  | .rol xs => .ok (vals xs) S
  | .ref n => (match S[n]? with
    | some (.lst xs) => .ok (lstAt n xs) S
    | _ => .bad)
  | _ => .bad
def iSeq (m : ME) : MI := fun env S => (m env S).bind srcOf
/-! ### ranges -/
def rngI (lo : Int) (n : Nat) : List D := (List.range n).map fun (i : Nat) => D.int (lo + i)
def bd (j : Int) : Prop := -(2 ^ 62) ≤ j ∧ j < 2 ^ 62
instance (j : Int) : Decidable (bd j) := inferInstanceAs (Decidable (_ ∧ _))
def iRng1' (m : MA) : MI := fun env S => (m env S).bind fun ds S1 => match ds with
  | [.int j] => if bd j then .ok (vals (rngI 0 j.toNat)) S1 else .bad
  | _ => .bad
end
/-! ### while: so many turns at most -/
def whileGo (t : MT) (mb : MS) : Nat → Env → Store → RS
  | 0, _, _ => .bad
  | n + 1, env, S => match t env S with
    | .ok true S1 => (match mb env S1 with
      | .nx e2 S2 => whileGo t mb n e2 S2
      | .ct e2 S2 => whileGo t mb n e2 S2
      | .bk e2 S2 => .nx e2 S2
      | r => r)
    | .ok false S1 => .nx env S1
    | .ex C ds S1 => .ex C ds env S1
    | .bad => .bad
def mWhile (n : Nat) (t : MT) (mb : MS) : MS := fun env S => whileGo t mb n env S
section
variable {Γ : G} {W : WX} {X : Cx} {f : List Addr} {H : Hp} {S : Store}
end
end Lk

set_option Elab.async false
set_option linter.all false
set_option autoImplicit false
set_option maxRecDepth 100000
set_option maxHeartbeats 2000000
namespace Lk
open PySem PySem.Spec PyProof.Rows L2

/-! ### comprehensions: the targets are names, or a tuple of names -/
inductive Tg where
  | nm (i : Nat) | tp (is : List Nat)
def setL : List Nat → List D → Env → Env
  | i :: is, d :: ds, env => setL is ds (env.set i (some d))
  | _, _, env => env
def Tg.put (t : Tg) (d : D) (env : Env) : Option Env := match t, d with
  | .nm i, d => some (env.set i (some d))
  | .tp is, .tup ds => if ds.length = is.length then some (setL is ds env) else none
  | _, _ => none
def wipeE (env : Env) : List Nat → Env
  | [] => env
  | v :: vs => (wipeE env vs).set v none
noncomputable def lcGo (gd : Store → Prop) (g : Tg) (mt : MT) (me : ME) (env : Env) (p : Nat) : List D → Store → R D
  | [], S => open Classical in if gd S then .ok (.ref p) S else .bad
  | d :: ds, S => open Classical in if gd S then (match g.put d env with
    | some e1 => (match mt e1 S with
      | .ok true S2 => (match me e1 S2 with
        | .ok y S3 => (match S3[p]? with
          | some (.lst acc) => if acc.length < lim then lcGo gd g mt me env p ds (S3.set p (.lst (acc ++ [y]))) else .bad
          | _ => .bad)
        | _ => .bad)
      | .ok false S2 => lcGo gd g mt me env p ds S2
      | _ => .bad)
    | _ => .bad) else .bad
noncomputable def mLc (mi : MI) (g : Tg) (mt : MT) (me : ME) (vs : List Nat) : ME := fun env S => (mi env S).bind fun s S1 => lcGo s.gd g mt me (wipeE env vs) S1.length s.items (S1 ++ [.lst []])
section
variable {Γ : G} {W : WX} {X : Cx} {f : List Addr} {H : Hp} {S : Store}
/-- nothing is wished of an exception -/
abbrev Wno : WX := fun _ _ _ _ => False
end
end Lk

set_option Elab.async false
set_option linter.all false
set_option autoImplicit false
set_option maxRecDepth 100000
set_option maxHeartbeats 2000000
namespace Lk
open PySem PySem.Spec PyProof.Rows L2

/-! ### attributes -/
def fieldOf (flds : Str → List Str) (S : Store) (x : Str) : D → Option D
  | .ins C ds => ((flds C).zip ds).lookup x
  | .ref n => (match S[n]? with
    | some (.obj C ds) => ((flds C).zip ds).lookup x
    | _ => none)
  | _ => none
def mFld (flds : Str → List Str) (x : Str) (a : ME) : ME := fun env S => (a env S).bind fun d S1 => match fieldOf flds S1 x d with
  | some e => .ok e S1
  | none => .bad
/-- what the text says of a plain class -/
structure PlC (Γ : G) (C : Str) : Prop where
  cls : Cls Γ.K (Γ.c C)
  sub : ∀ x ∈ Γ.flds C, x ∈ Γ.af
  na : ∀ x ∈ Γ.flds C, NoAttr Γ.K (Γ.c C) x
/-- .. of all of them -/
def PlAll (Γ : G) (cs : List Str) : Prop := (∀ C ∈ cs, PlC Γ C) ∧ ∀ C, C ∉ cs → Γ.flds C = []
section
variable {Γ : G} {W : WX} {X : Cx} {f : List Addr} {H : Hp} {S : Store} {e o : Expr} {es : List Expr} {ma : ME} {mr : MA} {p pos apos : Pos} {x : Str} {cs : List Str}
theorem PlAll.of (pl : PlAll Γ cs) {C x : Str} (h : x ∈ Γ.flds C) : PlC Γ C := by
  by_cases m : C ∈ cs
  · exact pl.1 C m
  · rw [pl.2 C m] at h
    cases h
end
/-! ### self.x = e within __init__ -/
section
variable {Γ : G} {W : WX} {X : Cx} {f : List Addr} {H : Hp} {S : Store} {e o : Expr} {es : List Expr} {ma : ME} {mr : MA} {p pos apos pos' : Pos} {x : Str} {cs : List Str}
end
/-! ### a new instance -/
noncomputable def mkEnd (S1 : Store) (C : Str) (xs : List D) (S2 : Store) : R D := open Classical in if clL S1.length xs = true ∧ S2.take S1.length = S1 then .ok (.ins C xs) S1 else .ok (.ins C xs) (S2.set S1.length .gone)
noncomputable def mkOf (C : Str) (m : List D → Store → R D) (ds : List D) (S1 : Store) : R D := match m (.ref S1.length :: ds) (S1 ++ [.obj C []]) with
  | .ok .non S2 => (match S2[S1.length]? with
    | some (.obj C' xs) => if C' = C then mkEnd S1 C xs S2 else .bad
    | _ => .bad)
  | .ok _ _ => .bad
  | .ex C' xs S2 => gcX S1 C' xs S2
  | .bad => .bad
noncomputable def mMake (C : Str) (n : Nat) (m : List D → Store → R D) (a : MA) : ME := fun env S => (a env S).bind fun ds S1 => if ds.length + 1 = n then mkOf C m ds S1 else .bad
section
variable {Γ : G} {W : WX} {X : Cx} {f : List Addr} {H : Hp} {S : Store} {a : Expr} {es : List Expr} {mr : MA} {p pos : Pos} {x C : Str} {fA : Addr} {fd : FuncData} {ps : List Str} {k n : Nat} {m : List D → Store → R D}
end
/-! ### methods -/
section
variable {Γ : G} {W : WX} {X : Cx} {f : List Addr} {H : Hp} {S : Store} {a o : Expr} {es : List Expr} {mo : ME} {mr : MA} {p pos apos : Pos} {x C mn : Str} {fA : Addr} {fd : FuncData} {ps : List Str} {k n : Nat} {m : List D → Store → R D}
end
end Lk

set_option Elab.async false
set_option linter.all false
set_option autoImplicit false
set_option maxRecDepth 100000
set_option maxHeartbeats 2000000
namespace Lk
open PySem PySem.Spec PyProof.Rows L2

/-! ### errors whose __init__ keeps one thing -/
def spX1 (Ca : Addr) (fn : Str) : Sp := fun vs H Q _ => ∃ a v, vs = [.ref a, v] ∧ H a = some (exo a Ca none) ∧ ∀ d, H d = none → d ≠ a → Q .non (upd (upd H d (exd d [(fn, v)])) a (exo a Ca (some d)))
/-- what the text says of an error class with one field -/
structure X1 (Γ : G) (P : Program) (w : World) (mg : Str → Option Value) (base : Heap) (C fn : Str) : Prop where
  oex : OexC Γ.K (Γ.c C)
  fl : Γ.xfl C = [fn]
  gl : mg C = some (.ref (Γ.c C))
  ini : ∃ fI fd s n, PySem.W.findIn Γ.K (.ref (Γ.c C)) "__init__" = some (some (.ref fI)) ∧ PySem.W.typeIn Γ.K (.ref fI) = some (.type "function") ∧ FnOk P w Γ.K mg base (L2.CX P w) 1 fI fd [s, n] (spX1 (Γ.c C) fn) ∧ Binds Γ.K fd [s, n] []
def mRaise1 (C : Str) (a : ME) : MS := fun env S => (a env S).bindS env fun d S1 => .ex C [d] env S1
section
variable {Γ : G} {W : WX} {X : Cx} {f : List Addr} {H : Hp} {S : Store} {e : Expr} {ma : ME} {p pos pos2 : Pos} {C fn : Str}
end
/-! ### errors that keep nothing -/
def spX0 (Ca : Addr) : Sp := fun vs H Q _ => ∃ a, vs = [.ref a] ∧ H a = some (exo a Ca none) ∧ Q .non H
structure X0 (Γ : G) (P : Program) (w : World) (mg : Str → Option Value) (base : Heap) (C : Str) : Prop where
  oex : OexC Γ.K (Γ.c C)
  gl : mg C = some (.ref (Γ.c C))
  ini : ∃ fI fd s, PySem.W.findIn Γ.K (.ref (Γ.c C)) "__init__" = some (some (.ref fI)) ∧ PySem.W.typeIn Γ.K (.ref fI) = some (.type "function") ∧ FnOk P w Γ.K mg base (L2.CX P w) 1 fI fd [s] (spX0 (Γ.c C)) ∧ Binds Γ.K fd [s] []
def mRaise0 (C : Str) : MS := fun env S => .ex C [] env S
section
variable {X : Cx} {p pos pos2 : Pos}
end
/-- alike but for the error that is being handled -/
structure Sim (Γ Γ' : G) : Prop where
  K : Γ.K = Γ'.K
  c : Γ.c = Γ'.c
  flds : Γ.flds = Γ'.flds
  af : Γ.af = Γ'.af
  xfl : Γ.xfl = Γ'.xfl
  w : Γ.w = Γ'.w
section
variable {Γ Γ' : G} {f f' : List Addr} {H H' : Hp} {S : Store}
mutual
theorem Rp.sim (s : Sim Γ Γ') : ∀ {d : D} {v : V}, Rp Γ f H d v → Rp Γ' f H d v
  | .non, _, h => by simp only [Rp] at h ⊢; exact h
  | .bl _, _, h => by simp only [Rp] at h ⊢; exact h
  | .int _, _, h => by simp only [Rp] at h ⊢; exact h
  | .str _, _, h => by simp only [Rp] at h ⊢; exact h
  | .tup ds, _, h => by
    simp only [Rp] at h ⊢
    obtain ⟨a, vs, e, q, r⟩ := h
    exact ⟨a, vs, e, by rw [← s.K]; exact q, RpL.sim s r⟩
  | .rol ds, _, h => by
    simp only [Rp] at h ⊢
    obtain ⟨a, vs, e, q, r⟩ := h
    exact ⟨a, vs, e, by rw [← s.K]; exact q, RpL.sim s r⟩
  | .ref n, _, h => by simp only [Rp] at h ⊢; exact h
  | .ins C ds, _, h => by
    simp only [Rp] at h ⊢
    obtain ⟨a, dx, fvs, e, q, m, r⟩ := h
    exact ⟨a, dx, fvs, e, by rw [← s.c]; exact q, by rw [← s.af]; exact m, by rw [← s.flds]; exact RpF.sim s r⟩
theorem RpL.sim (s : Sim Γ Γ') : ∀ {ds : List D} {vs : List V}, RpL Γ f H ds vs → RpL Γ' f H ds vs
  | [], _, h => by simp only [RpL] at h ⊢; exact h
  | d :: ds, _, h => by
    simp only [RpL] at h ⊢
    obtain ⟨v, r, e, h1, h2⟩ := h
    exact ⟨v, r, e, Rp.sim s h1, RpL.sim s h2⟩
theorem RpF.sim (s : Sim Γ Γ') : ∀ {ds : List D} {ns : List Str} {fs : List (Str × V)}, RpF Γ f H ds ns fs → RpF Γ' f H ds ns fs
  | [], _, _, h => by simp only [RpF]
  | d :: ds, _, _, h => by
    simp only [RpF] at h ⊢
    obtain ⟨x, r, v, e, l, h1, h2⟩ := h
    exact ⟨x, r, v, e, l, Rp.sim s h1, RpF.sim s h2⟩
end
end
abbrev G.at_ (Γ : G) (a : Addr) (i : Nat) (C : Str) (ds : List D) (o : Option Addr) : G := { Γ with xc := some (a, i, C, ds, o) }
/-! ### try .. except C as n -/
theorem PSs.some {X : Cx} {b : List Stmt} {ι : Type} {P : ι → Prop} {t : ι → TS} (h : ∀ i, P i → PSs X b (t i)) : PSs X b (fun D σ H => ∃ i, P i ∧ t i D σ H) := ⟨fun pins s σ H D I ⟨i, p, q⟩ => (h i p).run pins s σ H D I q⟩
section
variable {Γ : G} {W : WX} {X : Cx} {C n : Str} {i : Nat} {body suite : List Stmt} {b₀ : Stmt} {np pos pos' : Pos} {mb : MS} {ms : Str → List D → MS} {sb : Str → Option Bool}
end
end Lk

set_option Elab.async false
set_option linter.all false
set_option autoImplicit false
set_option maxRecDepth 100000
set_option maxHeartbeats 2000000
namespace Lk
open PySem PySem.Spec PyProof.Rows L2

/-! ### several readings of one operation -/
section
variable {Γ : G} {W : WX} {X : Cx} {f : List Addr} {H : Hp} {S : Store}
theorem Rp.int {i : Int} {v : V} (h : Rp Γ f H (.int i) v) : v = .int i := by simpa only [Rp] using h
theorem Rp.bl {i : Bool} {v : V} (h : Rp Γ f H (.bl i) v) : v = .bl i := by simpa only [Rp] using h
theorem Rp.str {i : Str} {v : V} (h : Rp Γ f H (.str i) v) : v = .str i := by simpa only [Rp] using h
theorem Rp.non {v : V} (h : Rp Γ f H .non v) : v = .non := by simpa only [Rp] using h
theorem Rp.tup {ds : List D} {v : V} (h : Rp Γ f H (.tup ds) v) : ∃ a vs, v = .ref a ∧ SqT Γ.K H a vs ∧ RpL Γ f H ds vs := by simpa only [Rp] using h
theorem Rp.rol {ds : List D} {v : V} (h : Rp Γ f H (.rol ds) v) : ∃ a vs, v = .ref a ∧ SqR Γ.K H a vs ∧ RpL Γ f H ds vs := by simpa only [Rp] using h
theorem Rp.ref {n : Nat} {v : V} (h : Rp Γ f H (.ref n) v) : ∃ a, f[n]? = some a ∧ v = .ref a := by simpa only [Rp] using h
theorem RelS.lst {n : Nat} {xs : List D} {v : V} (rs : RelS Γ f S H) (hn : S[n]? = some (.lst xs)) (r : Rp Γ f H (.ref n) v) : ∃ a vs, f[n]? = some a ∧ v = .ref a ∧ H a = some (.lst vs) ∧ RpL Γ f H xs vs := by
  obtain ⟨a, ha, e⟩ := r.ref
  obtain ⟨b, hb, vs, hh, rv⟩ := rs.ob n _ hn
  rw [ha] at hb
  cases hb
  exact ⟨a, vs, ha, e, hh, rv⟩
/-! ### + - * // % ** -/
def gAdd : D → D → Store → R D
  | .int i, .int j, S => .ok (.int (i + j)) S
  | .tup a, .tup b, S => if a.length + b.length ≤ lim then .ok (.tup (a ++ b)) S else .bad
  | .ref n, .ref m, S => (match S[n]?, S[m]? with
    | some (.lst a), some (.lst b) => if a.length + b.length ≤ lim then .ok (.ref S.length) (S ++ [.lst (a ++ b)]) else .bad
    | _, _ => .bad)
  | _, _, _ => .bad
def gSub : D → D → Store → R D
  | .int i, .int j, S => .ok (.int (i - j)) S
  | _, _, _ => .bad
def bits (i : Int) : Nat := i.natAbs.log2
def gMul : D → D → Store → R D
  | .int i, .int j, S => if bits i + bits j < 1000000 then .ok (.int (i * j)) S else .bad
  | .ref n, .int k, S => (match S[n]? with
    | some (.lst a) => if -(2 ^ 63) ≤ k ∧ k < 2 ^ 63 ∧ a.length * k.toNat ≤ lim then .ok (.ref S.length) (S ++ [.lst (List.replicate k.toNat a).flatten]) else .bad
    | _ => .bad)
  | _, _, _ => .bad
/-- floor division and its rest, by any divisor but 0 -/
def fdv (i j : Int) : Int := if 0 < j then i / j else (-i) / (-j)
def fmd (i j : Int) : Int := if 0 < j then i % j else -((-i) % (-j))
def gDiv : D → D → Store → R D
  | .int i, .int j, S => if j ≠ 0 ∧ bits j < 9000 then .ok (.int (fdv i j)) S else .bad
  | _, _, _ => .bad
def gMod : D → D → Store → R D
  | .int i, .int j, S => if j ≠ 0 then .ok (.int (fmd i j)) S else .bad
  | _, _, _ => .bad
def gNeg : D → Store → R D
  | .int i, S => .ok (.int (-i)) S
  | _, _ => .bad
/-! ### order, None -/
def gCmp (p : Int → Int → Bool) : D → D → Store → R D
  | .int i, .int j, S => .ok (.bl (p i j)) S
  | _, _, _ => .bad
def isNonD : D → Bool
  | .non => true
  | _ => false
def gIsN : D → D → Store → R D
  | x, .non, S => .ok (.bl (isNonD x)) S
  | _, _, _ => .bad
def gNotN : D → D → Store → R D
  | x, .non, S => .ok (.bl (!isNonD x)) S
  | _, _, _ => .bad
/-! ### items, slices -/
def listOf (S : Store) : D → Option (List D)
  | .tup ds => some ds
  | .rol ds => some ds
  | .ref n => (match S[n]? with
    | some (.lst ds) => some ds
    | _ => none)
  | _ => none
def gIx : D → D → Store → R D
  | x, .int i, S => (match listOf S x with
    | some ds => (match atI ds i with
      | some d => .ok d S
      | none => .bad)
    | none => .bad)
  | _, _, _ => .bad
/-- the bounds of a slice -/
def toO (o : Option ME) : Env → Store → R (Option Int) := match o with
  | none => fun _ S => .ok none S
  | some m => fun env S => (m env S).bind fun d S1 => match d with
    | .int i => .ok (some i) S1
    | _ => .bad
def cutD (xs : List D) (lo hi : Option Int) : List D := (xs.drop (HT.sIx xs.length 0 lo)).take (HT.sIx xs.length xs.length hi - HT.sIx xs.length 0 lo)
def gSl (d : D) (lo hi : Option Int) (S : Store) : R D := match listOf S d with
  | some ds => (match d with
    | .tup _ => .ok (.tup (cutD ds lo hi)) S
    | _ => .ok (.ref S.length) (S ++ [.lst (cutD ds lo hi)]))
  | none => .bad
def mSl (a : ME) (lo hi : Option ME) : ME := fun env S => (a env S).bind fun d S1 => (toO lo env S1).bind fun l S2 => (toO hi env S2).bind fun h S3 => gSl d l h S3
/-! ### stores into lists -/
def stIx (d : D) (env : Env) : D → D → Store → R Env
  | .ref n, .int k, S2 => (match S2[n]? with
    | some (.lst ds) => (match ixN ds.length k with
      | some j => .ok env (S2.set n (.lst (ds.set j d)))
      | none => .bad)
    | _ => .bad)
  | _, _, _ => .bad
def gSub' (o i : ME) : MG := fun d env S => (o env S).bind fun x S1 => (i env S1).bind fun y S2 => stIx d env x y S2
end
end Lk

set_option Elab.async false
set_option linter.all false
set_option autoImplicit false
set_option maxRecDepth 100000
set_option maxHeartbeats 2000000
namespace Lk
open PySem PySem.Spec PyProof.Rows L2

section
variable {Γ : G} {W : WX} {X : Cx} {f : List Addr} {H : Hp} {S : Store}
/-! ### built-ins -/
def dInts : List D → Option (List Int)
  | [] => some []
  | .int i :: ds => (dInts ds).map (i :: ·)
  | _ :: _ => none
def dBools : List D → Option (List Bool)
  | [] => some []
  | .bl i :: ds => (dBools ds).map (i :: ·)
  | _ :: _ => none
def gLen : List D → Store → R D
  | [.str z], S => if z.length ≤ lim then .ok (.int z.length) S else .bad
  | [.ref n], S => (match S[n]? with
    | some (.lst ds) => .ok (.int ds.length) S
    | some (.dk ds) => .ok (.int ds.length) S
    | _ => .bad)
  | [.tup ds], S => .ok (.int ds.length) S
  | [.rol ds], S => .ok (.int ds.length) S
  | _, _ => .bad
def gInt : List D → Store → R D
  | [.int i], S => .ok (.int i) S
  | [.bl b], S => .ok (.int (if b then 1 else 0)) S
  | _, _ => .bad
def gAbs : List D → Store → R D
  | [.int i], S => .ok (.int (if i < 0 then -i else i)) S
  | _, _ => .bad
def gMax2 : List D → Store → R D
  | [.int i, .int j], S => .ok (.int (if j > i then j else i)) S
  | _, _ => .bad
def gMin2 : List D → Store → R D
  | [.int i, .int j], S => .ok (.int (if j < i then j else i)) S
  | _, _ => .bad
def gGcd : List D → Store → R D
  | [.int i, .int j], S => .ok (.int ((Nat.gcd i.natAbs j.natAbs : Nat) : Int)) S
  | _, _ => .bad
/-- of a list that stands in the store, or is read alone -/
def onL (k : List D → Store → R D) : List D → Store → R D
  | [.ref n], S => (match S[n]? with
    | some (.lst ds) => k ds S
    | _ => .bad)
  | [.rol ds], S => k ds S
  | _, _ => .bad
def gSum : List D → Store → R D := onL fun ds S => match dInts ds with
  | some is => .ok (.int is.sum) S
  | none => .bad
def gAll : List D → Store → R D := onL fun ds S => match dBools ds with
  | some is => .ok (.bl (is.all id)) S
  | none => .bad
def gAny : List D → Store → R D := onL fun ds S => match dBools ds with
  | some is => .ok (.bl (is.any id)) S
  | none => .bad
def gList : List D → Store → R D
  | [d], S => (match listOf S d with
    | some ds => .ok (.ref S.length) (S ++ [.lst ds])
    | none => .bad)
  | _, _ => .bad
def gTuple : List D → Store → R D
  | [d], S => (match listOf S d with
    | some ds => .ok (.tup ds) S
    | none => .bad)
  | _, _ => .bad
/-! ### methods of lists -/
def mBM (g : D → List D → Store → R D) (o : ME) (a : MA) : ME := fun env S => (o env S).bind fun d S1 => (match d with
  | .ref n => (match S1[n]? with
    | some (.lst _) => (a env S1).bind fun xs S2 => g d xs S2
    | _ => .bad)
  | _ => .bad)
def gAppend : D → List D → Store → R D
  | .ref n, [y], S => (match S[n]? with
    | some (.lst ds) => if ds.length < lim then .ok .non (S.set n (.lst (ds ++ [y]))) else .bad
    | _ => .bad)
  | _, _, _ => .bad
end
/-- TyX, and dicts with tuple keys -/
inductive TyY (K : PySem.W.Frag) (H : Hp) : V → Value → Prop where
  | x {x : V} {t : Value} (h : TyX K H x t) : TyY K H x t
  | dt {a : Addr} {w : World} {xs : List (NestedKey × Addr × Value)} (e : H a = some (DtO w a xs)) : TyY K H (.ref a) (.type "dict")
section
variable {X : Cx} {pins : List (Addr × Obj)} {σ : L2.St} {H : Hp} {s : Shared}
end
/-! ### isinstance -/
inductive CK where
  | bi (n : String) | own (C : Str)
  deriving DecidableEq
def CK.v (Γ : G) : CK → V
  | .bi n => .ty n
  | .own C => .ref (Γ.c C)
def CK.u (Γ : G) : CK → Value
  | .bi n => .type n
  | .own C => .ref (Γ.c C)
def tyK (S : Store) : D → Option CK
  | .non => some (.bi "NoneType")
  | .bl _ => some (.bi "bool")
  | .int _ => some (.bi "int")
  | .str _ => some (.bi "str")
  | .tup _ => some (.bi "tuple")
  | .rol _ => some (.bi "list")
  | .ref n => (match S[n]? with
    | some (.lst _) => some (.bi "list")
    | some (.dk _) => some (.bi "dict")
    | some (.dt _) => some (.bi "dict")
    | _ => none)
  | .ins C _ => some (.own C)
def isA : CK → CK → Bool
  | .bi a, .bi b => a == b || (a == "bool" && b == "int")
  | .own C, .own E => C == E
  | _, _ => false
def biTypes : List String := ["NoneType", "bool", "int", "str", "tuple", "list", "dict"]
/-- what the text says of a class that isinstance asks for; cs: the plain classes -/
structure IsF (Γ : G) (cs : List Str) (T : CK) : Prop where
  bi : ∀ a ∈ biTypes, PySem.W.kitOne Γ.K (.type a) (T.u Γ) = some (isA (.bi a) T)
  own : ∀ C ∈ cs, PySem.W.kitOne Γ.K (.ref (Γ.c C)) (T.u Γ) = some (isA (.own C) T)
def okK (cs : List Str) : CK → Bool
  | .bi a => biTypes.contains a
  | .own C => cs.contains C
section
variable {Γ : G} {W : WX} {X : Cx} {f : List Addr} {H : Hp} {S : Store} {cs : List Str}
theorem CK.cls (T : CK) : ClsV (T.v Γ) (T.u Γ) := by
  cases T with
  | bi n => exact .ty n
  | own C => exact .own _
/-- classes, one behind the other -/
inductive PCs (X : Cx) (Γ : G) : List Expr → List CK → Prop
  | nil : PCs X Γ [] []
  | cons {c : Expr} {es : List Expr} {T : CK} {Ts : List CK} (h : PE X c (tC (T.v Γ))) (r : PCs X Γ es Ts) (hs : starEach (c :: es) X.env = (false, eval c X.env) :: starEach es X.env) : PCs X Γ (c :: es) (T :: Ts)
end
end Lk

set_option Elab.async false
set_option linter.all false
set_option autoImplicit false
set_option maxRecDepth 100000
set_option maxHeartbeats 2000000
namespace Lk
open PySem PySem.Spec PyProof.Rows L2

/-! ### == of data, and of an own class's instances by its own __eq__ -/
def pyD (S : Store) : Nat → D → Option PyData
  | 0, _ => none
  | n + 1, d => match d with
    | .non => some .none
    | .bl b => some (.bool b)
    | .int i => some (.int i)
    | .str x => some (.str x)
    | .tup ds => (ds.mapM (pyD S n)).map .tuple
    | .rol ds => (ds.mapM (pyD S n)).map .list
    | .ref m => (match S[m]? with
      | some (.lst ds) => (ds.mapM (pyD S n)).map .list
      | _ => none)
    | .ins _ _ => none
def eqData (S : Store) (x y : D) : Option Bool := match pyD S 12 x, pyD S 12 y with
  | some a, some b => if SeqAt.shaped a = true ∧ SeqAt.shaped b = true then some (PyData.eqv a b) else none
  | _, _ => none
def gNe (x y : D) (S : Store) : R D := match eqData S x y with
  | some b => .ok (.bl (!b)) S
  | none => .bad
section
variable {Γ : G} {W : WX} {X : Cx} {f : List Addr} {H : Hp} {S : Store} {cs : List Str}
/-- what the text says of a class with an own == -/
structure EqC (Γ : G) (P : Program) (w : World) (mg : Str → Option Value) (base : Heap) (cs : List Str) (k : Nat) (C : Str) (m : List D → Store → R D) : Prop where
  eq : ∃ g fd ps, PySem.W.findIn Γ.K (.ref (Γ.c C)) "__eq__" = some (some (.ref g)) ∧ PySem.W.isFn Γ.K (.ref g) = true ∧ FnOk P w Γ.K mg base (L2.CX P w) k g fd ps (spOf Γ 2 m) ∧ Binds Γ.K fd ps []
  nf : ∀ a : CK, okK cs a = true → PySem.W.notFirst Γ.K (Γ.c C) (a.u Γ) = true
/-- the right side's type must be known -/
def gEqX (cs : List Str) (oe : Str → Option (List D → Store → R D)) (x y : D) (S : Store) : R D := match x with
  | .ins C xs => (match oe C, tyK S y with
    | some m, some t => if okK cs t = true then (match m [.ins C xs, y] S with
      | .ok (.bl b) S' => .ok (.bl b) S'
      | _ => .bad) else .bad
    | _, _ => .bad)
  | x => (match eqData S x y with
    | some b => .ok (.bl b) S
    | none => .bad)
/-! ### in, not in: of flat items -/
end
end Lk

set_option Elab.async false
set_option linter.all false
set_option autoImplicit false
set_option maxRecDepth 100000
set_option maxHeartbeats 4000000
/-! An error that a suite holds: its fields, isinstance of it. -/
namespace Lk
open PySem PySem.Spec PyProof.Rows L2
section
variable {K : PySem.W.Frag} {P : Program} {w : World} {A : Around} {E : Value → Shared → Prop} {x Da : Addr} {ox : Obj} {od : Option Obj}
end
/-! ### the rules of such a suite -/
def mXfld (xfl : Str → List Str) (i : Nat) (C : Str) (ds : List D) (x : Str) : ME := fun env S => match env[i]? with
  | some none => (match ((xfl C).zip ds).lookup x with
    | some d => .ok d S
    | none => .bad)
  | _ => .bad
def mXis (xk : Str → CK → Option Bool) (i : Nat) (C : Str) (T : CK) : ME := fun env S => match env[i]? with
  | some none => (match xk C T with
    | some b => .ok (.bl b) S
    | none => .bad)
  | _ => .bad
section
variable {Γ : G} {W : WX} {X : Cx} {a : Addr} {oe : Obj} {C n x : Str} {ds : List D} {o : Option Addr} {pn : List (Addr × Obj)} {i : Nat} {p pos : Pos}
end
end Lk

set_option Elab.async false
set_option linter.all false
set_option autoImplicit false
set_option maxRecDepth 100000
set_option maxHeartbeats 4000000
/-! Written dicts, globals' values, the law's own end. -/
namespace Lk
open PySem PySem.Spec PyProof.Rows L2
section
variable {Γ : G} {W : WX} {X : Cx} {f : List Addr} {H : Hp} {S : Store} {pos : Pos}
end
end Lk

set_option Elab.async false
set_option linter.all false
set_option autoImplicit false
set_option maxRecDepth 100000
set_option maxHeartbeats 4000000
/-! What the head says, as questions that the kernel answers. -/
namespace Lk
open PySem PySem.Spec PyProof.Rows L2
section
variable {K : PySem.W.Frag}
theorem b2 {a b : Bool} (h : (a && b) = true) : a = true ∧ b = true := Bool.and_eq_true_iff.mp h
def oexB (K : PySem.W.Frag) (C : Addr) : Bool := (match K.lookup C with
  | some ⟨.type "type", _, .cls cd, sl⟩ => (match cd.mro, sl.toList with
    | .ref C' :: bm, [_, _, _, _, some (.builtin n), _] => C' == C && (n == "ValueError.__new__" && (!cd.hasDel && (PySem.HandSPX.refsVE bm && cd.hasDict)))
    | _, _ => false)
  | _ => false) && (decide (PySem.W.findIn K (.ref C) "__setattr__" = some (some (.builtin "object.__setattr__"))) && (decide (PySem.W.subIn K (.ref C) (.type "BaseException") = some true) && (decide (PySem.W.typeIn K (.ref C) = some (.type "type")) && PySem.W.keepIn K (.ref C))))
def insB (K : PySem.W.Frag) (C : Addr) : Bool := PySem.W.plainGet K C Str.empty && (PySem.W.hasDictIn K C && (PySem.W.plainOver K C && (decide (PySem.W.findIn K (.ref C) "__setattr__" = some (some (.builtin "object.__setattr__"))) &&
  (decide (PySem.W.findIn K (.ref C) "__class__" = some (some (.builtin "object.__class__"))) && (decide (PySem.W.specialIn K (.builtin "object.__class__") "__get__" = some (some (.builtin "getset_descriptor.__get__"))) &&
  (decide (PySem.W.takesIn K (.builtin "object.__class__") = some true) && (decide (PySem.W.mroIn K C (.type "object") = some true) && decide (PySem.W.kitOne K (.ref C) (.ref C) = some true))))))))
def noB (K : PySem.W.Frag) (C : Addr) (x : Str) : Bool := decide (PySem.W.findIn K (.ref C) x = some none)
/-- isinstance's table for one class -/
def isB (Γ : G) (cs : List Str) (T : CK) : Bool := (biTypes.all fun a => decide (PySem.W.kitOne Γ.K (.type a) (T.u Γ) = some (isA (.bi a) T))) && cs.all fun C => decide (PySem.W.kitOne Γ.K (.ref (Γ.c C)) (T.u Γ) = some (isA (.own C) T))
def nfB (Γ : G) (cs : List Str) (C : Str) : Bool := (biTypes.all fun a => PySem.W.notFirst Γ.K (Γ.c C) (.type a)) && cs.all fun E => PySem.W.notFirst Γ.K (Γ.c C) (.ref (Γ.c E))
def excB (K : PySem.W.Frag) (C : Addr) : Bool := decide (PySem.W.findIn K (.ref C) "__getattribute__" = some (some (.builtin "BaseException.__getattribute__"))) && (decide (PySem.W.findIn K (.ref C) "__getattr__" = some none) && (decide (PySem.W.subIn K (.ref C) (.type "BaseException") = some true) && (PySem.W.hasDictIn K C &&
  (decide (PySem.W.findIn K (.ref C) "__class__" = some (some (.builtin "object.__class__"))) && (decide (PySem.W.specialIn K (.builtin "object.__class__") "__get__" = some (some (.builtin "getset_descriptor.__get__"))) && (decide (PySem.W.takesIn K (.builtin "object.__class__") = some true) && decide (PySem.W.mroIn K C (.type "object") = some true)))))))
def kitB (Γ : G) (C : Str) (T : CK) (b : Bool) : Bool := decide (PySem.W.kitOne Γ.K (.ref (Γ.c C)) (T.u Γ) = some b)
def biB (K : PySem.W.Frag) (x : Str) (id : String) : Bool := He.eqO (PySem.W.nsIn K mainGlobals x) (some (some (.builtin id)))
end
/-! ### the questions, asked at the head's end -/
abbrev Qs : Type := List (PySem.W.Frag → Bool)
def obsL (fa : Qs) (fn : List He.DefD) (K : PySem.W.Frag) : He.AlD := ((fa.all fun q => q K) && fn.all fun d => d.ok K, fn.map fun d => He.fnW K d.at_)
def SaysL (fa : Qs) (fn : List He.DefD) (K : PySem.W.Frag) : Prop := obsL fa fn K = He.valD fn
def obsLG (n : Nat) (fa : Qs) (fn : List He.DefD) (g : Addr → Option Obj) : He.AlD := obsL fa fn (He.frG g (He.asD g n))
def hookL (n : Nat) (fa : Qs) (fn : List He.DefD) : PySem.W.Hook where
  α := He.AlD
  obs := fun s => obsLG n fa fn s.heap.get?
  val := fun _ => He.valD fn
  says := fun _ h => ∃ K : PySem.W.Frag, K.In h ∧ SaysL fa fn K
  of := fun _ _ e => ⟨_, He.frG_in, e⟩
  keeps := fun _ _ _ ⟨K, hK, c⟩ k => ⟨K, PySem.W.Frag.In.keeps hK k, c⟩
section
variable {fa : Qs} {fn : List He.DefD} {K : PySem.W.Frag}
end
end Lk

set_option Elab.async false
set_option linter.all false
set_option autoImplicit false
set_option maxRecDepth 100000
set_option maxHeartbeats 4000000
namespace Lk
open PySem PySem.Spec PyProof.Rows L2
section
variable {Γ : G} {W : WX} {X : Cx} {f : List Addr} {S : Store} {H : Hp} {e : Expr} {es : List Expr} {p pos apos cpos : Pos} {mr : MA} {mo : ME} {o : Expr} {name : Str}
/-! ### str of an int -/
/-! ### != of two instances of one class with an own == and no own != -/
def ownNeB (K : PySem.W.Frag) (C : Addr) (f : Addr) : Bool := (match K.lookup C with
  | some ⟨.type "type", _, .cls cd, sl⟩ => (match cd.mro, sl.toList with
    | [.ref C', .type "object"], [_, _, _, _, some (.builtin n), _] => C' == C && (!cd.hasDel && (PySem.W.nsOkIn K cd.ns && (decide (PySem.W.nsIn K cd.ns "__eq__" = some (some (.ref f))) && decide (PySem.W.nsIn K cd.ns "__ne__" = some none))))
    | _, _ => false)
  | _ => false) && (match K.lookup f with
  | some o => o.cls == .type "function"
  | none => false)
structure OwnNe (K : PySem.W.Frag) (C f : Addr) : Prop where
  cls : ∃ nm q N bs hd sn sub ab col dd k0 k1 k2 k3 k5 n, K.lookup C = some (excClassObj nm q C N bs [.type "object"] hd sn sub ab col dd k0 k1 k2 k3 k5 n) ∧ PySem.W.nsOkIn K N = true ∧ PySem.W.nsIn K N "__eq__" = some (some (.ref f)) ∧ PySem.W.nsIn K N "__ne__" = some none
  fn : ∃ o, K.lookup f = some o ∧ o.cls = .type "function"
structure NeC (Γ : G) (P : Program) (w : World) (mg : Str → Option Value) (base : Heap) (k : Nat) (C : Str) (m : List D → Store → R D) : Prop where
  ne : ∃ g fd ps, OwnNe Γ.K (Γ.c C) g ∧ FnOk P w Γ.K mg base (L2.CX P w) k g fd ps (spOf Γ 2 m) ∧ Binds Γ.K fd ps []
def gNeX (oe : Str → Option (List D → Store → R D)) (x y : D) (S : Store) : R D := match x, y with
  | .ins C xs, .ins C' ys => if C = C' then (match oe C with
    | some m => (match m [.ins C xs, .ins C' ys] S with
      | .ok (.bl b) S' => .ok (.bl (!b)) S'
      | _ => .bad)
    | _ => .bad) else .bad
  | x, y => gNe x y S
end
end Lk

set_option Elab.async false
set_option linter.all false
set_option autoImplicit false
set_option maxRecDepth 100000
set_option maxHeartbeats 4000000
namespace Lk
open PySem PySem.Spec PyProof.Rows L2
end Lk

set_option Elab.async false
set_option linter.all false
set_option autoImplicit false
set_option maxRecDepth 100000
set_option maxHeartbeats 4000000
/-! a dict of at most one entry, compared with itself -/
namespace Lk
open PySem PySem.Spec PyProof.Rows L2
section
variable {K : Type} [DecidableEq K] {prog : Program} {w : World} {knd : KeyKind prog w K} {A : Around} {E : Value → Shared → Prop} {s : Shared}
end
section
variable {Γ : G} {X : Cx}
def gEqZ (cs : List Str) (oe : Str → Option (List D → Store → R D)) (x y : D) (S : Store) : R D := match x, y with
  | .ref n, .ref m => (match S[n]? with
    | some (.dk kvs) => if n = m ∧ kvs.length ≤ 1 then .ok (.bl true) S else .bad
    | _ => gEqX cs oe x y S)
  | _, _ => gEqX cs oe x y S
end
end Lk

set_option Elab.async false
set_option linter.all false
set_option autoImplicit false
set_option maxRecDepth 100000
set_option maxHeartbeats 4000000
/-! constants of the module; chains; in, of data; enumerate of a list -/
namespace Lk
open PySem PySem.Spec PyProof.Rows L2
section
variable {Γ : G} {W : WX} {X : Cx} {f : List Addr} {S : Store} {H : Hp} {a b c d e : Expr} {es : List Expr} {p pos : Pos} {ma mb mc md : ME}
/-! ### chains -/
def mLink (g : D → D → Store → R D) (x : D) (b : ME) (k : D → ME) : ME := fun env S => (b env S).bind fun y S1 => (g x y S1).bind fun z S2 => (asB z S2).bind fun t S3 => if t = true then k y env S3 else .ok (.bl false) S3
def mLast (g : D → D → Store → R D) (x : D) (b : ME) : ME := fun env S => (b env S).bind fun y S1 => g x y S1
def mCh2 (g g' : D → D → Store → R D) (a b c : ME) : ME := fun env S => (a env S).bind fun x S1 => mLink g x b (fun y => mLast g' y c) env S1
def mCh3 (g g' g'' : D → D → Store → R D) (a b c d : ME) : ME := fun env S => (a env S).bind fun x S1 => mLink g x b (fun y => mLink g' y c fun z => mLast g'' z d) env S1
/-! ### in, of data in a list -/
/-! ### enumerate of a list -/
def enumD (xs : List D) : List D := xs.zipIdx.map fun p => D.tup [.int (p.2 : Nat), p.1]
def srcE (d : D) (S : Store) : R Src := match d with
  | .rol xs => .ok ⟨enumD xs, fun _ => True⟩ S
  | .ref n => (match S[n]? with
    | some (.lst xs) => .ok ⟨enumD xs, fun S => S[n]? = some (.lst xs)⟩ S
    | _ => .bad)
  | _ => .bad
end
end Lk

set_option Elab.async false
set_option linter.all false
set_option autoImplicit false
set_option maxRecDepth 100000
set_option maxHeartbeats 4000000
/-! enumerate of a tuple -/
namespace Lk
open PySem PySem.Spec PyProof.Rows L2
section
variable {prog : Program} {w : World} {A : Around} {E : Value → Shared → Prop} {s : Shared}
end
end Lk

set_option Elab.async false
set_option linter.all false
set_option autoImplicit false
set_option maxRecDepth 100000
set_option maxHeartbeats 4000000
namespace Lk
open PySem PySem.Spec PyProof.Rows L2
section
variable {Γ : G} {W : WX} {X : Cx} {f : List Addr} {S : Store} {H : Hp} {e : Expr} {p pos : Pos}
/-! ### tables of classes -/
/-! ### == of data alone -/
/-! ### enumerate of a list or a tuple -/
def srcEZ (d : D) (S : Store) : R Src := match d with
  | .tup xs => .ok ⟨enumD xs, fun _ => True⟩ S
  | d => srcE d S
def iEnuZ (m : ME) : MI := fun env S => (m env S).bind srcEZ
end
end Lk

set_option Elab.async false
set_option linter.all false
set_option autoImplicit false
set_option maxRecDepth 100000
set_option maxHeartbeats 4000000
namespace Lk
open PySem PySem.Spec PyProof.Rows L2
section
variable {Γ : G} {W : WX} {X : Cx} {f : List Addr} {S : Store} {H : Hp} {a b e : Expr} {p p0 p1 p2 p3 pos : Pos} {ma mb me : ME}
/-! ### list(range(..)) -/
def okRg (i j : Int) : Prop := -(2 ^ 62) ≤ i ∧ i < 2 ^ 62 ∧ -(2 ^ 62) ≤ j ∧ j < 2 ^ 62 ∧ (j - i).toNat ≤ 2 ^ 24
instance (i j : Int) : Decidable (okRg i j) := inferInstanceAs (Decidable (_ ∧ _))
/-! ### xs[::-1] -/
end
end Lk

set_option Elab.async false
set_option linter.all false
set_option autoImplicit false
set_option maxRecDepth 100000
set_option maxHeartbeats 4000000
/-! zip of two, each a list or a tuple -/
namespace Lk
open PySem PySem.Spec PyProof.Rows L2
section
variable {prog : Program} {w : World} {A : Around} {κ : Bool} {h h' : Heap} {it a : Addr} {i : Nat} {its : Array Value}
end
section
variable {X : Cx} {pins : List (Addr × Obj)} {σ : L2.St} {H : Hp} {s : Shared} {κ : Bool} {a : Addr} {xs ys : List V}
end
section
variable {Γ : G} {W : WX} {X : Cx} {f : List Addr} {S : Store} {H : Hp} {e e2 : Expr} {p pos : Pos}
/-- the two sources: their items, and when they stand -/
def seqOf (d : D) (S : Store) : Option (List D × (Store → Prop)) := match d with
  | .tup xs => some (xs, fun _ => True)
  | .rol xs => some (xs, fun _ => True)
  | .ref n => (match S[n]? with
    | some (.lst xs) => some (xs, fun S => S[n]? = some (.lst xs))
    | _ => none)
  | _ => none
def zipD (xs ys : List D) : List D := (xs.zip ys).map fun q => D.tup [q.1, q.2]
def srcZ (x y : D) (S : Store) : R Src := match seqOf x S, seqOf y S with
  | some (xs, g), some (ys, g') => .ok ⟨zipD xs ys, fun S => g S ∧ g' S⟩ S
  | _, _ => .bad
def iZip' (m n : ME) : MI := fun env S => (m env S).bind fun x S1 => (n env S1).bind fun y S2 => srcZ x y S2
end
end Lk

set_option Elab.async false
set_option linter.all false
set_option autoImplicit false
set_option maxRecDepth 100000
set_option maxHeartbeats 4000000
/-! more methods of lists: index, count, pop, extend -/
namespace Lk
open PySem PySem.Spec PyProof.Rows L2
section
variable {Γ : G} {W : WX} {X : Cx} {f : List Addr} {S : Store} {H : Hp} {o : Expr} {apos cpos : Pos} {mo : ME} {name : Str}
/-! ### methods without arguments -/
end
end Lk

set_option Elab.async false
set_option linter.all false
set_option autoImplicit false
set_option maxRecDepth 100000
set_option maxHeartbeats 4000000
/-! + - * and the sign turned, by a class's own methods -/
namespace Lk
open PySem PySem.Spec PyProof.Rows L2
section
variable {prog : Program} {w : World} {A : Around} {E : Value → Shared → Prop} {s : Shared} {K : PySem.W.Frag} {x C L f f0 dx : Addr} {h₀ : Heap} {m : Str → Option Value} {od : Option Obj}
open PySem.W in
end
/-! ### the operators of own classes -/
abbrev OTab := Str → Option (List D → Store → R D)
/-- what the text says of a class with an own operator nm -/
def opB (Γ : G) (C : Str) (nm : String) : Bool := PySem.W.selfFirst Γ.K (Γ.c C) && ((match PySem.W.findIn Γ.K (.ref (Γ.c C)) (PySem.dunder nm) with
    | some (some (.ref _)) => true
    | _ => false) && ((match PySem.W.findIn Γ.K (.ref (Γ.c C)) (dunderR nm) with
    | some none => true
    | some (some (.ref _)) => true
    | _ => false) && ((PySem.W.findIn Γ.K (.type "int") (PySem.dunder nm)).isSome && ((PySem.W.findIn Γ.K (.type "int") (dunderR nm)).isSome &&
    (decide (PySem.W.subIn Γ.K (.type "int") (.ref (Γ.c C)) = some false) && decide (PySem.W.subIn Γ.K (.ref (Γ.c C)) (.type "int") = some false))))))
structure MeC (Γ : G) (P : Program) (w : World) (mg : Str → Option Value) (base : Heap) (k n : Nat) (C nm : Str) (m : List D → Store → R D) : Prop where
  me : ∃ g fd ps, PySem.W.findIn Γ.K (.ref (Γ.c C)) nm = some (some (.ref g)) ∧ PySem.W.isFn Γ.K (.ref g) = true ∧ FnOk P w Γ.K mg base (L2.CX P w) k g fd ps (spOf Γ n m) ∧ Binds Γ.K fd ps []
/-- the tables of an operator: forth, reflected -/
structure OpsC (Γ : G) (P : Program) (w : World) (mg : Str → Option Value) (base : Heap) (k : Nat) (nm : String) (ot rt : OTab) : Prop where
  fw : ∀ C m, ot C = some m → MeC Γ P w mg base k 2 C (PySem.dunder nm) m ∧ opB Γ C nm = true
  rf : ∀ C m, rt C = some m → MeC Γ P w mg base k 2 C (dunderR nm) m ∧ opB Γ C nm = true
section
variable {Γ : G} {W : WX} {X : Cx} {f : List Addr} {H : Hp} {S : Store}
/-- what int says of an operator -/
structure IntOp (op : Operator) : Prop where
  fills : fillsNumberSlot (.type "int") op.info.2 = pure true
  in_ : ∃ idl B, Slot "int" (PySem.dunder op.info.2) idl ∧ entryFor table idl = some B ∧ (∀ a b : Value, argsOk idl ⟨[a, b], []⟩) ∧ ∀ (i : Int) (t : Tok) (y C dx : Addr), GivesAt (fun s => s.heap.get? y = some (PySem.W.instObj C dx)) (B ⟨[.int i t, .ref y], []⟩) (.val .notImplemented)
end
end Lk

set_option Elab.async false
set_option linter.all false
set_option autoImplicit false
set_option maxRecDepth 100000
set_option maxHeartbeats 4000000
/-! a call in an except suite: the error that is caught stays where it is -/
namespace Lk
open PySem PySem.Spec PyProof.Rows L2
section
variable {Γ : G} {W : WX} {X : Cx} {f : List Addr} {H : Hp} {S : Store} {a : Expr} {es : List Expr} {mr : MA} {p pos : Pos} {x : Str} {fA : Addr} {fd : FuncData} {ps : List Str} {k n : Nat} {m : List D → Store → R D} {e0 : Addr} {i : Nat} {E : Str} {ds : List D} {o : Option Addr}
end
end Lk

set_option Elab.async false
set_option linter.all false
set_option autoImplicit false
set_option maxRecDepth 100000
set_option maxHeartbeats 4000000
/-! x is True, x is not False .., of a flag, an int or None -/
namespace Lk
open PySem PySem.Spec PyProof.Rows L2
section
variable {Γ : G} {W : WX} {X : Cx} {f : List Addr} {H : Hp} {S : Store}
end
end Lk

set_option Elab.async false
set_option linter.all false
set_option autoImplicit false
set_option maxRecDepth 100000
set_option maxHeartbeats 4000000
/-! zip of three, each a list or a tuple -/
namespace Lk
open PySem PySem.Spec PyProof.Rows L2
section
variable {Γ : G} {W : WX} {X : Cx} {f : List Addr} {S : Store} {H : Hp} {e e2 e3 : Expr} {p pos : Pos}
end
end Lk

set_option Elab.async false
set_option linter.all false
set_option autoImplicit false
set_option maxRecDepth 100000
set_option maxHeartbeats 4000000
/-! math.lcm of two -/
namespace Lk
open PySem PySem.Spec PyProof.Rows L2
section
variable {X : Cx} {Γ : G}
end
end Lk

set_option Elab.async false
set_option linter.all false
set_option autoImplicit false
set_option maxRecDepth 100000
set_option maxHeartbeats 4000000
/-! sum of a list whose items have a + of their own -/
namespace Lk
open PySem PySem.Spec PyProof.Rows L2
section
variable {X : Cx} {Γ : G} {pins : List (Addr × Obj)} {σ : L2.St} {H : Hp} {s : Shared} {A1 : Around} {k : Nat} {E : Value → Shared → Prop} {Q : VK}
theorem FpOk.at {a : Addr} {H' : Hp} (f : FpOk X pins H a) (h : H' a = none) : FpOk X pins H' a := ⟨h, f.2⟩
end
end Lk

set_option Elab.async false
set_option linter.all false
set_option autoImplicit false
set_option maxRecDepth 100000
set_option maxHeartbeats 4000000
/-! the loop of sum -/
namespace Lk
open PySem PySem.Spec PyProof.Rows L2
section
variable {X : Cx} {Γ : G} {pins : List (Addr × Obj)} {σ : L2.St} {H : Hp} {s : Shared} {A1 : Around} {k : Nat} {Q : VK}
end
end Lk

set_option Elab.async false
set_option linter.all false
set_option autoImplicit false
set_option maxRecDepth 100000
set_option maxHeartbeats 4000000
/-! the mirror of such a sum -/
namespace Lk
open PySem PySem.Spec PyProof.Rows L2
section
variable {Γ : G} {W : WX} {σ : L2.St} {Q : VK}
end
end Lk

set_option Elab.async false
set_option linter.all false
set_option autoImplicit false
set_option maxRecDepth 100000
set_option maxHeartbeats 4000000
/-! comprehensions of two fors -/
namespace Lk
open PySem PySem.Spec PyProof.Rows L2
section
variable {Γ : G} {W : WX} {X : Cx} {f : List Addr} {H : Hp} {S : Store}
end
end Lk

set_option Elab.async false
set_option linter.all false
set_option autoImplicit false
set_option maxRecDepth 100000
set_option maxHeartbeats 4000000
/-! dicts: read, in, get, setdefault, written -/
namespace Lk
open PySem PySem.Spec PyProof.Rows L2
section
variable {Γ : G} {W : WX} {X : Cx} {f : List Addr} {H : Hp} {S : Store}
theorem RelS.dk {n : Nat} {kvs : List (Key × D)} {v : V} (rs : RelS Γ f S H) (hn : S[n]? = some (.dk kvs)) (r : Rp Γ f H (.ref n) v) : ∃ a us, f[n]? = some a ∧ v = .ref a ∧ H a = some (.dK us) ∧ us.map (·.1) = kvs.map (·.1) ∧ RpL Γ f H (kvs.map (·.2)) (us.map (·.2)) := by
  obtain ⟨a, ha, e⟩ := r.ref
  obtain ⟨b, hb, us, hh, ek, rv⟩ := rs.ob n _ hn
  rw [ha] at hb
  cases hb
  exact ⟨a, us, ha, e, hh, ek, rv⟩
/-! ### d[k] -/
/-! ### k in d -/
/-! ### d.get, d.setdefault -/
/-! ### d[k] = v -/
end
end Lk

set_option Elab.async false
set_option linter.all false
set_option autoImplicit false
set_option maxRecDepth 100000
set_option maxHeartbeats 4000000
/-! list(d.values()) -/
namespace Lk
open PySem PySem.Spec PyProof.Rows L2
section
variable {Γ : G} {W : WX} {X : Cx} {f : List Addr} {H : Hp} {S : Store} {e : Expr} {te : TE} {p apos cpos pos : Pos}
end
end Lk

set_option Elab.async false
set_option linter.all false
set_option autoImplicit false
set_option maxRecDepth 100000
set_option maxHeartbeats 4000000
/-! a, b = c, d; tuple(range(..)) -/
namespace Lk
open PySem PySem.Spec PyProof.Rows L2
section
variable {Γ : G} {W : WX} {X : Cx} {f : List Addr} {S : Store} {H : Hp} {a b e : Expr} {p p0 p1 p2 p3 pos : Pos} {ma mb me : ME}
end
end Lk

set_option Elab.async false
set_option linter.all false
set_option autoImplicit false
set_option maxRecDepth 100000
set_option maxHeartbeats 4000000
/-! xs.pop(i) -/
namespace Lk
open PySem PySem.Spec PyProof.Rows L2
section
variable {Γ : G} {W : WX} {X : Cx} {f : List Addr} {S : Store} {H : Hp}
end
end Lk

set_option Elab.async false
set_option linter.all false
set_option autoImplicit false
set_option maxRecDepth 100000
set_option maxHeartbeats 4000000
/-! try .. except C, without a name -/
namespace Lk
open PySem PySem.Spec PyProof.Rows L2
section
variable {Γ : G} {W : WX} {X : Cx} {C : Str} {body suite : List Stmt} {b₀ : Stmt} {np pos pos' : Pos} {mb ms : MS} {sb : Str → Option Bool}
end
end Lk

set_option Elab.async false
set_option linter.all false
set_option autoImplicit false
set_option maxRecDepth 100000
set_option maxHeartbeats 4000000
/-! != by an own ==, whatever stands on the right -/
namespace Lk
open PySem PySem.Spec PyProof.Rows L2 PySem.W
section
variable {prog : Program} {w : World} {A : Around} {E : Value → Shared → Prop} {h : Heap} {g : Array GenState} {d : Drawn} {t : Nat} {os : OsState} {C x f : Addr} {B : String} {bm : List Value} {b : Value}
end
section
variable {prog : Program} {w : World} {A : Around} {E : Value → Shared → Prop} {s : Shared} {K : PySem.W.Frag} {C x : Addr} {b : Value} {tb : Value} {ox : Obj} {od : Option Obj}
end
section
variable {Γ : G} {W : WX} {X : Cx} {f : List Addr} {S : Store} {H : Hp} {cs : List Str}
end
end Lk

set_option Elab.async false
set_option linter.all false
set_option autoImplicit false
set_option maxRecDepth 100000
set_option maxHeartbeats 4000000
/-! a def that raises nothing, called where an error is handled -/
namespace Lk
open PySem PySem.Spec PyProof.Rows L2
/-- such a def's promise: p is an object that stays where it is -/
structure FnQ (P : Program) (w : World) (K : PySem.W.Frag) (mg : Str → Option Value) (base : Heap) (CX : CXT) (k : Nat) (f : Addr) (fd : FuncData) (ps : List Str) (sp : Sp) : Prop where
  many : ∀ vs H Q E, sp vs H Q E → vs.length = ps.length
  goes : ∀ (A : Around) (out : List PySem.Env) (s : Shared) (H : Hp) (as : Args) (us : List Value) (vs : List V) (Q : VK) (E : XK) (p : Addr × Obj), L2H.RoomH k A → L2H.PinOk out H s p → Env0 P w K mg base A out s H → BindsTo s fd as (ps.zip us) → Vals vs us → sp vs H Q E → codeAny (model P w) A (.call (.ref f) as) (CR CX out P w H s Q E) s
section
variable {Γ : G} {W : WX} {X : Cx} {a : Expr} {es : List Expr} {mr : MA} {p pos : Pos} {x : Str} {fA : Addr} {fd : FuncData} {ps : List Str} {k n : Nat} {m : List D → Store → R D} {e0 : Addr} {i : Nat} {E : Str} {ds : List D} {o : Option Addr}
end
end Lk

/-! a comprehension in a comprehension -/
namespace Lk
open PySem PySem.Spec L2
end Lk

set_option Elab.async false
set_option linter.all false
set_option autoImplicit false
set_option maxRecDepth 100000
set_option maxHeartbeats 4000000
/-! dicts whose keys are tuples, of whatever depth: read, comprehensions -/
namespace Lk
open PySem PySem.Spec PyProof.Rows L2
section
variable {Γ : G} {W : WX} {X : Cx} {f f' : List Addr} {H : Hp} {S : Store} {pins : List (Addr × Obj)} {σ : L2.St} {s : Shared}
mutual
theorem nk_is (I : Inv X pins σ H s) (hK : X.K = Γ.K) : ∀ {d : D} {v : V} {u : Value} {k : NestedKey}, Rp Γ f H d v → RelV v u → nkey d = some k → NestedIs s.heap k u
  | .non, v, u, k, r, rv, h => by
    simp only [Rp] at r
    subst r
    cases h
    cases (show u = Value.none from rv)
    exact .none
  | .bl b, v, u, k, r, rv, h => by
    simp only [Rp] at r
    subst r
    cases h
    cases (show u = Value.bool b from rv)
    exact .bool rfl
  | .int i, v, u, k, r, rv, h => by
    simp only [Rp] at r
    subst r
    cases h
    obtain ⟨t, q⟩ := (show ∃ t, u = Value.int i t from rv)
    subst q
    exact .int i t
  | .str x, v, u, k, r, rv, h => by
    simp only [Rp] at r
    subst r
    cases h
    obtain ⟨t, q⟩ := (show ∃ t, u = Value.str x t from rv)
    subst q
    exact .text x t
  | .tup ds, v, u, k, r, rv, h => by
    simp only [Rp] at r
    obtain ⟨a, vs, e, sq, rl⟩ := r
    subst e
    cases (show u = Value.ref a from rv)
    unfold nkey at h
    obtain ⟨ks, hk, ek⟩ := Option.map_eq_some_iff.mp h
    subst ek
    obtain ⟨its, hv, ⟨o, h1, h2, n, h3⟩, _⟩ := I.tuple (by rw [hK]; exact sq)
    exact .tup h1 h2 h3 (by simpa using nk_all I hK rl hv hk)
  | .rol ds, v, u, k, r, rv, h => by unfold nkey at h; cases h
  | .ref n, v, u, k, r, rv, h => by unfold nkey at h; cases h
  | .ins C ds, v, u, k, r, rv, h => by unfold nkey at h; cases h
theorem nk_all (I : Inv X pins σ H s) (hK : X.K = Γ.K) : ∀ {ds : List D} {vs : List V} {us : List Value} {ks : List NestedKey}, RpL Γ f H ds vs → Vals vs us → nkeyL ds = some ks → NestedAll s.heap ks us
  | [], vs, us, ks, r, rv, h => by
    simp only [RpL] at r
    subst r
    cases rv
    unfold nkeyL at h
    cases h
    exact .nil
  | d :: ds, vs, us, ks, r, rv, h => by
    simp only [RpL] at r
    obtain ⟨v, vr, e, r1, r2⟩ := r
    subst e
    cases rv with
    | cons a b =>
      unfold nkeyL at h
      obtain ⟨k, h1, h⟩ := Option.bind_eq_some_iff.mp h
      obtain ⟨ks', h2, ek⟩ := Option.map_eq_some_iff.mp h
      subst ek
      exact .cons (nk_is I hK r1 a h1) (nk_all I hK r2 b h2)
end
/-! ### d[k] -/
end
end Lk

set_option Elab.async false
set_option linter.all false
set_option autoImplicit false
set_option maxRecDepth 100000
set_option maxHeartbeats 4000000
namespace Lk
open PySem PySem.Spec PyProof.Rows L2
section
variable {Γ : G} {W : WX} {X : Cx} {f f' : List Addr} {H : Hp} {S : Store} {pins : List (Addr × Obj)} {σ : L2.St} {s : Shared}
theorem DtR.len {kvs : List (D × D)} {w : World} {xs : List (NestedKey × Addr × Value)} {us : List V} (d : DtR Γ f H kvs w xs us) : kvs.length = xs.length := by
  have := congrArg List.length d.nk
  simpa using this
/-! ### {k: v for .. in ..} -/
end
end Lk

set_option Elab.async false
set_option linter.all false
set_option autoImplicit false
set_option maxRecDepth 100000
set_option maxHeartbeats 4000000
namespace Lk
open PySem PySem.Spec PyProof.Rows L2
section
variable {Γ : G} {W : WX} {X : Cx} {f : List Addr} {H : Hp} {S : Store}
end
end Lk

set_option Elab.async false
set_option linter.all false
set_option autoImplicit false
set_option maxRecDepth 100000
set_option maxHeartbeats 4000000
/-! several except clauses, with names and without -/
namespace Lk
open PySem PySem.Spec PyProof.Rows L2
/-- a clause: its class, its name's slot, what its suite wishes -/
structure HdT where
  c : Value
  i : Option Nat
  ts : Addr → Value → Option Addr → TS
inductive HdsA (X : Cx) : List ExceptHandler → List HdT → Prop
  | nil : HdsA X [] []
  | only {x : Str} {c : Value} {ts : Addr → Value → Option Addr → TS} {b₀ : Stmt} {suite : List Stmt} {np pos' : Pos} {hds : List ExceptHandler} {l : List HdT} (hc : Names X x c)
      (hsu : ∀ (a : Addr) (oe : Obj) (cls : Value) (d : Option Addr) (pn : List (Addr × Obj)), Zc cls d oe → (∃ vs, oe.data = .fields vs) → PSs (X.suite a ((a, oe) :: pn)) (b₀ :: suite) (ts a cls d)) (r : HdsA X hds l) :
      HdsA X (.ExceptHandler (some (.Name x np)) none (b₀ :: suite) pos' :: hds) (⟨c, none, ts⟩ :: l)
  | as {x n : Str} {i : Nat} {c : Value} {ts : Addr → Value → Option Addr → TS} {b₀ : Stmt} {suite : List Stmt} {np pos' : Pos} {hds : List ExceptHandler} {l : List HdT} (hc : Names X x c) (hi : X.N[i]? = some n) (hln : X.env.kindOf n = some .local)
      (hsu : ∀ (a : Addr) (oe : Obj) (cls : Value) (d : Option Addr) (pn : List (Addr × Obj)), Zc cls d oe → (∃ vs, oe.data = .fields vs) → PSs (X.suite a ((a, oe) :: pn)) (b₀ :: suite) (ts a cls d)) (r : HdsA X hds l) :
      HdsA X (.ExceptHandler (some (.Name x np)) (some n) (b₀ :: suite) pos' :: hds) (⟨c, some i, ts⟩ :: l)
section
variable {X : Cx} {body : List Stmt} {h₀ : ExceptHandler} {hds : List ExceptHandler} {l : List HdT} {pos : Pos} {tb : WX → TS} {Wout : WX}
end
/-! ### the mirror -/
structure Hn where
  sb : Str → Option Bool
  i : Option Nat
  ms : Str → List D → MS
inductive HdsM (Γ : G) (X : Cx) : List ExceptHandler → List Hn → Prop
  | nil : HdsM Γ X [] []
  | only {C : Str} {sb : Str → Option Bool} {ms : MS} {b₀ : Stmt} {suite : List Stmt} {np pos' : Pos} {hds : List ExceptHandler} {l : List Hn} (hsb : ∀ E b, sb E = some b → PySem.W.exmOne Γ.K (.ref (Γ.c E)) (.ref (Γ.c C)) = some b) (hc : Names X C (.ref (Γ.c C)))
      (hsu : ∀ (a : Addr) (oe : Obj) (cls : Value) (d : Option Addr) (pn : List (Addr × Obj)), Zc cls d oe → (∃ vs, oe.data = .fields vs) → PSs (X.suite a ((a, oe) :: pn)) (b₀ :: suite) (tS Γ Wno ms)) (r : HdsM Γ X hds l) :
      HdsM Γ X (.ExceptHandler (some (.Name C np)) none (b₀ :: suite) pos' :: hds) (⟨sb, none, fun _ _ => ms⟩ :: l)
  | as {C n : Str} {i : Nat} {sb : Str → Option Bool} {ms : Str → List D → MS} {b₀ : Stmt} {suite : List Stmt} {np pos' : Pos} {hds : List ExceptHandler} {l : List Hn} (hsb : ∀ E b, sb E = some b → PySem.W.exmOne Γ.K (.ref (Γ.c E)) (.ref (Γ.c C)) = some b) (hi : X.N[i]? = some n) (hln : X.env.kindOf n = some .local) (hc : Names X C (.ref (Γ.c C)))
      (hsu : ∀ (a : Addr) (oe : Obj) (E : Str) (ds : List D) (d : Option Addr) (pn : List (Addr × Obj)), Zc (.ref (Γ.c E)) d oe → (∃ vs, oe.data = .fields vs) → PSs (X.suite a ((a, oe) :: pn)) (b₀ :: suite) (tS (Γ.at_ a i E ds d) Wno (ms E ds))) (r : HdsM Γ X hds l) :
      HdsM Γ X (.ExceptHandler (some (.Name C np)) (some n) (b₀ :: suite) pos' :: hds) (⟨sb, some i, ms⟩ :: l)
section
variable {Γ : G} {W : WX} {X : Cx} {f : List Addr} {H : Hp}
end
end Lk

set_option Elab.async false
set_option linter.all false
set_option autoImplicit false
set_option maxRecDepth 100000
set_option maxHeartbeats 4000000
/-! a name given a dict comprehension; x += e with ints -/
namespace Lk
open PySem PySem.Spec PyProof.Rows L2
section
variable {Γ : G} {W : WX} {X : Cx}
/-! x op= e, ints -/
end
end Lk

set_option Elab.async false
set_option linter.all false
set_option autoImplicit false
set_option maxRecDepth 100000
set_option maxHeartbeats 4000000
/-! a, b, .. = a list or a tuple of that length -/
namespace Lk
open PySem PySem.Spec PyProof.Rows L2
section
variable {Γ : G} {W : WX} {X : Cx}
end
end Lk

set_option Elab.async false
set_option linter.all false
set_option autoImplicit false
set_option maxRecDepth 100000
set_option maxHeartbeats 4000000
/-! facts about mirrors alone, for every law -/
namespace Lk
open PySem L2
end Lk

set_option Elab.async false
set_option linter.all false
set_option autoImplicit false
set_option maxRecDepth 100000
set_option maxHeartbeats 4000000
/-! a comprehension with a test, over any source -/
namespace Lk
open PySem L2
end Lk

set_option Elab.async false
set_option linter.all false
set_option autoImplicit false
set_option maxRecDepth 100000
set_option maxHeartbeats 4000000
/-! comprehensions whose items are known but for a relation; loops that end early -/
namespace Lk
open PySem L2
def F2 (P : D → D → Prop) : List D → List D → Prop
  | [], [] => True
  | d :: ds, r :: rs => P d r ∧ F2 P ds rs
  | _, _ => False
theorem F2.len {P : D → D → Prop} : ∀ {ds rs : List D}, F2 P ds rs → rs.length = ds.length
  | [], [], _ => rfl
  | d :: ds, r :: rs, h => by simp only [List.length_cons]; rw [F2.len h.2]
  | [], _ :: _, h => h.elim
  | _ :: _, [], h => h.elim
end Lk

set_option Elab.async false
set_option linter.all false
set_option autoImplicit false
set_option maxRecDepth 100000
set_option maxHeartbeats 4000000
/-! what a mirror's result is asked: a calculus of weakest demands -/
namespace Lk
open PySem L2
abbrev XP := Str → List D → Store → Prop
def noX : XP := fun _ _ _ => False
def WrD {α : Type} (r : R α) (Q : α → Store → Prop) (X : XP) : Prop := match r with
  | .ok a S => Q a S
  | .ex C ds S => X C ds S
  | .bad => False
/-- kept shut: nothing unfolds it but its own lemmas -/
structure Wr {α : Type} (r : R α) (Q : α → Store → Prop) (X : XP) : Prop where
  out : WrD r Q X
theorem wr_def {α : Type} {r : R α} {Q : α → Store → Prop} {X : XP} : Wr r Q X = WrD r Q X := propext ⟨fun h => h.out, fun h => ⟨h⟩⟩
structure Po where
  nx : Env → Store → Prop
  rt : D → Store → Prop
  bk : Env → Store → Prop
  ct : Env → Store → Prop
  ex : Str → List D → Env → Store → Prop
def WsD (r : RS) (P : Po) : Prop := match r with
  | .nx e S => P.nx e S
  | .rt d S => P.rt d S
  | .bk e S => P.bk e S
  | .ct e S => P.ct e S
  | .ex C ds e S => P.ex C ds e S
  | .bad => False
structure Ws (r : RS) (P : Po) : Prop where
  out : WsD r P
theorem ws_def {r : RS} {P : Po} : Ws r P = WsD r P := propext ⟨fun h => h.out, fun h => ⟨h⟩⟩
section
variable {α β : Type} {Q : α → Store → Prop} {X : XP} {P : Po}
theorem w_ok {a : α} {S : Store} : Wr (.ok a S) Q X = Q a S := wr_def
theorem w_bind {r : R β} {k : β → Store → R α} : Wr (r.bind k) Q X = Wr r (fun a S => Wr (k a S) Q X) X := by simp only [wr_def]; cases r <;> rfl
theorem w_bindS {r : R β} {env : Env} {k : β → Store → RS} : Ws (r.bindS env k) P = Wr r (fun a S => Ws (k a S) P) (fun C ds S => P.ex C ds env S) := by simp only [wr_def, ws_def]; cases r <;> rfl
theorem w_nxt {r : R Env} : Ws r.nxt P = Wr r P.nx noX := by simp only [wr_def, ws_def]; cases r <;> rfl
theorem w_nx {e : Env} {S : Store} : Ws (.nx e S) P = P.nx e S := ws_def
theorem w_rt {d : D} {S : Store} : Ws (.rt d S) P = P.rt d S := ws_def
theorem w_exS {C : Str} {ds : List D} {e : Env} {S : Store} : Ws (.ex C ds e S) P = P.ex C ds e S := ws_def
theorem w_ite {p : Prop} [Decidable p] {x y : R α} : Wr (if p then x else y) Q X = if p then Wr x Q X else Wr y Q X := by split <;> rfl
theorem w_iteS {p : Prop} [Decidable p] {x y : RS} : Ws (if p then x else y) P = if p then Ws x P else Ws y P := by split <;> rfl
theorem Wr.by {r : R α} {a : α} {S : Store} (h : r = .ok a S) (hq : Q a S) : Wr r Q X := by rw [h]; exact ⟨hq⟩
theorem w_if {t : MT} {x y : MS} {env : Env} {S : Store} : Ws (mIfS t x y env S) P = Wr (t env S) (fun c S1 => if c = true then Ws (x env S1) P else Ws (y env S1) P) (fun C ds S => P.ex C ds env S) := by
  unfold mIfS
  rw [w_bindS]
  congr 1
  funext c S1
  exact w_iteS
end
section
variable {Q : D → Store → Prop} {X : XP} {P : Po}
end
/-! ints are compared as ints, whatever the classes -/
theorem eqZ_int {cs : List Str} {oe : Str → Option (List D → Store → R D)} {S : Store} {i j : Int} : gEqZ cs oe (.int i) (.int j) S = .ok (.bl (decide (i = j))) S := by
  have sh : ∀ k : Int, SeqAt.shaped (.int k) = true := fun k => by simp [SeqAt.shaped, PyData.canLay0, PyData.depth]
  have e : eqData S (.int i) (.int j) = some (decide (i = j)) := by
    unfold eqData
    simp only [pyD, sh, and_self, if_true, PyData.eqv]
    rfl
  show gEqX cs oe (.int i) (.int j) S = _
  unfold gEqX
  simp only [e]
theorem eqX_int {cs : List Str} {oe : Str → Option (List D → Store → R D)} {S : Store} {i j : Int} : gEqX cs oe (.int i) (.int j) S = .ok (.bl (decide (i = j))) S := by
  have sh : ∀ k : Int, SeqAt.shaped (.int k) = true := fun k => by simp [SeqAt.shaped, PyData.canLay0, PyData.depth]
  have e : eqData S (.int i) (.int j) = some (decide (i = j)) := by
    unfold eqData
    simp only [pyD, sh, and_self, if_true, PyData.eqv]
    rfl
  unfold gEqX
  simp only [e]
theorem neX_int {oe : Str → Option (List D → Store → R D)} {S : Store} {i j : Int} : gNeX oe (.int i) (.int j) S = .ok (.bl (!decide (i = j))) S := by
  have sh : ∀ k : Int, SeqAt.shaped (.int k) = true := fun k => by simp [SeqAt.shaped, PyData.canLay0, PyData.depth]
  have e : eqData S (.int i) (.int j) = some (decide (i = j)) := by
    unfold eqData
    simp only [pyD, sh, and_self, if_true, PyData.eqv]
    rfl
  show gNe (.int i) (.int j) S = _
  unfold gNe
  rw [e]
/-! indices written out -/
theorem at_nat {l : List D} {i : Int} {d : D} (h0 : 0 ≤ i) (h : l[i.toNat]? = some d) : atI l i = some d := by
  have hl : i.toNat < l.length := by
    rcases Nat.lt_or_ge i.toNat l.length with z | z
    · exact z
    · rw [List.getElem?_eq_none z] at h; cases h
  have h2 : i < (l.length : Nat) := by omega
  unfold atI ixN
  simp [h0, h2]
  rw [List.getElem?_eq_getElem hl] at h
  exact Option.some.inj h
theorem ati0 {x : D} {l : List D} : atI (x :: l) 0 = some x := at_nat (by decide) rfl
theorem ati1 {x y : D} {l : List D} : atI (x :: y :: l) 1 = some y := at_nat (by decide) rfl
theorem ati2 {x y z : D} {l : List D} : atI (x :: y :: z :: l) 2 = some z := at_nat (by decide) rfl
theorem ati3 {x y z w : D} {l : List D} : atI (x :: y :: z :: w :: l) 3 = some w := at_nat (by decide) rfl
theorem ati4 {x y z w v : D} {l : List D} : atI (x :: y :: z :: w :: v :: l) 4 = some v := at_nat (by decide) rfl
theorem bne_dec {p : Prop} [Decidable p] : ((!decide p) = true) = ¬ p := by simp
/-! each construct's demand, by lemmas (never by unfolding: the kernel would evaluate) -/
section
variable {α β : Type} {Q : D → Store → Prop} {QA : List D → Store → Prop} {QB : Bool → Store → Prop} {QE : Env → Store → Prop} {QS : Src → Store → Prop} {X : XP} {P : Po} {env : Env} {S : Store} {d x y : D}
theorem v_0 {e : Env} : Wr (mVar 0 (some d :: e) S) Q X = Q d S := wr_def
theorem v_s {n : Nat} {o : Option D} {e : Env} : Wr (mVar (n + 1) (o :: e) S) Q X = Wr (mVar n e S) Q X := propext ⟨fun h => ⟨h.out⟩, fun h => ⟨h.out⟩⟩
theorem v_C : Wr (mC d env S) Q X = Q d S := wr_def
theorem v_nil : Wr (mNil env S) QA X = QA [] S := wr_def
theorem v_cons {m : ME} {r : MA} : Wr (mCons m r env S) QA X = Wr (m env S) (fun d S1 => Wr (r env S1) (fun ds S2 => QA (d :: ds) S2) X) X := by
  show Wr (R.bind _ _) _ _ = _
  rw [w_bind]
  congr 1
  funext d S1
  rw [w_bind]
  simp only [w_ok]
theorem v_m1 {g : D → Store → R D} {a : ME} : Wr (m1 g a env S) Q X = Wr (a env S) (fun x S1 => Wr (g x S1) Q X) X := w_bind
theorem v_m2 {g : D → D → Store → R D} {a b : ME} : Wr (m2 g a b env S) Q X = Wr (a env S) (fun x S1 => Wr (b env S1) (fun y S2 => Wr (g x y S2) Q X) X) X := by
  show Wr (R.bind _ _) _ _ = _
  rw [w_bind]
  congr 1
  funext d S1
  rw [w_bind]
theorem v_mB {g : List D → Store → R D} {a : MA} : Wr (mB g a env S) Q X = Wr (a env S) (fun x S1 => Wr (g x S1) Q X) X := w_bind
theorem v_if {t : MT} {a b : ME} : Wr (mIf t a b env S) Q X = Wr (t env S) (fun c S1 => if c = true then Wr (a env S1) Q X else Wr (b env S1) Q X) X := by
  show Wr (R.bind _ _) _ _ = _
  rw [w_bind]
  congr 1
  funext d S1
  exact w_ite
theorem v_asB {b : Bool} : Wr (asB (.bl b) S) QB X = QB b S := wr_def
theorem v_test {a : ME} : Wr (mTest a env S) QB X = Wr (a env S) (fun x S1 => Wr (asB x S1) QB X) X := w_bind
theorem v_andT {t u : MT} : Wr (mAndT t u env S) QB X = Wr (t env S) (fun c S1 => if c = true then Wr (u env S1) QB X else QB false S1) X := by
  show Wr (R.bind _ _) _ _ = _
  rw [w_bind]
  congr 1
  funext d S1
  simp only [w_ite, w_ok]
theorem v_orT {t u : MT} : Wr (mOrT t u env S) QB X = Wr (t env S) (fun c S1 => if c = true then QB true S1 else Wr (u env S1) QB X) X := by
  show Wr (R.bind _ _) _ _ = _
  rw [w_bind]
  congr 1
  funext d S1
  simp only [w_ite, w_ok]
theorem v_notT {t : MT} : Wr (mNotT t env S) QB X = Wr (t env S) (fun c S1 => QB (!c) S1) X := by
  show Wr (R.bind _ _) _ _ = _
  simp only [w_bind, w_ok]
theorem v_and {a b : ME} : Wr (mAnd a b env S) Q X = Wr (a env S) (fun x S1 => Wr (asB x S1) (fun c S2 => if c = true then Wr (b env S2) Q X else Q (.bl false) S2) X) X := by
  show Wr (R.bind _ _) _ _ = _
  rw [w_bind]
  congr 1
  funext d S1
  rw [w_bind]
  congr 1
  funext c S2
  simp only [w_ite, w_ok]
theorem v_or {a b : ME} : Wr (mOr a b env S) Q X = Wr (a env S) (fun x S1 => Wr (asB x S1) (fun c S2 => if c = true then Q (.bl true) S2 else Wr (b env S2) Q X) X) X := by
  show Wr (R.bind _ _) _ _ = _
  rw [w_bind]
  congr 1
  funext d S1
  rw [w_bind]
  congr 1
  funext c S2
  simp only [w_ite, w_ok]
theorem v_not {a : ME} : Wr (mNot a env S) Q X = Wr (a env S) (fun x S1 => Wr (asB x S1) (fun c S2 => Q (.bl (!c)) S2) X) X := by
  show Wr (R.bind _ _) _ _ = _
  rw [w_bind]
  congr 1
  funext d S1
  rw [w_bind]
  simp only [w_ok]
theorem v_call {n : Nat} {f : List D → Store → R D} {a : MA} : Wr (mCall n f a env S) Q X = Wr (a env S) (fun ds S1 => ds.length = n ∧ Wr (f ds S1) Q X) X := by
  show Wr (R.bind _ _) _ _ = _
  rw [w_bind]
  congr 1
  funext ds S1
  rw [w_ite]
  by_cases h : ds.length = n <;> simp [h, wr_def, WrD]
theorem v_make {C : Str} {n : Nat} {m : List D → Store → R D} {a : MA} : Wr (mMake C n m a env S) Q X = Wr (a env S) (fun ds S1 => ds.length + 1 = n ∧ Wr (mkOf C m ds S1) Q X) X := by
  show Wr (R.bind _ _) _ _ = _
  rw [w_bind]
  congr 1
  funext ds S1
  rw [w_ite]
  by_cases h : ds.length + 1 = n <;> simp [h, wr_def, WrD]
theorem v_tup {m : MA} : Wr (mTup m env S) Q X = Wr (m env S) (fun ds S1 => ds.length ≤ lim ∧ Q (.tup ds) S1) X := by
  show Wr (R.bind _ _) _ _ = _
  rw [w_bind]
  congr 1
  funext ds S1
  rw [w_ite]
  by_cases h : ds.length ≤ lim <;> simp [h, wr_def, WrD]
theorem v_lst {m : MA} : Wr (mLst m env S) Q X = Wr (m env S) (fun ds S1 => ds.length ≤ lim ∧ Q (.ref S1.length) (S1 ++ [.lst ds])) X := by
  show Wr (R.bind _ _) _ _ = _
  rw [w_bind]
  congr 1
  funext ds S1
  rw [w_ite]
  by_cases h : ds.length ≤ lim <;> simp [h, wr_def, WrD]
theorem v_fld {fl : Str → List Str} {z : Str} {a : ME} : Wr (mFld fl z a env S) Q X = Wr (a env S) (fun d S1 => ∃ e, fieldOf fl S1 z d = some e ∧ Q e S1) X := by
  show Wr (R.bind _ _) _ _ = _
  rw [w_bind]
  congr 1
  funext d S1
  cases h : fieldOf fl S1 z d <;> simp [wr_def, WrD, h]
theorem v_ch2 {g g' : D → D → Store → R D} {a b c : ME} : Wr (mCh2 g g' a b c env S) Q X = Wr (a env S) (fun x S1 => Wr (b env S1) (fun y S2 => Wr (g x y S2) (fun z S3 => Wr (asB z S3) (fun t S4 => if t = true then Wr (c env S4) (fun w S5 => Wr (g' y w S5) Q X) X else Q (.bl false) S4) X) X) X) X := by
  show Wr (R.bind _ _) _ _ = _
  rw [w_bind]
  congr 1
  funext x S1
  show Wr (R.bind _ _) _ _ = _
  rw [w_bind]
  congr 1
  funext y S2
  rw [w_bind]
  congr 1
  funext z S3
  rw [w_bind]
  congr 1
  funext t S4
  rw [w_ite]
  by_cases h : t = true
  · simp only [h, if_true]
    show Wr (R.bind _ _) _ _ = _
    rw [w_bind]
  · simp only [h, if_false]
    exact w_ok
theorem v_ch3 {g g' g'' : D → D → Store → R D} {a b c e : ME} : Wr (mCh3 g g' g'' a b c e env S) Q X = Wr (a env S) (fun x S1 => Wr (b env S1) (fun y S2 => Wr (g x y S2) (fun z S3 => Wr (asB z S3) (fun t S4 => if t = true then Wr (mCh2 g' g'' (mC y) c e env S4) Q X else Q (.bl false) S4) X) X) X) X := by
  show Wr (R.bind _ _) _ _ = _
  rw [w_bind]
  congr 1
  funext x S1
  show Wr (R.bind _ _) _ _ = _
  rw [w_bind]
  congr 1
  funext y S2
  rw [w_bind]
  congr 1
  funext z S3
  rw [w_bind]
  congr 1
  funext t S4
  rw [w_ite]
  by_cases h : t = true
  · simp only [h, if_true]
    rfl
  · simp only [h, if_false]
    exact w_ok
theorem v_BM {g : D → List D → Store → R D} {o : ME} {a : MA} : Wr (mBM g o a env S) Q X = Wr (o env S) (fun d S1 => ∃ n, d = .ref n ∧ ∃ l, S1[n]? = some (.lst l) ∧ Wr (a env S1) (fun xs S2 => Wr (g (.ref n) xs S2) Q X) X) X := by
  show Wr (R.bind _ _) _ _ = _
  rw [w_bind]
  congr 1
  funext d S1
  cases d with
  | ref n =>
    simp only [D.ref.injEq, exists_eq_left']
    cases h : S1[n]? with
    | none => simp [wr_def, WrD]
    | some o =>
      cases o with
      | lst l =>
        simp only [Option.some.injEq, Ob.lst.injEq, exists_eq_left', w_bind]
      | _ => simp [wr_def, WrD]
  | _ => simp [wr_def, WrD]
theorem v_app {n : Nat} : Wr (gAppend (.ref n) [y] S) Q X = ∃ l, S[n]? = some (.lst l) ∧ l.length < lim ∧ Q .non (S.set n (.lst (l ++ [y]))) := by
  unfold gAppend
  cases h : S[n]? with
  | none => simp [wr_def, WrD, h]
  | some o =>
    cases o with
    | lst l => by_cases c : l.length < lim <;> simp [wr_def, WrD, h, c]
    | _ => simp [wr_def, WrD, h]
theorem v_o0 {QO : Option Int → Store → Prop} : Wr (toO none env S) QO X = QO none S := wr_def
theorem v_o1 {QO : Option Int → Store → Prop} {m : ME} : Wr (toO (some m) env S) QO X = Wr (m env S) (fun d S1 => ∃ i, d = .int i ∧ QO (some i) S1) X := by
  show Wr (R.bind _ _) _ _ = _
  rw [w_bind]
  congr 1
  funext d S1
  cases d <;> simp [wr_def, WrD]
theorem v_sl {a : ME} {lo hi : Option ME} : Wr (mSl a lo hi env S) Q X = Wr (a env S) (fun d S1 => Wr (toO lo env S1) (fun l S2 => Wr (toO hi env S2) (fun h S3 => Wr (gSl d l h S3) Q X) X) X) X := by
  show Wr (R.bind _ _) _ _ = _
  rw [w_bind]
  congr 1
  funext d S1
  rw [w_bind]
  congr 1
  funext l S2
  rw [w_bind]
theorem v_slT {ds : List D} {l h : Option Int} : Wr (gSl (.tup ds) l h S) Q X = Q (.tup (cutD ds l h)) S := wr_def
theorem v_slR {n : Nat} {l h : Option Int} : Wr (gSl (.ref n) l h S) Q X = ∃ ds, S[n]? = some (.lst ds) ∧ Q (.ref S.length) (S ++ [.lst (cutD ds l h)]) := by
  unfold gSl listOf
  cases h : S[n]? with
  | none => simp [wr_def, WrD, h]
  | some o => cases o <;> simp [wr_def, WrD, h]
theorem v_ixT {ds : List D} {i : Int} : Wr (gIx (.tup ds) (.int i) S) Q X = ∃ d, atI ds i = some d ∧ Q d S := by
  unfold gIx listOf
  cases h : atI ds i <;> simp [wr_def, WrD, h]
theorem v_ixL {ds : List D} {i : Int} : Wr (gIx (.rol ds) (.int i) S) Q X = ∃ d, atI ds i = some d ∧ Q d S := by
  unfold gIx listOf
  cases h : atI ds i <;> simp [wr_def, WrD, h]
theorem v_ixR {n : Nat} {i : Int} : Wr (gIx (.ref n) (.int i) S) Q X = ∃ ds, S[n]? = some (.lst ds) ∧ ∃ d, atI ds i = some d ∧ Q d S := by
  unfold gIx listOf
  cases h : S[n]? with
  | none => simp [wr_def, WrD, h]
  | some o =>
    cases o with
    | lst ds => cases h2 : atI ds i <;> simp [wr_def, WrD, h, h2]
    | _ => simp [wr_def, WrD, h]
theorem v_lenR {n : Nat} : Wr (gLen [.ref n] S) Q X = ((∃ ds, S[n]? = some (.lst ds) ∧ Q (.int (ds.length : Nat)) S) ∨ ∃ ds, S[n]? = some (.dk ds) ∧ Q (.int (ds.length : Nat)) S) := by
  unfold gLen
  cases h : S[n]? with
  | none => simp [wr_def, WrD, h]
  | some o => cases o <;> simp [wr_def, WrD, h]
theorem v_lenT {ds : List D} : Wr (gLen [.tup ds] S) Q X = Q (.int (ds.length : Nat)) S := wr_def
theorem v_lenL {ds : List D} : Wr (gLen [.rol ds] S) Q X = Q (.int (ds.length : Nat)) S := wr_def
theorem v_tuT {ds : List D} : Wr (gTuple [.tup ds] S) Q X = Q (.tup ds) S := wr_def
theorem v_tuL {ds : List D} : Wr (gTuple [.rol ds] S) Q X = Q (.tup ds) S := wr_def
theorem v_tuR {n : Nat} : Wr (gTuple [.ref n] S) Q X = ∃ ds, S[n]? = some (.lst ds) ∧ Q (.tup ds) S := by
  unfold gTuple listOf
  cases h : S[n]? with
  | none => simp [wr_def, WrD, h]
  | some o => cases o <;> simp [wr_def, WrD, h]
theorem v_liT {ds : List D} : Wr (gList [.tup ds] S) Q X = Q (.ref S.length) (S ++ [.lst ds]) := wr_def
theorem v_liL {ds : List D} : Wr (gList [.rol ds] S) Q X = Q (.ref S.length) (S ++ [.lst ds]) := wr_def
theorem v_liR {n : Nat} : Wr (gList [.ref n] S) Q X = ∃ ds, S[n]? = some (.lst ds) ∧ Q (.ref S.length) (S ++ [.lst ds]) := by
  unfold gList listOf
  cases h : S[n]? with
  | none => simp [wr_def, WrD, h]
  | some o => cases o <;> simp [wr_def, WrD, h]
theorem v_all {n : Nat} : Wr (gAll [.ref n] S) Q X = ∃ ds, S[n]? = some (.lst ds) ∧ ∃ bs, dBools ds = some bs ∧ Q (.bl (bs.all id)) S := by
  unfold gAll onL
  cases h : S[n]? with
  | none => simp [wr_def, WrD, h]
  | some o =>
    cases o with
    | lst ds => cases h2 : dBools ds <;> simp [wr_def, WrD, h, h2]
    | _ => simp [wr_def, WrD, h]
theorem v_any {n : Nat} : Wr (gAny [.ref n] S) Q X = ∃ ds, S[n]? = some (.lst ds) ∧ ∃ bs, dBools ds = some bs ∧ Q (.bl (bs.any id)) S := by
  unfold gAny onL
  cases h : S[n]? with
  | none => simp [wr_def, WrD, h]
  | some o =>
    cases o with
    | lst ds => cases h2 : dBools ds <;> simp [wr_def, WrD, h, h2]
    | _ => simp [wr_def, WrD, h]
theorem v_sum {n : Nat} : Wr (gSum [.ref n] S) Q X = ∃ ds, S[n]? = some (.lst ds) ∧ ∃ bs, dInts ds = some bs ∧ Q (.int bs.sum) S := by
  unfold gSum onL
  cases h : S[n]? with
  | none => simp [wr_def, WrD, h]
  | some o =>
    cases o with
    | lst ds => cases h2 : dInts ds <;> simp [wr_def, WrD, h, h2]
    | _ => simp [wr_def, WrD, h]
/-! ints -/
theorem v_add {i j : Int} : Wr (gAdd (.int i) (.int j) S) Q X = Q (.int (i + j)) S := wr_def
theorem v_addT {a b : List D} : Wr (gAdd (.tup a) (.tup b) S) Q X = (a.length + b.length ≤ lim ∧ Q (.tup (a ++ b)) S) := by
  unfold gAdd
  rw [w_ite]
  by_cases h : a.length + b.length ≤ lim <;> simp [h, wr_def, WrD]
theorem v_addR {n m : Nat} : Wr (gAdd (.ref n) (.ref m) S) Q X = ∃ a, S[n]? = some (.lst a) ∧ ∃ b, S[m]? = some (.lst b) ∧ a.length + b.length ≤ lim ∧ Q (.ref S.length) (S ++ [.lst (a ++ b)]) := by
  unfold gAdd
  cases h : S[n]? with
  | none => simp [wr_def, WrD, h]
  | some o =>
    cases o with
    | lst a =>
      cases h2 : S[m]? with
      | none => simp [wr_def, WrD, h, h2]
      | some o =>
        cases o with
        | lst b => by_cases c : a.length + b.length ≤ lim <;> simp [wr_def, WrD, h, h2, c]
        | _ => simp [wr_def, WrD, h, h2]
    | _ => simp [wr_def, WrD, h]
theorem v_sub {i j : Int} : Wr (gSub (.int i) (.int j) S) Q X = Q (.int (i - j)) S := wr_def
theorem v_mul {i j : Int} : Wr (gMul (.int i) (.int j) S) Q X = (bits i + bits j < 1000000 ∧ Q (.int (i * j)) S) := by
  unfold gMul
  rw [w_ite]
  by_cases h : bits i + bits j < 1000000 <;> simp [h, wr_def, WrD]
theorem v_div {i j : Int} : Wr (gDiv (.int i) (.int j) S) Q X = ((j ≠ 0 ∧ bits j < 9000) ∧ Q (.int (fdv i j)) S) := by
  unfold gDiv
  rw [w_ite]
  by_cases h : j ≠ 0 ∧ bits j < 9000 <;> simp [h, wr_def, WrD]
theorem v_mod {i j : Int} : Wr (gMod (.int i) (.int j) S) Q X = (j ≠ 0 ∧ Q (.int (fmd i j)) S) := by
  unfold gMod
  rw [w_ite]
  by_cases h : j ≠ 0 <;> simp [h, wr_def, WrD]
theorem v_neg {i : Int} : Wr (gNeg (.int i) S) Q X = Q (.int (-i)) S := wr_def
theorem v_cmp {p : Int → Int → Bool} {i j : Int} : Wr (gCmp p (.int i) (.int j) S) Q X = Q (.bl (p i j)) S := wr_def
theorem v_eqZ {cs : List Str} {oe : Str → Option (List D → Store → R D)} {i j : Int} : Wr (gEqZ cs oe (.int i) (.int j) S) Q X = Q (.bl (decide (i = j))) S := by rw [eqZ_int]; exact w_ok
theorem v_eqX {cs : List Str} {oe : Str → Option (List D → Store → R D)} {i j : Int} : Wr (gEqX cs oe (.int i) (.int j) S) Q X = Q (.bl (decide (i = j))) S := by rw [eqX_int]; exact w_ok
theorem v_neX {oe : Str → Option (List D → Store → R D)} {i j : Int} : Wr (gNeX oe (.int i) (.int j) S) Q X = Q (.bl (!decide (i = j))) S := by rw [neX_int]; exact w_ok
theorem v_isN : Wr (gIsN x .non S) Q X = Q (.bl (isNonD x)) S := by cases x <;> exact wr_def
theorem v_notN : Wr (gNotN x .non S) Q X = Q (.bl (!isNonD x)) S := by cases x <;> exact wr_def
theorem n_non : isNonD .non = true := rfl
theorem n_int {i : Int} : isNonD (.int i) = false := rfl
theorem n_bl {i : Bool} : isNonD (.bl i) = false := rfl
theorem n_str {i : Str} : isNonD (.str i) = false := rfl
theorem n_tup {i : List D} : isNonD (.tup i) = false := rfl
theorem n_rol {i : List D} : isNonD (.rol i) = false := rfl
theorem n_ref {i : Nat} : isNonD (.ref i) = false := rfl
theorem n_ins {C : Str} {i : List D} : isNonD (.ins C i) = false := rfl
theorem v_int {i : Int} : Wr (gInt [.int i] S) Q X = Q (.int i) S := wr_def
theorem v_intB {b : Bool} : Wr (gInt [.bl b] S) Q X = Q (.int (if b = true then 1 else 0)) S := by cases b <;> exact wr_def
theorem v_abs {i : Int} : Wr (gAbs [.int i] S) Q X = Q (.int (if i < 0 then -i else i)) S := wr_def
theorem v_max2 {i j : Int} : Wr (gMax2 [.int i, .int j] S) Q X = Q (.int (if j > i then j else i)) S := wr_def
theorem v_min2 {i j : Int} : Wr (gMin2 [.int i, .int j] S) Q X = Q (.int (if j < i then j else i)) S := wr_def
theorem v_gcd {i j : Int} : Wr (gGcd [.int i, .int j] S) Q X = Q (.int ((Nat.gcd i.natAbs j.natAbs : Nat) : Int)) S := wr_def
/-! sources -/
theorem v_seq {m : ME} : Wr (iSeq m env S) QS X = Wr (m env S) (fun d S1 => Wr (srcOf d S1) QS X) X := w_bind
theorem v_srcT {ds : List D} : Wr (srcOf (.tup ds) S) QS X = QS (vals ds) S := wr_def
theorem v_srcL {ds : List D} : Wr (srcOf (.rol ds) S) QS X = QS (vals ds) S := wr_def
theorem v_srcR {n : Nat} : Wr (srcOf (.ref n) S) QS X = ∃ ds, S[n]? = some (.lst ds) ∧ QS (lstAt n ds) S := by
  unfold srcOf
  cases h : S[n]? with
  | none => simp [wr_def, WrD, h]
  | some o => cases o <;> simp [wr_def, WrD, h]
theorem s_vi {ds : List D} : (vals ds).items = ds := rfl
theorem s_vg {ds : List D} : (vals ds).gd = fun _ => True := rfl
theorem s_li {n : Nat} {ds : List D} : (lstAt n ds).items = ds := rfl
theorem s_lg {n : Nat} {ds : List D} : (lstAt n ds).gd = fun S => S[n]? = some (.lst ds) := rfl
theorem v_rng1 {m : MA} : Wr (iRng1' m env S) QS X = Wr (m env S) (fun ds S1 => ∃ j, ds = [.int j] ∧ bd j ∧ QS (vals (rngI 0 j.toNat)) S1) X := by
  show Wr (R.bind _ _) _ _ = _
  rw [w_bind]
  congr 1
  funext ds S1
  match ds with
  | [] => simp [wr_def, WrD]
  | [.int j] => by_cases h : bd j <;> simp [h, wr_def, WrD]
  | [.non] => simp [wr_def, WrD]
  | [.bl _] => simp [wr_def, WrD]
  | [.str _] => simp [wr_def, WrD]
  | [.tup _] => simp [wr_def, WrD]
  | [.rol _] => simp [wr_def, WrD]
  | [.ref _] => simp [wr_def, WrD]
  | [.ins _ _] => simp [wr_def, WrD]
  | d :: e :: r => cases d <;> simp [wr_def, WrD]
theorem v_enu {m : ME} : Wr (iEnuZ m env S) QS X = Wr (m env S) (fun d S1 => Wr (srcEZ d S1) QS X) X := w_bind
theorem v_enuT {ds : List D} : Wr (srcEZ (.tup ds) S) QS X = QS ⟨enumD ds, fun _ => True⟩ S := wr_def
theorem v_enuL {ds : List D} : Wr (srcEZ (.rol ds) S) QS X = QS ⟨enumD ds, fun _ => True⟩ S := wr_def
theorem v_enuR {n : Nat} : Wr (srcEZ (.ref n) S) QS X = ∃ ds, S[n]? = some (.lst ds) ∧ QS ⟨enumD ds, fun S => S[n]? = some (.lst ds)⟩ S := by
  show Wr (srcE (.ref n) S) QS X = _
  unfold srcE
  cases h : S[n]? with
  | none => simp [wr_def, WrD, h]
  | some o => cases o <;> simp [wr_def, WrD, h]
theorem v_zip {m n : ME} : Wr (iZip' m n env S) QS X = Wr (m env S) (fun x S1 => Wr (n env S1) (fun y S2 => Wr (srcZ x y S2) QS X) X) X := by
  show Wr (R.bind _ _) _ _ = _
  rw [w_bind]
  congr 1
  funext x S1
  rw [w_bind]
theorem v_lc {mi : MI} {g : Tg} {mt : MT} {me : ME} {vs : List Nat} : Wr (mLc mi g mt me vs env S) Q X = Wr (mi env S) (fun s S1 => Wr (lcGo s.gd g mt me (wipeE env vs) S1.length s.items (S1 ++ [.lst []])) Q X) X := w_bind
theorem wi_0 : wipeE env [] = env := rfl
theorem wi_s {v : Nat} {vs : List Nat} : wipeE env (v :: vs) = (wipeE env vs).set v none := rfl
/-! targets -/
theorem v_gS {i : Nat} : Wr (gSet i d env S) QE X = QE (env.set i (some d)) S := wr_def
theorem v_gU {n : Nat} {r : MGs} {ds : List D} : Wr (gUnpack n r (.tup ds) env S) QE X = (ds.length = n ∧ Wr (r ds env S) QE X) := by
  unfold gUnpack
  rw [w_ite]
  by_cases h : ds.length = n <;> simp [h, wr_def, WrD]
theorem v_gN : Wr (gNil' [] env S) QE X = QE env S := wr_def
theorem v_gC {g : MG} {r : MGs} {ds : List D} : Wr (gCons' g r (d :: ds) env S) QE X = Wr (g d env S) (fun e S1 => Wr (r ds e S1) QE X) X := w_bind
theorem v_gI {o i : ME} : Wr (gSub' o i d env S) QE X = Wr (o env S) (fun x S1 => Wr (i env S1) (fun y S2 => Wr (stIx d env x y S2) QE X) X) X := by
  show Wr (R.bind _ _) _ _ = _
  rw [w_bind]
  congr 1
  funext x S1
  rw [w_bind]
theorem v_st {n : Nat} {k : Int} : Wr (stIx d env (.ref n) (.int k) S) QE X = ∃ ds, S[n]? = some (.lst ds) ∧ ∃ j, ixN ds.length k = some j ∧ QE env (S.set n (.lst (ds.set j d))) := by
  unfold stIx
  cases h : S[n]? with
  | none => simp [wr_def, WrD, h]
  | some o =>
    cases o with
    | lst ds => cases h2 : ixN ds.length k <;> simp [wr_def, WrD, h, h2]
    | _ => simp [wr_def, WrD, h]
/-! statements -/
theorem u_set {i : Nat} {a : ME} : Ws (mSet i a env S) P = Wr (a env S) (fun d S1 => P.nx (env.set i (some d)) S1) (fun C ds S => P.ex C ds env S) := by
  show Ws (R.bindS _ _ _) _ = _
  simp only [w_bindS, w_nx, w_rt, w_exS]
theorem u_ret {a : ME} : Ws (mRet a env S) P = Wr (a env S) (fun d S1 => P.rt d S1) (fun C ds S => P.ex C ds env S) := by
  show Ws (R.bindS _ _ _) _ = _
  simp only [w_bindS, w_nx, w_rt, w_exS]
theorem u_retN : Ws (mRetN env S) P = P.rt .non S := ws_def
theorem u_drop {a : ME} : Ws (mDrop a env S) P = Wr (a env S) (fun _ S1 => P.nx env S1) (fun C ds S => P.ex C ds env S) := by
  show Ws (R.bindS _ _ _) _ = _
  simp only [w_bindS, w_nx, w_rt, w_exS]
theorem u_next : Ws (mNext env S) P = P.nx env S := ws_def
theorem u_brk : Ws (mBreak env S) P = P.bk env S := ws_def
theorem u_cont : Ws (mCont env S) P = P.ct env S := ws_def
theorem u_asg {a : ME} {g : MG} : Ws (mAsg a g env S) P = Wr (a env S) (fun d S1 => Wr (g d env S1) P.nx noX) (fun C ds S => P.ex C ds env S) := by
  show Ws (R.bindS _ _ _) _ = _
  rw [w_bindS]
  congr 1
  funext d S1
  exact w_nxt
theorem u_for {mi : MI} {g : MG} {mb : MS} : Ws (mFor mi g mb env S) P = Wr (mi env S) (fun s S1 => Ws (forGo s.gd g mb s.items env S1) P) (fun C ds S => P.ex C ds env S) := w_bindS
theorem u_while {n : Nat} {t : MT} {mb : MS} : Ws (mWhile n t mb env S) P = Ws (whileGo t mb n env S) P := propext ⟨fun h => ⟨h.out⟩, fun h => ⟨h.out⟩⟩
theorem u_r1 {C : Str} {a : ME} : Ws (mRaise1 C a env S) P = Wr (a env S) (fun d S1 => P.ex C [d] env S1) (fun C ds S => P.ex C ds env S) := by
  show Ws (R.bindS _ _ _) _ = _
  simp only [w_bindS, w_nx, w_rt, w_exS]
theorem u_r0 {C : Str} : Ws (mRaise0 C env S) P = P.ex C [] env S := ws_def
theorem v_xis {xk : Str → CK → Option Bool} {i : Nat} {C : Str} {T : CK} : Wr (mXis xk i C T env S) Q X = (env[i]? = some none ∧ ∃ b, xk C T = some b ∧ Q (.bl b) S) := by
  unfold mXis
  cases h : env[i]? with
  | none => simp [wr_def, WrD]
  | some o =>
    cases o with
    | none => cases h2 : xk C T <;> simp [wr_def, WrD]
    | some o => simp [wr_def, WrD]
theorem v_xfl {xf : Str → List Str} {i : Nat} {C z : Str} {ds : List D} : Wr (mXfld xf i C ds z env S) Q X = (env[i]? = some none ∧ ∃ d, ((xf C).zip ds).lookup z = some d ∧ Q d S) := by
  unfold mXfld
  cases h : env[i]? with
  | none => simp [wr_def, WrD]
  | some o =>
    cases o with
    | none => cases h2 : ((xf C).zip ds).lookup z <;> simp [wr_def, WrD]
    | some o => simp [wr_def, WrD]
theorem e_s {o : Option D} {e : Env} {n : Nat} {z : Option D} : List.set (o :: e) (n + 1) z = o :: List.set e n z := List.set_cons_succ ..
theorem e_0 {o : Option D} {e : Env} {z : Option D} : List.set (o :: e) 0 z = z :: e := List.set_cons_zero ..
theorem l1_eq {i j : Int} : ([D.int i] = [D.int j]) = (i = j) := by simp
theorem l_0 : (0 ≤ lim) = True := by simp
theorem l_1 : (1 ≤ lim) = True := by have : lim = 16777216 := rfl; simp [this]
theorem l_2 : (2 ≤ lim) = True := by have : lim = 16777216 := rfl; simp [this]
theorem l_3 : (3 ≤ lim) = True := by have : lim = 16777216 := rfl; simp [this]
theorem l_4 : (4 ≤ lim) = True := by have : lim = 16777216 := rfl; simp [this]
theorem l_5 : (5 ≤ lim) = True := by have : lim = 16777216 := rfl; simp [this]
theorem l_6 : (6 ≤ lim) = True := by have : lim = 16777216 := rfl; simp [this]
end
end Lk
local macro_rules | `(tactic| push_cast [$ts,*]) => `(tactic| simp only [Lk.v_0, Lk.v_s, Lk.v_C, Lk.v_nil, Lk.v_cons, Lk.v_m1, Lk.v_m2, Lk.v_mB, Lk.v_if, Lk.v_asB, Lk.v_test, Lk.v_andT, Lk.v_orT, Lk.v_notT, Lk.v_and, Lk.v_or, Lk.v_not, Lk.v_call, Lk.v_make, Lk.v_tup, Lk.v_lst, Lk.v_fld, Lk.v_ch2, Lk.v_ch3, Lk.v_BM, Lk.v_app, Lk.v_o0, Lk.v_o1, Lk.v_sl, Lk.v_slT, Lk.v_slR, Lk.v_ixT, Lk.v_ixL, Lk.v_ixR, Lk.v_lenR, Lk.v_lenT, Lk.v_lenL, Lk.v_tuT, Lk.v_tuL, Lk.v_tuR, Lk.v_liT, Lk.v_liL, Lk.v_liR, Lk.v_all, Lk.v_any, Lk.v_sum, Lk.v_add, Lk.v_addT, Lk.v_addR, Lk.v_sub, Lk.v_mul, Lk.v_div, Lk.v_mod, Lk.v_neg, Lk.v_cmp, Lk.v_eqZ, Lk.v_eqX, Lk.v_neX, Lk.v_isN, Lk.v_notN, Lk.n_non, Lk.n_int, Lk.n_bl, Lk.n_str, Lk.n_tup, Lk.n_rol, Lk.n_ref, Lk.n_ins, Lk.v_int, Lk.v_intB, Lk.v_abs, Lk.v_max2, Lk.v_min2, Lk.v_gcd, Lk.v_seq, Lk.v_srcT, Lk.v_srcL, Lk.v_srcR, Lk.s_vi, Lk.s_vg, Lk.s_li, Lk.s_lg, Lk.v_rng1, Lk.v_enu, Lk.v_enuT, Lk.v_enuL, Lk.v_enuR, Lk.v_zip, Lk.v_lc, Lk.wi_0, Lk.wi_s, Lk.v_gS, Lk.v_gU, Lk.v_gN, Lk.v_gC, Lk.v_gI, Lk.v_st, Lk.v_xis, Lk.v_xfl, List.getElem?_cons_succ, List.getElem?_cons_zero, Lk.u_set, Lk.u_ret, Lk.u_retN, Lk.u_drop, Lk.u_next, Lk.u_brk, Lk.u_cont, Lk.u_asg, Lk.u_for, Lk.u_while, Lk.u_r1, Lk.u_r0, Lk.w_if, Lk.w_ok, Lk.e_s, Lk.e_0, Lk.l_0, Lk.l_1, Lk.l_2, Lk.l_3, Lk.l_4, Lk.l_5, Lk.l_6, List.map_cons, List.map_nil, List.cons_append, List.nil_append, List.length_cons, List.length_nil, List.replicate, Nat.reduceAdd, Nat.reduceSub, Nat.zero_add, reduceIte, Bool.false_eq_true, if_true, if_false, decide_eq_true_eq, Lk.bne_dec, ne_eq, not_false_eq_true, not_true_eq_false, true_and, and_true, Bool.not_true, Bool.not_false, Option.some.injEq, Lk.Ob.lst.injEq, Lk.D.ref.injEq, Lk.D.int.injEq, Lk.l1_eq, exists_eq_left', reduceCtorEq, false_and, exists_false, or_false, false_or, Lk.ati0, Lk.ati1, Lk.ati2, Lk.ati3, Lk.ati4, Int.toNat_natCast, $ts,*])

set_option Elab.async false
set_option linter.all false
set_option autoImplicit false
set_option maxRecDepth 100000
set_option maxHeartbeats 4000000
/-! data by value, compared -/
namespace Lk
open PySem L2
mutual
def toP : D → PyData
  | .non => .none
  | .bl b => .bool b
  | .int i => .int i
  | .str x => .str x
  | .tup ds => .tuple (toPL ds)
  | .rol ds => .list (toPL ds)
  | .ref _ => .none
  | .ins _ _ => .none
def toPL : List D → List PyData
  | [] => []
  | d :: ds => toP d :: toPL ds
end
mutual
/-- plain data of at most so many levels -/
def okP : Nat → D → Bool
  | _, .non => true
  | _, .bl _ => true
  | _, .int _ => true
  | _, .str x => PyData.strOk x
  | 0, .tup _ => false
  | n + 1, .tup ds => okPL n ds
  | 0, .rol _ => false
  | n + 1, .rol ds => okPL n ds
  | _, .ref _ => false
  | _, .ins _ _ => false
def okPL : Nat → List D → Bool
  | _, [] => true
  | n, d :: ds => okP n d && okPL n ds
end
mutual
theorem okP_py {S : Store} : ∀ (n : Nat) (d : D), okP n d = true → pyD S (n + 1) d = some (toP d) ∧ (toP d).canLay0 = true ∧ (toP d).depth ≤ n
  | n, .non, _ => by simp [pyD, toP, PyData.canLay0, PyData.depth]
  | n, .bl _, _ => by simp [pyD, toP, PyData.canLay0, PyData.depth]
  | n, .int _, _ => by simp [pyD, toP, PyData.canLay0, PyData.depth]
  | n, .str x, h => by simp [okP] at h; simp [pyD, toP, PyData.canLay0, PyData.depth, h]
  | 0, .tup _, h => by simp [okP] at h
  | n + 1, .tup ds, h => by
    simp only [okP] at h
    obtain ⟨h1, h2, h3⟩ := okPL_py (S := S) n ds h
    refine ⟨by show (ds.mapM (pyD S (n + 1))).map PyData.tuple = _; rw [h1]; rfl, by simpa only [toP, PyData.canLay0] using h2, by simp only [toP, PyData.depth]; omega⟩
  | 0, .rol _, h => by simp [okP] at h
  | n + 1, .rol ds, h => by
    simp only [okP] at h
    obtain ⟨h1, h2, h3⟩ := okPL_py (S := S) n ds h
    refine ⟨by show (ds.mapM (pyD S (n + 1))).map PyData.list = _; rw [h1]; rfl, by simpa only [toP, PyData.canLay0] using h2, by simp only [toP, PyData.depth]; omega⟩
  | n, .ref _, h => by cases n <;> simp [okP] at h
  | n, .ins _ _, h => by cases n <;> simp [okP] at h
theorem okPL_py {S : Store} : ∀ (n : Nat) (ds : List D), okPL n ds = true → ds.mapM (pyD S (n + 1)) = some (toPL ds) ∧ PyData.canLayAll0 (toPL ds) = true ∧ PyData.depthAll (toPL ds) ≤ n
  | n, [], _ => by simp [toPL, PyData.canLayAll0, PyData.depthAll]
  | n, d :: ds, h => by
    simp only [okPL, Bool.and_eq_true] at h
    obtain ⟨a1, a2, a3⟩ := okP_py (S := S) n d h.1
    obtain ⟨b1, b2, b3⟩ := okPL_py (S := S) n ds h.2
    refine ⟨?_, by simp [toPL, PyData.canLayAll0, a2, b2], by simp only [toPL, PyData.depthAll]; omega⟩
    rw [List.mapM_cons, a1, b1]
    rfl
end
mutual
theorem okP_up : ∀ (n : Nat) (d : D), okP n d = true → okP (n + 1) d = true
  | n, .non, _ => by simp [okP]
  | n, .bl _, _ => by simp [okP]
  | n, .int _, _ => by simp [okP]
  | n, .str x, h => by simpa [okP] using h
  | 0, .tup _, h => by simp [okP] at h
  | n + 1, .tup ds, h => by
    simp only [okP] at h ⊢
    exact okPL_up n ds h
  | 0, .rol _, h => by simp [okP] at h
  | n + 1, .rol ds, h => by
    simp only [okP] at h ⊢
    exact okPL_up n ds h
  | n, .ref _, h => by cases n <;> simp [okP] at h
  | n, .ins _ _, h => by cases n <;> simp [okP] at h
theorem okPL_up : ∀ (n : Nat) (ds : List D), okPL n ds = true → okPL (n + 1) ds = true
  | n, [], _ => by simp [okPL]
  | n, d :: ds, h => by
    simp only [okPL, Bool.and_eq_true] at h ⊢
    exact ⟨okP_up n d h.1, okPL_up n ds h.2⟩
end
/-- what compares as plain data: a value, or a list in the store -/
def Dat (S : Store) (d : D) (p : PyData) : Prop := (okP 11 d = true ∧ p = toP d) ∨ ∃ n xs, d = .ref n ∧ S[n]? = some (.lst xs) ∧ okPL 10 xs = true ∧ p = .list (toPL xs)
theorem Dat.val {S : Store} {d : D} (h : okP 11 d = true) : Dat S d (toP d) := .inl ⟨h, rfl⟩
/-! without flags: equal as data, equal -/
mutual
def okC : D → Bool
  | .non => true
  | .int _ => true
  | .str _ => true
  | .tup ds => okCL ds
  | _ => false
def okCL : List D → Bool
  | [] => true
  | d :: ds => okC d && okCL ds
end
mutual
theorem eqv_c : ∀ (x y : D), okC x = true → okC y = true → (PyData.eqv (toP x) (toP y) = true ↔ x = y)
  | .non, y, _, h => by cases y <;> simp [okC] at h <;> simp [toP, PyData.eqv]
  | .int i, y, _, h => by cases y <;> simp [okC] at h <;> simp [toP, PyData.eqv]
  | .str i, y, _, h => by cases y <;> simp [okC] at h <;> simp [toP, PyData.eqv]
  | .tup ds, y, hx, h => by
    cases y with
    | tup es =>
      simp only [okC] at hx h
      simp only [toP, PyData.eqv, D.tup.injEq]
      exact eqv_cl ds es hx h
    | non => simp [toP, PyData.eqv]
    | int i => simp [toP, PyData.eqv]
    | str i => simp [toP, PyData.eqv]
    | bl b => simp [okC] at h
    | rol b => simp [okC] at h
    | ref b => simp [okC] at h
    | ins b c => simp [okC] at h
  | .bl _, y, h, _ => by simp [okC] at h
  | .rol _, y, h, _ => by simp [okC] at h
  | .ref _, y, h, _ => by simp [okC] at h
  | .ins _ _, y, h, _ => by simp [okC] at h
theorem eqv_cl : ∀ (xs ys : List D), okCL xs = true → okCL ys = true → (PyData.eqvAll (toPL xs) (toPL ys) = true ↔ xs = ys)
  | [], [], _, _ => by simp [toPL, PyData.eqvAll]
  | [], y :: ys, _, _ => by simp [toPL, PyData.eqvAll]
  | x :: xs, [], _, _ => by simp [toPL, PyData.eqvAll]
  | x :: xs, y :: ys, hx, hy => by
    simp only [okCL, Bool.and_eq_true] at hx hy
    simp only [toPL, PyData.eqvAll, Bool.and_eq_true, List.cons.injEq]
    rw [eqv_c x y hx.1 hy.1, eqv_cl xs ys hx.2 hy.2]
end
end Lk

set_option Elab.async false
set_option linter.all false
set_option autoImplicit false
set_option maxRecDepth 100000
set_option maxHeartbeats 4000000
/-! a result told outright; loops written out; lcm, min, max of lists -/
namespace Lk
open PySem L2
section
variable {Q : D → Store → Prop} {X : XP} {P : Po} {S : Store} {env : Env}
end
end Lk
namespace Lk
open PySem L2
section
variable {QS : Src → Store → Prop} {X : XP} {S : Store} {env : Env}
end
end Lk

set_option Elab.async false
set_option linter.all false
set_option autoImplicit false
set_option maxRecDepth 100000
set_option maxHeartbeats 4000000
/-! the calculus: comprehensions of two fors, dicts, parallel assignment, tuple(range), pop(i), except without a name -/
namespace Lk
open PySem L2
section
variable {env : Env} {S : Store} {Q : D → Store → Prop} {QE : Env → Store → Prop} {X : XP} {P : Po} {d : D}
/-! dicts -/
/-! what a dict holds -/
/-! the rest -/
end
end Lk

set_option Elab.async false
set_option linter.all false
set_option autoImplicit false
set_option maxRecDepth 100000
set_option maxHeartbeats 4000000
/-! a value's truth; min and max over lists and tuples of plain data -/
namespace Lk
open PySem PySem.Spec PyProof.Rows L2
open PySem.W (dataLt AlikeAll minD maxD alike dataLt_int min_list_data max_list_data min_tuple_data max_tuple_data readsAll_at)
section
variable {Γ : G} {W : WX} {X : Cx} {f : List Addr} {H : Hp} {S : Store} {a : Expr} {ma : ME}
/-! ### min, max of plain data -/
end
end Lk

set_option Elab.async false
set_option linter.all false
set_option autoImplicit false
set_option maxRecDepth 100000
set_option maxHeartbeats 4000000
/-! list(range), in over ints, what stays of a store -/
namespace Lk
open PySem L2
section
variable {env : Env} {S : Store} {Q : D → Store → Prop} {X : XP}
end
/-- what stood stays -/
def Od (S S' : Store) : Prop := S.length ≤ S'.length ∧ ∀ m, m < S.length → S'[m]? = S[m]?
section
variable {S S' S'' : Store}
theorem Od.take (h : Od S S') : S'.take S.length = S := by
  apply List.ext_getElem?
  intro m
  rcases Nat.lt_or_ge m S.length with c | c
  · rw [List.getElem?_take_of_lt c, h.2 m c]
  · rw [List.getElem?_eq_none c, List.getElem?_eq_none (by rw [List.length_take]; omega)]
end
end Lk

set_option Elab.async false
set_option linter.all false
set_option autoImplicit false
set_option maxRecDepth 100000
set_option maxHeartbeats 4000000
/-! t[::-1] of a tuple -/
namespace Lk
open PySem PySem.Spec PyProof.Rows L2 HT
section
variable {prog : Program} {w : World} {A : Around} {E : Value → Shared → Prop} {s : Shared}
end
section
variable {Γ : G} {W : WX} {X : Cx} {f : List Addr} {S : Store} {H : Hp} {e : Expr} {p1 p2 p3 pos : Pos} {me : ME}
end
section
variable {env : Env} {S : Store} {Q : D → Store → Prop} {X : XP}
end
end Lk

set_option Elab.async false
set_option linter.all false
set_option autoImplicit false
set_option maxRecDepth 100000
set_option maxHeartbeats 4000000
/-! not x, by the truth of any value *)
-/
namespace Lk
open PySem PySem.Spec PyProof.Rows L2
section
variable {Γ : G} {W : WX} {X : Cx} {f : List Addr} {H : Hp} {S : Store} {a : Expr} {ma : ME} {pos : Pos} {ta : TE}
end
end Lk

set_option Elab.async false
set_option linter.all false
set_option autoImplicit false
set_option maxRecDepth 100000
set_option maxHeartbeats 4000000
/-! min of a list of things that hold lists: the first least one, told by its place -/
namespace Lk
open PySem PySem.Spec PyProof.Rows L2
open PySem.W (dataLt AlikeAll readsAll_len readsAll_at iter_listW cmpIn_lt moved_old)
section
variable {prog : Program} {w : World} {A : Around} {E : Value → Shared → Prop} {s : Shared}
end
section
variable {X : Cx} {Γ : G}
end
end Lk

set_option Elab.async false
set_option linter.all false
set_option autoImplicit false
set_option maxRecDepth 100000
set_option maxHeartbeats 4000000
/-! the calculus for dicts with tuple keys, several except clauses, x += e -/
namespace Lk
open PySem L2
section
variable {Q : D → Store → Prop} {X : XP} {P : Po} {env : Env} {S : Store}
variable {C : Str} {ds : List D} {sb : Str → Option Bool} {ms : Str → List D → MS} {r : List Hn}
end
end Lk

set_option Elab.async false
set_option linter.all false
set_option autoImplicit false
set_option maxRecDepth 100000
set_option maxHeartbeats 4000000
/-! the calculus for the unpacking of lists -/
namespace Lk
open PySem L2
section
variable {X : XP} {env : Env} {S : Store} {QE : Env → Store → Prop}
end
end Lk

/-! The mirror of law_k25_faults_of_likenesses, by gen.py. -/
set_option linter.all false
set_option autoImplicit false
set_option maxRecDepth 1000000
set_option maxHeartbeats 40000000
set_option Elab.async false
namespace Mi_k25
open PySem PySem.Spec PyProof.Rows L2 Lk
def top (i : Nat) : Stmt := PySem.Challenge.pw_likespans_k25_faults_of_likenesses.main.body.getD i (.Pass ⟨0, 0, 0, 0⟩)
def flds : Str → List Str := fun C => if C = "Ratio" then ["top", "bottom"] else if C = "Net" then ["beat", "events", "spans"] else []
def xfl : Str → List Str := fun C => if C = "BadBeat" then ["beat"] else if C = "BadEvents" then ["events"] else if C = "BadSpan" then ["index"] else if C = "BadNumber" then ["value"] else []
def af : List Str := ["beat", "bottom", "events", "spans", "top"]
def cs : List Str := ["Ratio", "Net"]
abbrev G0 (K : PySem.W.Frag) : G := { K := K, c := He.ga K, flds := flds, af := af, xfl := xfl }
/-! ### what the head is asked -/
def fn : List He.DefD := [
  ⟨("_law_source", none), "_law_source", "_law_source", defArgs (top 38), defBody (top 38), defScope (top 38), [], []⟩,
  ⟨("_law_draw", none), "_law_draw", "_law_draw", defArgs (top 39), defBody (top 39), defScope (top 39), [], []⟩,
  ⟨("_law_beat", none), "_law_beat", "_law_beat", defArgs (top 40), defBody (top 40), defScope (top 40), [], []⟩,
  ⟨("_law_perm", none), "_law_perm", "_law_perm", defArgs (top 41), defBody (top 41), defScope (top 41), [], []⟩,
  ⟨("is_integer", none), "is_integer", "is_integer", defArgs (top 11), defBody (top 11), defScope (top 11), [], []⟩,
  ⟨("is_number", none), "is_number", "is_number", defArgs (top 13), defBody (top 13), defScope (top 13), [], []⟩,
  ⟨("top_of", none), "top_of", "top_of", defArgs (top 14), defBody (top 14), defScope (top 14), [], []⟩,
  ⟨("bottom_of", none), "bottom_of", "bottom_of", defArgs (top 15), defBody (top 15), defScope (top 15), [], []⟩,
  ⟨("Ratio", some "__eq__"), "__eq__", "Ratio.__eq__", defArgs (inClass (top 16) 8), defBody (inClass (top 16) 8), defScope (inClass (top 16) 8), [], []⟩,
  ⟨("Net", some "__eq__"), "__eq__", "Net.__eq__", defArgs (inClass (top 23) 1), defBody (inClass (top 23) 1), defScope (inClass (top 23) 1), [], []⟩,
  ⟨("_law_even_tops", none), "_law_even_tops", "_law_even_tops", defArgs (top 48), defBody (top 48), defScope (top 48), [], []⟩,
  ⟨("_law_raw", none), "_law_raw", "_law_raw", defArgs (top 47), defBody (top 47), defScope (top 47), [], []⟩,
  ⟨("_law_lines", none), "_law_lines", "_law_lines", defArgs (top 49), defBody (top 49), defScope (top 49), [], []⟩,
  ⟨("_law_orbit", none), "_law_orbit", "_law_orbit", defArgs (top 44), defBody (top 44), defScope (top 44), [], []⟩,
  ⟨("_law_window", none), "_law_window", "_law_window", defArgs (top 45), defBody (top 45), defScope (top 45), [], []⟩,
  ⟨("_law_spans", none), "_law_spans", "_law_spans", defArgs (top 46), defBody (top 46), defScope (top 46), [], []⟩,
  ⟨("_law_once", none), "_law_once", "_law_once", defArgs (top 50), defBody (top 50), defScope (top 50), [], []⟩,
  ⟨("_law_world", none), "_law_world", "_law_world", defArgs (top 51), defBody (top 51), defScope (top 51), [], []⟩,
  ⟨("is_below", none), "is_below", "is_below", defArgs (top 12), defBody (top 12), defScope (top 12), [], []⟩,
  ⟨("is_span", none), "is_span", "is_span", defArgs (top 25), defBody (top 25), defScope (top 25), [], []⟩,
  ⟨("spans_fault", none), "spans_fault", "spans_fault", defArgs (top 26), defBody (top 26), defScope (top 26), [], []⟩,
  ⟨("are_events", none), "are_events", "are_events", defArgs (top 24), defBody (top 24), defScope (top 24), [], []⟩,
  ⟨("Net", some "__init__"), "__init__", "Net.__init__", defArgs (inClass (top 23) 0), defBody (inClass (top 23) 0), defScope (inClass (top 23) 0), [], []⟩,
  ⟨("_law_both", none), "_law_both", "_law_both", defArgs (top 42), defBody (top 42), defScope (top 42), [], []⟩,
  ⟨("_law_word", none), "_law_word", "_law_word", defArgs (top 43), defBody (top 43), defScope (top 43), [], []⟩,
  ⟨("Ratio", some "__init__"), "__init__", "Ratio.__init__", defArgs (inClass (top 16) 0), defBody (inClass (top 16) 0), defScope (inClass (top 16) 0), [], []⟩,
  ⟨("_law_spoiled", none), "_law_spoiled", "_law_spoiled", defArgs (top 53), defBody (top 53), defScope (top 53), [], []⟩,
  ⟨("span_led", none), "span_led", "span_led", defArgs (top 30), defBody (top 30), defScope (top 30), [], []⟩,
  ⟨("is_event", none), "is_event", "is_event", defArgs (top 28), defBody (top 28), defScope (top 28), [], []⟩,
  ⟨("likeness_fault", none), "likeness_fault", "likeness_fault", defArgs (top 31), defBody (top 31), defScope (top 31), [], []⟩,
  ⟨("is_likeness", none), "is_likeness", "is_likeness", defArgs (top 32), defBody (top 32), defScope (top 32), [], []⟩,
  ⟨("_law_is_integer", none), "_law_is_integer", "_law_is_integer", defArgs (top 37), defBody (top 37), defScope (top 37), [], []⟩,
  ⟨("_law_same", none), "_law_same", "_law_same", defArgs (top 55), defBody (top 55), defScope (top 55), [], []⟩,
  ⟨("check_likeness", none), "check_likeness", "check_likeness", defArgs (top 33), defBody (top 33), defScope (top 33), [], []⟩,
  ⟨("indexes_led", none), "indexes_led", "indexes_led", defArgs (top 34), defBody (top 34), defScope (top 34), [], []⟩,
  ⟨("spans_led", none), "spans_led", "spans_led", defArgs (top 35), defBody (top 35), defScope (top 35), [], []⟩,
  ⟨("_law_judged", none), "_law_judged", "_law_judged", defArgs (top 56), defBody (top 56), defScope (top 56), [], []⟩,
  ⟨("_law_span_led", none), "_law_span_led", "_law_span_led", defArgs (top 52), defBody (top 52), defScope (top 52), [], []⟩,
  ⟨("_law_fault", none), "_law_fault", "_law_fault", defArgs (top 54), defBody (top 54), defScope (top 54), [], []⟩,
  ⟨("law", none), "law", "law", defArgs (top 57), defBody (top 57), defScope (top 57), [], []⟩,
  ⟨("BadBeat", some "__init__"), "__init__", "BadBeat.__init__", defArgs (inClass (top 5) 0), defBody (inClass (top 5) 0), defScope (inClass (top 5) 0), [], []⟩,
  ⟨("BadEvents", some "__init__"), "__init__", "BadEvents.__init__", defArgs (inClass (top 6) 0), defBody (inClass (top 6) 0), defScope (inClass (top 6) 0), [], []⟩,
  ⟨("BadSpan", some "__init__"), "__init__", "BadSpan.__init__", defArgs (inClass (top 7) 0), defBody (inClass (top 7) 0), defScope (inClass (top 7) 0), [], []⟩,
  ⟨("BadNumber", some "__init__"), "__init__", "BadNumber.__init__", defArgs (inClass (top 4) 0), defBody (inClass (top 4) 0), defScope (inClass (top 4) 0), [], []⟩,
  ⟨("BadLikeness", some "__init__"), "__init__", "BadLikeness.__init__", defArgs (inClass (top 8) 0), defBody (inClass (top 8) 0), defScope (inClass (top 8) 0), [], []⟩]
def fa : Qs := [
  fun K => (He.Fa.free "int").ok K,
  fun K => (He.Fa.free "len").ok K,
  fun K => (He.Fa.glo "_law_draw").ok K,
  fun K => (He.Fa.free "list").ok K,
  fun K => (He.Fa.free "range").ok K,
  fun K => (He.Fa.free "bool").ok K,
  fun K => isB (G0 K) cs (.bi "bool"),
  fun K => (He.Fa.free "isinstance").ok K,
  fun K => isB (G0 K) cs (.bi "int"),
  fun K => (He.Fa.glo "Ratio").ok K,
  fun K => isB (G0 K) cs (.own "Ratio"),
  fun K => (He.Fa.glo "is_integer").ok K,
  fun K => (He.Fa.glo "is_number").ok K,
  fun K => (He.Fa.glo "bottom_of").ok K,
  fun K => (He.Fa.glo "top_of").ok K,
  fun K => (He.Fa.glo "Net").ok K,
  fun K => isB (G0 K) cs (.own "Net"),
  fun K => (He.Fa.free "enumerate").ok K,
  fun K => (He.Fa.free "tuple").ok K,
  fun K => (He.Fa.free "min").ok K,
  fun K => (He.Fa.free "max").ok K,
  fun K => (He.Fa.glo "_law_perm").ok K,
  fun K => (He.Fa.glo "_law_raw").ok K,
  fun K => (He.Fa.glo "_law_even_tops").ok K,
  fun K => (He.Fa.glo "_law_orbit").ok K,
  fun K => (He.Fa.glo "_law_window").ok K,
  fun K => (He.Fa.glo "_law_lines").ok K,
  fun K => (He.Fa.glo "_law_spans").ok K,
  fun K => (He.Fa.free "all").ok K,
  fun K => (He.Fa.glo "_law_once").ok K,
  fun K => isB (G0 K) cs (.bi "tuple"),
  fun K => (He.Fa.glo "is_below").ok K,
  fun K => (He.Fa.int "MOST_HIGH" 2880).ok K,
  fun K => (He.Fa.int "MOST_SPANS" 60).ok K,
  fun K => isB (G0 K) cs (.bi "list"),
  fun K => (He.Fa.glo "is_span").ok K,
  fun K => (He.Fa.int "MOST_EVENTS" 24).ok K,
  fun K => (He.Fa.int "LEAST_BEAT" 3).ok K,
  fun K => (He.Fa.int "MOST_BEAT" 1440).ok K,
  fun K => (He.Fa.glo "are_events").ok K,
  fun K => (He.Fa.glo "spans_fault").ok K,
  fun K => (He.Fa.glo "_law_both").ok K,
  fun K => biB K "gcd" "math.gcd",
  fun K => (He.Fa.mkr "Ratio").ok K,
  fun K => (He.Fa.glo "is_event").ok K,
  fun K => (He.Fa.glo "span_led").ok K,
  fun K => (He.Fa.glo "likeness_fault").ok K,
  fun K => (He.Fa.glo "_law_is_integer").ok K,
  fun K => (He.Fa.free "str").ok K,
  fun K => isB (G0 K) cs (.bi "str"),
  fun K => (He.Fa.glo "is_likeness").ok K,
  fun K => (He.Fa.glo "check_likeness").ok K,
  fun K => (He.Fa.glo "indexes_led").ok K,
  fun K => (He.Fa.glo "_law_same").ok K,
  fun K => (He.Fa.glo "spans_led").ok K,
  fun K => (He.Fa.glo "BadLot").ok K,
  fun K => (He.Fa.free "ValueError").ok K,
  fun K => (He.Fa.glo "SpansError").ok K,
  fun K => (He.Fa.glo "BadLikeness").ok K,
  fun K => (He.Fa.glo "_law_span_led").ok K,
  fun K => (He.Fa.glo "_law_source").ok K,
  fun K => (He.Fa.glo "_law_beat").ok K,
  fun K => (He.Fa.glo "_law_world").ok K,
  fun K => (He.Fa.mkr "Net").ok K,
  fun K => (He.Fa.glo "_law_word").ok K,
  fun K => (He.Fa.glo "_law_spoiled").ok K,
  fun K => (He.Fa.glo "_law_fault").ok K,
  fun K => (He.Fa.glo "_law_judged").ok K,
  fun K => (He.Fa.glo "law").ok K,
  fun K => (He.Fa.glo "BadBeat").ok K,
  fun K => oexB K (He.ga K "BadBeat"),
  fun K => (He.Fa.meth "BadBeat" "__init__").ok K,
  fun K => noB K (He.ga K "BadBeat") "beat",
  fun K => (He.Fa.glo "BadEvents").ok K,
  fun K => oexB K (He.ga K "BadEvents"),
  fun K => (He.Fa.meth "BadEvents" "__init__").ok K,
  fun K => noB K (He.ga K "BadEvents") "events",
  fun K => (He.Fa.glo "BadSpan").ok K,
  fun K => oexB K (He.ga K "BadSpan"),
  fun K => (He.Fa.meth "BadSpan" "__init__").ok K,
  fun K => noB K (He.ga K "BadSpan") "index",
  fun K => (He.Fa.glo "BadNumber").ok K,
  fun K => oexB K (He.ga K "BadNumber"),
  fun K => (He.Fa.meth "BadNumber" "__init__").ok K,
  fun K => noB K (He.ga K "BadNumber") "value",
  fun K => oexB K (He.ga K "BadLikeness"),
  fun K => (He.Fa.meth "BadLikeness" "__init__").ok K,
  fun K => excB K (He.ga K "BadBeat"),
  fun K => (He.Fa.exm "BadBeat" "BadLikeness" false).ok K,
  fun K => kitB (G0 K) "BadBeat" (.own "BadLot") false,
  fun K => kitB (G0 K) "BadBeat" (.bi "ValueError") true,
  fun K => kitB (G0 K) "BadBeat" (.own "SpansError") true,
  fun K => excB K (He.ga K "BadEvents"),
  fun K => (He.Fa.exm "BadEvents" "BadLikeness" false).ok K,
  fun K => kitB (G0 K) "BadEvents" (.own "BadLot") false,
  fun K => kitB (G0 K) "BadEvents" (.bi "ValueError") true,
  fun K => kitB (G0 K) "BadEvents" (.own "SpansError") true,
  fun K => excB K (He.ga K "BadSpan"),
  fun K => (He.Fa.exm "BadSpan" "BadLikeness" false).ok K,
  fun K => kitB (G0 K) "BadSpan" (.own "BadLot") false,
  fun K => kitB (G0 K) "BadSpan" (.bi "ValueError") true,
  fun K => kitB (G0 K) "BadSpan" (.own "SpansError") true,
  fun K => excB K (He.ga K "BadNumber"),
  fun K => (He.Fa.exm "BadNumber" "BadLikeness" false).ok K,
  fun K => kitB (G0 K) "BadNumber" (.own "BadLot") false,
  fun K => kitB (G0 K) "BadNumber" (.bi "ValueError") true,
  fun K => kitB (G0 K) "BadNumber" (.own "SpansError") true,
  fun K => excB K (He.ga K "BadLikeness"),
  fun K => (He.Fa.exm "BadLikeness" "BadLikeness" true).ok K,
  fun K => kitB (G0 K) "BadLikeness" (.own "BadLot") false,
  fun K => kitB (G0 K) "BadLikeness" (.bi "ValueError") true,
  fun K => kitB (G0 K) "BadLikeness" (.own "SpansError") true,
  fun K => insB K (He.ga K "Ratio"),
  fun K => noB K (He.ga K "Ratio") "top",
  fun K => noB K (He.ga K "Ratio") "bottom",
  fun K => insB K (He.ga K "Net"),
  fun K => noB K (He.ga K "Net") "beat",
  fun K => noB K (He.ga K "Net") "events",
  fun K => noB K (He.ga K "Net") "spans",
  fun K => (He.Fa.meth "Ratio" "__eq__").ok K,
  fun K => nfB (G0 K) cs "Ratio",
  fun K => ownNeB K (He.ga K "Ratio") (He.ma K (He.ga K "Ratio") "__eq__"),
  fun K => (He.Fa.meth "Net" "__eq__").ok K,
  fun K => nfB (G0 K) cs "Net",
  fun K => ownNeB K (He.ga K "Net") (He.ma K (He.ga K "Net") "__eq__")]
structure Txt (K : PySem.W.Frag) (mg : Str → Option Value) : Prop where
  says : SaysL fa fn K
  hp : ∃ h : Heap, K.In h ∧ h.Ns mainGlobals mg
section
variable {P : Program} {w : World} {K : PySem.W.Frag} {mg : Str → Option Value} {base : Heap}
/-! ### each def keeps its mirror's promise -/
end
/-! ### the head -/
def loose0 : List Str := ["_wall", "__name__", "SpansError", "BadNumber", "BadBeat", "BadEvents", "BadSpan", "BadLikeness", "BadLot", "is_integer", "is_below", "is_number", "top_of", "bottom_of", "Ratio", "LEAST_BEAT", "MOST_BEAT", "MOST_EVENTS", "MOST_SPANS", "MOST_HIGH", "Net", "are_events", "is_span", "spans_fault", "is_event", "span_led", "likeness_fault", "is_likeness", "check_likeness", "indexes_led"]
def loose1 : List Str := ["spans_led", "_law_is_integer", "_law_source", "_law_draw", "_law_beat", "_law_perm", "_law_both", "_law_word", "_law_orbit", "_law_window", "_law_spans", "_law_raw", "_law_even_tops", "_law_lines", "_law_once", "_law_world", "_law_span_led", "_law_spoiled", "_law_fault", "_law_same", "_law_judged"]
def loose : List Str := loose0 ++ loose1
abbrev RowR : PySem.W.OpenRow := PySem.W.OpenLaw.row PySem.Challenge.rw_likespans_k25_faults_of_likenesses
abbrev hk : PySem.W.Hook := hookL 4 fa fn
def ob (s : PySem.W.SharedT) : He.AlD := obsLG 4 fa fn (HandSHeadRun.getT s)
abbrev vwR : Program := PySem.W.view RowR.prog [0, 57]
theorem run_of {α β γ δ : Type} {o : Option α} {f : α → β} {g : α → γ} {h : α → δ} {a : β} {b : γ} {c : δ} (h1 : o.map (fun x => (f x, g x)) = some (a, b)) (h2 : o.map h = some c) : o.map (fun x => (f x, g x, h x)) = some (a, b, c) := by
  cases o with
  | none => cases h1
  | some x =>
    simp only [Option.map_some, Option.some.injEq, Prod.mk.injEq] at h1 h2 ⊢
    exact ⟨h1.1, h1.2, h2⟩
theorem run_a (w : World) : Option.map (fun x => (HandSHeadRun.looksF RowR.prog x.fst.heap x.snd.abs, HandSHeadRun.seenQ vwR loose (PySem.importedModules RowR.prog.main.body) (fun s => PySem.W.xlAt vwR [] s && PySem.W.recOk RowR.records s) x.snd.abs)) (HandSHeadRun.wholeF (fun p => HandSHeadRun.stepQ (HandSHeadRun.denQ HandSHeadRun.tabQ) p w) HandSHeadRun.fenceQ 12000 RowR.prog) = some (true, PySem.W.openGood vwR loose) := by kernel_rfl
theorem obs_cut {n m : Nat} {fa : Qs} {fn : List He.DefD} {g : Addr → Option Obj} : (obsLG n fa fn g).1 = ((obsLG n (fa.take m) [] g).1 && ((obsLG n (fa.drop m) [] g).1 && (obsLG n [] fn g).1)) := by
  simp only [obsLG, obsL, List.all_nil, Bool.and_true, Bool.true_and]
  rw [← Bool.and_assoc, ← List.all_append, List.take_append_drop]
theorem ob_one {m : Nat} (s : PySem.W.SharedT) : (ob s).1 = ((obsLG 4 (fa.take m) [] (HandSHeadRun.getT s)).1 && ((obsLG 4 (fa.drop m) [] (HandSHeadRun.getT s)).1 && (obsLG 4 [] fn (HandSHeadRun.getT s)).1)) := obs_cut
theorem val_one : (He.valD fn).1 = true := rfl
theorem run_b1a (w : World) : Option.map (fun x => (obsLG 4 (fa.take 62) [] (HandSHeadRun.getT x.snd)).1) (HandSHeadRun.wholeF (fun p => HandSHeadRun.stepQ (HandSHeadRun.denQ HandSHeadRun.tabQ) p w) HandSHeadRun.fenceQ 12000 RowR.prog) = some true := by kernel_rfl
theorem run_b1b (w : World) : Option.map (fun x => (obsLG 4 (fa.drop 62) [] (HandSHeadRun.getT x.snd)).1) (HandSHeadRun.wholeF (fun p => HandSHeadRun.stepQ (HandSHeadRun.denQ HandSHeadRun.tabQ) p w) HandSHeadRun.fenceQ 12000 RowR.prog) = some true := by kernel_rfl
theorem run_b1c (w : World) : Option.map (fun x => (obsLG 4 [] fn (HandSHeadRun.getT x.snd)).1) (HandSHeadRun.wholeF (fun p => HandSHeadRun.stepQ (HandSHeadRun.denQ HandSHeadRun.tabQ) p w) HandSHeadRun.fenceQ 12000 RowR.prog) = some true := by kernel_rfl
theorem run_b1 (w : World) : Option.map (fun x => (ob x.snd).1) (HandSHeadRun.wholeF (fun p => HandSHeadRun.stepQ (HandSHeadRun.denQ HandSHeadRun.tabQ) p w) HandSHeadRun.fenceQ 12000 RowR.prog) = some (He.valD fn).1 := by
  have h1 := run_b1a w
  have h2 := run_b1b w
  have h3 := run_b1c w
  rw [val_one]
  revert h1 h2 h3
  generalize (HandSHeadRun.wholeF (fun p => HandSHeadRun.stepQ (HandSHeadRun.denQ HandSHeadRun.tabQ) p w) HandSHeadRun.fenceQ 12000 RowR.prog) = o
  intro h1 h2 h3
  cases o with
  | none => rw [Option.map_none] at h1; exact h1
  | some x =>
    rw [Option.map_some, Option.some.injEq] at h1 h2 h3 ⊢
    rw [ob_one (m := 62), h1, h2, h3]; rfl
theorem run_b2 (w : World) : Option.map (fun x => (ob x.snd).2) (HandSHeadRun.wholeF (fun p => HandSHeadRun.stepQ (HandSHeadRun.denQ HandSHeadRun.tabQ) p w) HandSHeadRun.fenceQ 12000 RowR.prog) = some (He.valD fn).2 := by kernel_rfl
theorem val_two (w : World) : hk.val w = He.valD fn := rfl
theorem run_b (w : World) : Option.map (fun x => ob x.snd) (HandSHeadRun.wholeF (fun p => HandSHeadRun.stepQ (HandSHeadRun.denQ HandSHeadRun.tabQ) p w) HandSHeadRun.fenceQ 12000 RowR.prog) = some (hk.val w) := by
  have h1 := run_b1 w
  have h2 := run_b2 w
  rw [val_two]
  revert h1 h2
  generalize (HandSHeadRun.wholeF (fun p => HandSHeadRun.stepQ (HandSHeadRun.denQ HandSHeadRun.tabQ) p w) HandSHeadRun.fenceQ 12000 RowR.prog) = o
  intro h1 h2
  cases o with
  | none => rw [Option.map_none] at h1; exact nomatch h1
  | some x =>
    rw [Option.map_some, Option.some.injEq] at h1 h2
    exact congrArg some (Prod.ext h1 h2)
theorem run (w : World) : HandSHeadRun.RunEqI RowR (PySem.W.view RowR.prog [0, 57]) hk ob 12000 loose w := run_of (run_a w) (run_b w)
end Mi_k25
set_option Elab.async false
set_option Elab.async false
set_option linter.all false
set_option autoImplicit false
set_option maxRecDepth 100000
set_option maxHeartbeats 2000000
/-! Data by value over the hand layer: D (tuples and instances by value, lists and dicts by their number in a store), and what evaluates to what. -/
namespace Lk
open PySem PySem.Spec PyProof.Rows L2

section
variable (Γ : G) (f : List Addr) (H : Hp)
end
section
variable {Γ : G} {f f' f'' : List Addr} {H H' H'' : Hp}
theorem Keep.refl : Keep Γ H H := ⟨fun _ _ h => h, fun _ _ _ h => h, fun _ _ h => h, fun _ a dx fs h => ⟨fs, h, fun _ _ h => h, fun _ h => .inl h⟩⟩
theorem Up.refl : Up Γ f H f H := ⟨⟨[], by simp⟩, .refl⟩
end
/-! no number from n on stands in it -/
section
variable {Γ : G} {f f' : List Addr} {H H' : Hp}
end
end Lk

set_option Elab.async false
set_option linter.all false
set_option autoImplicit false
set_option maxRecDepth 100000
set_option maxHeartbeats 2000000
namespace Lk
open PySem PySem.Spec PyProof.Rows L2

section
variable {Γ : G} {f f' f'' : List Addr} {H H' H'' : Hp} {S S' : Store} {α β : Type}
theorem RelS.mem {a : Addr} (r : RelS Γ f S H) (h : a ∈ f) : ∃ u, H a = some u := by
  obtain ⟨n, hn, e⟩ := List.getElem_of_mem h
  have hs : n < S.length := by rw [← r.len]; exact hn
  obtain ⟨b, hb, ho⟩ := r.ob n S[n] (List.getElem?_eq_getElem hs)
  rw [List.getElem?_eq_getElem hn] at hb
  cases hb
  rw [← e]
  exact ho.at
theorem RelS.fresh {p : Addr} (r : RelS Γ f S H) (h : H p = none) : p ∉ f := fun z => by
  obtain ⟨u, e⟩ := r.mem z
  rw [h] at e
  cases e
theorem Keep.new {p : Addr} {o : HO} (h : H p = none) : Keep Γ H (upd H p o) :=
  ⟨fun a xs e => by rw [upd_ne (ne_of_none e h)]; exact e, fun a _ _ e => by rw [upd_ne (ne_of_none e h)]; exact e, fun a _ e => by rw [upd_ne (ne_of_none e h)]; exact e, fun C a dx fs e => ⟨fs, by rw [upd_ne (ne_of_none e h)]; exact e, fun _ _ q => q, fun _ q => .inl q⟩⟩
/-- what may be changed: no tuple, nothing frozen, no instance -/
def Chg : HO → Prop
  | .tup _ => False
  | .frz _ _ => False
  | .ins _ _ _ => False
  | .xd _ => False
  | _ => True
theorem Keep.chg {p : Addr} {o u : HO} (h : H p = some u) (c : Chg u) : Keep Γ H (upd H p o) := by
  have ne : ∀ a w, H a = some w → ¬ Chg w → a ≠ p := fun a w e n z => by
    rw [z, h] at e
    cases e
    exact n c
  exact ⟨fun a xs e => by rw [upd_ne (ne a _ e id)]; exact e, fun a _ _ e => by rw [upd_ne (ne a _ e id)]; exact e, fun a _ e => by rw [upd_ne (ne a _ e id)]; exact e, fun C a dx fs e => ⟨fs, by rw [upd_ne (ne a _ e id)]; exact e, fun _ _ q => q, fun _ q => .inl q⟩⟩
theorem Up.new {p : Addr} {o : HO} (h : H p = none) : Up Γ f H f (upd H p o) := ⟨⟨[], by simp⟩, .new h⟩
theorem Up.alloc {p : Addr} {o : HO} (h : H p = none) : Up Γ f H (f ++ [p]) (upd H p o) := ⟨⟨[p], rfl⟩, .new h⟩
theorem Up.chg {p : Addr} {o u : HO} (h : H p = some u) (c : Chg u) : Up Γ f H f (upd H p o) := ⟨⟨[], by simp⟩, .chg h c⟩
theorem RelS.newT {p : Addr} {o : HO} (r : RelS Γ f S H) (h : H p = none) : RelS Γ f S (upd H p o) :=
  ⟨r.len, r.nd, fun n b e => by
    obtain ⟨a, ha, ho⟩ := r.ob n b e
    obtain ⟨u, hu⟩ := ho.at
    exact ⟨a, ha, ho.move (.new h) (upd_ne (ne_of_none hu h))⟩, fun a i C ds o e => (r.xc a i C ds o e).up (.new h)⟩
theorem RelS.alloc {p : Addr} {o : HO} {b : Ob} (r : RelS Γ f S H) (h : H p = none) (hb : ROb Γ (f ++ [p]) (upd H p o) b p) : RelS Γ (f ++ [p]) (S ++ [b]) (upd H p o) :=
  ⟨by rw [List.length_append, List.length_append, r.len]; rfl, by
    rw [List.nodup_append]
    refine ⟨r.nd, by simp, fun a ha b hb e => ?_⟩
    have : b = p := by simpa using hb
    exact r.fresh h (by rw [← this, ← e]; exact ha), fun n c e => by
    by_cases hn : n < S.length
    · rw [List.getElem?_append_left hn] at e
      obtain ⟨a, ha, ho⟩ := r.ob n c e
      obtain ⟨u, hu⟩ := ho.at
      exact ⟨a, (Up.alloc (Γ := Γ) (o := o) h).at ha, ho.move (.alloc h) (upd_ne (ne_of_none hu h))⟩
    · rw [List.getElem?_append_right (Nat.le_of_not_lt hn)] at e
      have z : n - S.length = 0 := by
        cases q : n - S.length with
        | zero => rfl
        | succ k => rw [q] at e; cases e
      rw [z] at e
      cases e
      have en : n = f.length := by rw [r.len]; omega
      exact ⟨p, by rw [en]; simp, hb⟩, fun a i C ds o e => (r.xc a i C ds o e).up (.alloc h)⟩
/-- a slot whose value the mirror does not know -/
theorem RelE.miss {env : Env} {σ : L2.St} (hx : Γ.xc = none) (r : RelE Γ f H env σ) (i : Nat) (x : Option V) : RelE Γ f H (env.set i none) (σ.set i x) := ⟨by rw [List.length_set, List.length_set]; exact r.1, fun j e q => by
  by_cases hj : j = i
  · subst hj
    have hl : j < env.length := by
      have := (List.getElem?_eq_some_iff.mp q).1
      rwa [List.length_set] at this
    rw [List.getElem?_set_self hl] at q
    cases q
  · rw [List.getElem?_set_ne (Ne.symm hj)] at q
    obtain ⟨v', h1, h2⟩ := r.2.1 j e q
    exact ⟨v', by rw [List.getElem?_set_ne (Ne.symm hj)]; exact h1, h2⟩, fun a j C ds o e => by
  rw [hx] at e
  cases e⟩

def tT (Γ : G) (W : WX) (m : MT) : TT := fun σ H Q => ∃ env S f, RelS Γ f S H ∧ RelE Γ f H env σ ∧ Wp Γ W σ f H (fun _ _ a b => a = b) Q (m env S)
end
/-- readings that ask less -/
theorem PE.imp {X : Cx} {e : Expr} {t t' : TE} (h : PE X e t) (i : ∀ σ H Q, t' σ H Q → t σ H Q) : PE X e t' := ⟨fun pins s σ H Q I q => h.run pins s σ H Q I (i σ H Q q)⟩
theorem PT.imp {X : Cx} {e : Expr} {t t' : TT} (h : PT X e t) (i : ∀ σ H Q, t' σ H Q → t σ H Q) : PT X e t' := ⟨fun pins s σ H Q I q => h.run pins s σ H Q I (i σ H Q q)⟩
theorem PW.imp {X : Cx} {e : Expr} {t t' : TT} (h : PW X e t) (i : ∀ σ H Q, t' σ H Q → t σ H Q) : PW X e t' := ⟨fun wh pins s σ H Q I q => h.run wh pins s σ H Q I (i σ H Q q)⟩
theorem PA.imp {X : Cx} {e : List Expr} {t t' : TA} (h : PA X e t) (i : ∀ σ H Q, t' σ H Q → t σ H Q) : PA X e t' := ⟨fun pos pins s σ H Q I q => h.run pos pins s σ H Q I (i σ H Q q)⟩
theorem PS.imp {X : Cx} {e : Stmt} {t t' : TS} (h : PS X e t) (i : ∀ D σ H, t' D σ H → t D σ H) : PS X e t' := ⟨fun pins s σ H D I q => h.run pins s σ H D I (i D σ H q)⟩
theorem PSs.imp {X : Cx} {e : List Stmt} {t t' : TS} (h : PSs X e t) (i : ∀ D σ H, t' D σ H → t D σ H) : PSs X e t' := ⟨fun pins s σ H D I q => h.run pins s σ H D I (i D σ H q)⟩
end Lk

set_option Elab.async false
set_option linter.all false
set_option autoImplicit false
set_option maxRecDepth 100000
set_option maxHeartbeats 2000000
namespace Lk
open PySem PySem.Spec PyProof.Rows L2

/-! ### the mirror's words: expressions -/
theorem lim_eq : sizeLine = lim := by decide
/-! ### statements -/
def RS.seq (r : RS) (k : Env → Store → RS) : RS := match r with
  | .nx e S => k e S
  | r => r
def mSeq (a b : MS) : MS := fun env S => (a env S).seq b
section
variable {Γ : G} {W : WX} {X : Cx} {f : List Addr} {H : Hp} {S : Store} {a b c : Expr} {es : List Expr} {ma mb mc : ME} {mt mu : MT} {mr : MA} {pos pos' : Pos}
/-! ### names, constants -/
theorem q_var (i : Nat) {x : Str} (hN : X.N[i]? = some x := by rfl) (hv : Vis X.env.scope x := by first | exact Or.inl rfl | exact Or.inr (Or.inl rfl) | exact Or.inr (Or.inr rfl)) (hd : (x == ("__debug__" : Str)) = false := by decide)
    (hcd : (x == ("__classdict__" : Str)) = false := by decide) : PE X (.Name x pos) (tE Γ W (mVar i)) := PE.imp (pv i hN hv hd hcd) fun σ H Q ⟨env, S, f, rs, re, h⟩ => by
  unfold mVar at h
  split at h
  · rename_i d e
    obtain ⟨v, hv, hr⟩ := re.2.1 i d e
    exact ⟨v, hv, h f H v .refl rs hr⟩
  · exact h.elim
theorem q_con {e : Expr} {v : V} {d : D} (h : PE X e (tC v)) (hr : ∀ f H, Rp Γ f H d v) : PE X e (tE Γ W (mC d)) := PE.imp h fun σ H Q ⟨env, S, f, rs, re, h⟩ => h f H v .refl rs (hr f H)
theorem q_int {i j} : PE X (.Constant (.int i) j pos) (tE Γ W (mC (.int i))) := q_con pe_int fun f H => by simp only [Rp]
theorem q_bl {i j} : PE X (.Constant (.bool i) j pos) (tE Γ W (mC (.bl i))) := q_con pe_bl fun f H => by simp only [Rp]
theorem q_non {j} : PE X (.Constant .none j pos) (tE Γ W (mC .non)) := q_con pe_non fun f H => by simp only [Rp]
theorem q_str {i j} : PE X (.Constant (.str i) j pos) (tE Γ W (mC (.str i))) := q_con pe_str fun f H => by simp only [Rp]
/-! ### argument lists, displays -/
theorem qa_nil : PA X [] (tA Γ W mNil) := PA.imp pa_nil fun σ H Q ⟨env, S, f, rs, re, h⟩ => h f H [] .refl rs (by simp only [RpL])
theorem qa_cons (ha : PE X a (tE Γ W ma)) (hr : PA X es (tA Γ W mr)) (hs : starEach (a :: es) X.env = (false, eval a X.env) :: starEach es X.env := by rfl) : PA X (a :: es) (tA Γ W (mCons ma mr)) :=
  PA.imp (pa_cons ha hr hs) fun σ H Q ⟨env, S, f, rs, re, h⟩ => ⟨env, S, f, rs, re, Wp.bindL h fun x S1 f1 H1 v u1 rs1 r1 h1 => ⟨env, S1, f1, rs1, re.up u1, Wp.bindL h1 fun xs S2 f2 H2 vs u2 rs2 r2 h2 => h2 f2 H2 (v :: vs) .refl rs2 (by
    simp only [RpL]
    exact ⟨v, vs, rfl, r1.up u2, r2⟩)⟩⟩
theorem Rp.tupI {a : Addr} {ds : List D} {vs : List V} (h : SqT Γ.K H a vs) (r : RpL Γ f H ds vs) : Rp Γ f H (.tup ds) (.ref a) := by
  simp only [Rp]
  exact ⟨a, vs, rfl, h, r⟩
theorem Rp.refI {a : Addr} {n : Nat} (h : f[n]? = some a) : Rp Γ f H (.ref n) (.ref a) := by
  simp only [Rp]
  exact ⟨a, h, rfl⟩
theorem q_tup {k} (hr : PA X es (tA Γ W mr)) : PE X (.Tuple es k pos) (tE Γ W (mTup mr)) := PE.imp (pe_tup hr) fun σ H Q ⟨env, S, f, rs, re, h⟩ => ⟨env, S, f, rs, re, Wp.bindL h fun ds S1 f1 H1 vs u1 rs1 r1 h1 => by
  by_cases hl : ds.length ≤ lim
  · rw [if_pos hl] at h1
    refine ⟨by rw [← r1.length, lim_eq]; exact hl, fun p hp => ?_⟩
    exact h1 f1 _ (.ref p) (.new hp) (rs1.newT hp) (Rp.tupI (SqT.of upd_same) (r1.up (.new hp)))
  · rw [if_neg hl] at h1
    exact h1.elim⟩
theorem q_lst (hr : PA X es (tA Γ W mr)) : PE X (.List es pos) (tE Γ W (mLst mr)) := PE.imp (pe_lst hr) fun σ H Q ⟨env, S, f, rs, re, h⟩ => ⟨env, S, f, rs, re, Wp.bindL h fun ds S1 f1 H1 vs u1 rs1 r1 h1 => by
  by_cases hl : ds.length ≤ lim
  · rw [if_pos hl] at h1
    refine ⟨by rw [← r1.length, lim_eq]; exact hl, fun p hp => ?_⟩
    exact h1 (f1 ++ [p]) _ (.ref p) (.alloc hp) (rs1.alloc hp ⟨vs, upd_same, r1.up (.alloc hp)⟩) (Rp.refI (by rw [← rs1.len]; simp))
  · rw [if_neg hl] at h1
    exact h1.elim⟩
/-! ### operators by values -/
def OpOk (Γ : G) (r : R2) (g : D → D → Store → R D) : Prop := ∀ (W : WX) (σ : L2.St) (f : List Addr) (S : Store) (H : Hp) (x y : D) (v u : V) (Q : VK), RelS Γ f S H → Rp Γ f H x v → Rp Γ f H y u → Wp Γ W σ f H (Rp Γ) Q (g x y S) → r v u H Q
theorem two {r : R2} {g : D → D → Store → R D} (hg : OpOk Γ r g) {σ : L2.St} {H : Hp} {Q : VK} (h : tE Γ W (m2 g ma mb) σ H Q) : tOp r (tE Γ W ma) (tE Γ W mb) σ H Q := by
  obtain ⟨env, S, f, rs, re, h⟩ := h
  exact ⟨env, S, f, rs, re, Wp.bindL h fun x S1 f1 H1 v u1 rs1 r1 h1 => ⟨env, S1, f1, rs1, re.up u1, Wp.bindL h1 fun y S2 f2 H2 u u2 rs2 r2 h2 => hg W σ f2 S2 H2 x y v u Q rs2 (r1.up u2) r2 h2⟩⟩
theorem q_op {op : Operator} {r : R2} {g : D → D → Store → R D} (ho : OpR X (binaryOp op) r) (hg : OpOk Γ r g) (ha : PE X a (tE Γ W ma)) (hb : PE X b (tE Γ W mb)) : PE X (.BinOp a op b pos) (tE Γ W (m2 g ma mb)) := PE.imp (pe_op ho ha hb) fun σ H Q => two hg
theorem q_cmp {op : CmpOp} {r : R2} {g : D → D → Store → R D} (ho : OpR X (compareOp op) r) (hg : OpOk Γ r g) (ha : PE X a (tE Γ W ma)) (hb : PE X b (tE Γ W mb)) (hm : behindInMarks op b = false) : PE X (.Compare a [op] [b] pos) (tE Γ W (m2 g ma mb)) := PE.imp (pe_cmpR ho ha hb hm) fun σ H Q => two hg
theorem q_ix {r : R2} {g : D → D → Store → R D} (ho : IxR X r) (hg : OpOk Γ r g) (ha : PE X a (tE Γ W ma)) (hb : PE X b (tE Γ W mb)) (hs : PlainIx b) : PE X (.Subscript a b pos) (tE Γ W (m2 g ma mb)) := PE.imp (pe_ix ho ha hb hs) fun σ H Q => two hg
def UnOk (Γ : G) (r : V → Hp → VK → Prop) (g : D → Store → R D) : Prop := ∀ (W : WX) (σ : L2.St) (f : List Addr) (S : Store) (H : Hp) (x : D) (v : V) (Q : VK), RelS Γ f S H → Rp Γ f H x v → Wp Γ W σ f H (Rp Γ) Q (g x S) → r v H Q
theorem one {r : V → Hp → VK → Prop} {g : D → Store → R D} (hg : UnOk Γ r g) {σ : L2.St} {H : Hp} {Q : VK} (h : tE Γ W (m1 g ma) σ H Q) : tUn r (tE Γ W ma) σ H Q := by
  obtain ⟨env, S, f, rs, re, h⟩ := h
  exact ⟨env, S, f, rs, re, Wp.bindL h fun x S1 f1 H1 v u1 rs1 r1 h1 => hg W σ f1 S1 H1 x v Q rs1 r1 h1⟩
theorem q_un {op : UnaryOp} {r : V → Hp → VK → Prop} {g : D → Store → R D} (ho : UnR X (unaryOp op) r) (hg : UnOk Γ r g) (ha : PE X a (tE Γ W ma)) : PE X (.UnaryOp op a pos) (tE Γ W (m1 g ma)) := PE.imp (pe_un ho ha) fun σ H Q => one hg
theorem q_callB {id : String} {x : Str} {p : Pos} {r : List V → Hp → VK → Prop} {g : List D → Store → R D} (hc : CallR X (.builtin id) r) (hg' : ArOk Γ r g) (hm : X.mg x = none) (hv : bootBuiltins x = some (.builtin id)) (ha : PA X (a :: es) (tA Γ W mr)) (hg : Gl X x := by rfl) (hn : x ≠ "__name__" := by decide) (hdb : (x == ("__debug__" : Str)) = false := by decide)
    (he : starEach (a :: es) X.env = (false, eval a X.env) :: starEach es X.env := by rfl) (hpl : (backTo pos (starEach es X.env)).any (·.1) = false := by rfl) : PE X (.Call (.Name x p) (a :: es) [] pos) (tE Γ W (mB g mr)) := PE.imp (pe_callB hc hg hm hv ha hn hdb he hpl) fun σ H Q => many hg'
theorem q_callTy {T : String} {x : Str} {p : Pos} {r : List V → Hp → VK → Prop} {g : List D → Store → R D} (hc : CallR X (.type T) r) (hg' : ArOk Γ r g) (hm : X.mg x = none) (hv : bootBuiltins x = some (.type T)) (ha : PA X (a :: es) (tA Γ W mr)) (hg : Gl X x := by rfl) (hn : x ≠ "__name__" := by decide) (hdb : (x == ("__debug__" : Str)) = false := by decide)
    (he : starEach (a :: es) X.env = (false, eval a X.env) :: starEach es X.env := by rfl) (hpl : (backTo pos (starEach es X.env)).any (·.1) = false := by rfl) : PE X (.Call (.Name x p) (a :: es) [] pos) (tE Γ W (mB g mr)) := PE.imp (pe_callTy hc hg hm hv ha hn hdb he hpl) fun σ H Q => many hg'
/-! ### tests -/
theorem asBL {σ : L2.St} {x : D} {v : V} {Q : Bool → Hp → Prop} (rs : RelS Γ f S H) (r : Rp Γ f H x v) (h : Wp Γ W σ f H (fun _ _ a b => a = b) Q (asB x S)) : ∃ c, v = .bl c ∧ Q c H := by
  cases x with
  | bl c =>
    simp only [Rp] at r
    exact ⟨c, r, h f H c .refl rs rfl⟩
  | _ => exact h.elim
theorem qt_val (ha : PE X a (tE Γ W ma)) (he : ∀ whole, isTrue a X.env whole = (do let v ← whole; standAt a.pos; holding [v] (truthy v)) := by intro _; rfl) : PT X a (tT Γ W (mTest ma)) := PT.imp (pt_val ha he) fun σ H Q ⟨env, S, f, rs, re, h⟩ =>
  ⟨env, S, f, rs, re, Wp.bindL h fun x S1 f1 H1 v u1 rs1 r1 h1 => asBL rs1 r1 h1⟩
theorem qt_cmp {op : CmpOp} {r : R2} {g : D → D → Store → R D} (ho : OpR X (compareOp op) r) (hg : OpOk Γ r g) (ha : PE X a (tE Γ W ma)) (hb : PE X b (tE Γ W mb)) (hm : behindInMarks op b = false) : PT X (.Compare a [op] [b] pos) (tT Γ W (mTest (m2 g ma mb))) := PT.imp (pt_cmpR ho ha hb hm) fun σ H Q ⟨env, S, f, rs, re, h⟩ => by
  refine two (Γ := Γ) (W := W) hg ⟨env, S, f, rs, re, Wp.bindL h fun x S1 f1 H1 v u1 rs1 r1 h1 => asBL rs1 r1 h1⟩
theorem qw_and1 (ha : PT X a (tT Γ W mt)) : PW X (.BoolOp .And [a] pos) (tT Γ W mt) := pw_and1 ha
theorem qw_or1 (ha : PT X a (tT Γ W mt)) : PW X (.BoolOp .Or [a] pos) (tT Γ W mt) := pw_or1 ha
theorem qw_and (ha : PT X a (tT Γ W mt)) (hb : PW X (.BoolOp .And (b :: es) pos) (tT Γ W mu)) : PW X (.BoolOp .And (a :: b :: es) pos) (tT Γ W (mAndT mt mu)) := PW.imp (pw_and ha hb) fun σ H Q ⟨env, S, f, rs, re, h⟩ => ⟨env, S, f, rs, re, Wp.bindL h fun x S1 f1 H1 v u1 rs1 r1 h1 => by
  subst r1
  cases x with
  | true => exact ⟨env, S1, f1, rs1, re.up u1, h1⟩
  | false => exact h1 f1 H1 false .refl rs1 rfl⟩
theorem qw_or (ha : PT X a (tT Γ W mt)) (hb : PW X (.BoolOp .Or (b :: es) pos) (tT Γ W mu)) : PW X (.BoolOp .Or (a :: b :: es) pos) (tT Γ W (mOrT mt mu)) := PW.imp (pw_or ha hb) fun σ H Q ⟨env, S, f, rs, re, h⟩ => ⟨env, S, f, rs, re, Wp.bindL h fun x S1 f1 H1 v u1 rs1 r1 h1 => by
  subst r1
  cases x with
  | false => exact ⟨env, S1, f1, rs1, re.up u1, h1⟩
  | true => exact h1 f1 H1 true .refl rs1 rfl⟩
theorem qt_not (ha : PT X a (tT Γ W mt)) : PT X (.UnaryOp .Not a pos) (tT Γ W (mNotT mt)) := PT.imp (pt_not ha) fun σ H Q ⟨env, S, f, rs, re, h⟩ => ⟨env, S, f, rs, re, Wp.bindL h fun x S1 f1 H1 v u1 rs1 r1 h1 => by
  subst r1
  exact h1 f1 H1 (!x) .refl rs1 rfl⟩
theorem q_one {op} (ha : PE X a (tE Γ W ma)) : PE X (.BoolOp op [a] pos) (tE Γ W ma) := pe_one ha
theorem q_and (ha : PE X a (tE Γ W ma)) (hb : PE X (.BoolOp .And (b :: es) pos) (tE Γ W mb)) : PE X (.BoolOp .And (a :: b :: es) pos) (tE Γ W (mAnd ma mb)) := PE.imp (pe_and ha hb) fun σ H Q ⟨env, S, f, rs, re, h⟩ => ⟨env, S, f, rs, re, Wp.bindL h fun x S1 f1 H1 v u1 rs1 r1 h1 => by
  cases x with
  | bl c =>
    simp only [Rp] at r1
    refine ⟨c, r1, ?_⟩
    cases c with
    | true => exact ⟨env, S1, f1, rs1, re.up u1, h1⟩
    | false => exact h1 f1 H1 (.bl false) .refl rs1 (by simp only [Rp])
  | _ => exact h1.elim⟩
theorem q_or (ha : PE X a (tE Γ W ma)) (hb : PE X (.BoolOp .Or (b :: es) pos) (tE Γ W mb)) : PE X (.BoolOp .Or (a :: b :: es) pos) (tE Γ W (mOr ma mb)) := PE.imp (pe_or ha hb) fun σ H Q ⟨env, S, f, rs, re, h⟩ => ⟨env, S, f, rs, re, Wp.bindL h fun x S1 f1 H1 v u1 rs1 r1 h1 => by
  cases x with
  | bl c =>
    simp only [Rp] at r1
    refine ⟨c, r1, ?_⟩
    cases c with
    | false => exact ⟨env, S1, f1, rs1, re.up u1, h1⟩
    | true => exact h1 f1 H1 (.bl true) .refl rs1 (by simp only [Rp])
  | _ => exact h1.elim⟩
theorem q_not (ha : PE X a (tE Γ W ma)) : PE X (.UnaryOp .Not a pos) (tE Γ W (mNot ma)) := PE.imp (pe_not ha) fun σ H Q ⟨env, S, f, rs, re, h⟩ => ⟨env, S, f, rs, re, Wp.bindL h fun x S1 f1 H1 v u1 rs1 r1 h1 => by
  cases x with
  | bl c =>
    simp only [Rp] at r1
    exact ⟨c, r1, h1 f1 H1 (.bl (!c)) .refl rs1 (by simp only [Rp])⟩
  | _ => exact h1.elim⟩
theorem q_ifE (ht : PT X c (tT Γ W mt)) (ha : PE X a (tE Γ W ma)) (hb : PE X b (tE Γ W mb)) : PE X (.IfExp c a b pos) (tE Γ W (mIf mt ma mb)) := PE.imp (pe_ifExp ht ha hb) fun σ H Q ⟨env, S, f, rs, re, h⟩ => ⟨env, S, f, rs, re, Wp.bindL h fun x S1 f1 H1 v u1 rs1 r1 h1 => by
  subst r1
  cases x with
  | true => exact ⟨env, S1, f1, rs1, re.up u1, h1⟩
  | false => exact ⟨env, S1, f1, rs1, re.up u1, h1⟩⟩
/-! ### statements -/
variable {st : Stmt} {sts sts' : List Stmt} {ms mn : MS}
theorem qs_nil : PSs X [] (tS Γ W mNext) := PSs.imp pss_nil fun D σ H ⟨env, S, f, rs, re, h⟩ => h f σ H .refl rs re
theorem qs_cons (h1 : PS X st (tS Γ W ms)) (h2 : PSs X sts (tS Γ W mn)) : PSs X (st :: sts) (tS Γ W (mSeq ms mn)) := PSs.imp (pss_cons h1 h2) fun D σ H ⟨env, S, f, rs, re, h⟩ => ⟨env, S, f, rs, re, by
  have h : WpS Γ W f H D ((ms env S).seq mn) := h
  cases q : ms env S with
  | nx e S1 =>
    rw [q] at h
    exact fun f1 σ1 H1 u1 r1 e1 => ⟨e, S1, f1, r1, e1, WpS.mono u1 h⟩
  | rt d S1 => rw [q] at h; exact h
  | bk e S1 => rw [q] at h; exact h
  | ct e S1 => rw [q] at h; exact h
  | ex C ds e S1 => rw [q] at h; exact h
  | bad => rw [q] at h; exact h⟩
theorem qs_one (h1 : PS X st (tS Γ W ms)) : PSs X [st] (tS Γ W ms) := pss_one h1
theorem qs_ret (ha : PE X a (tE Γ W ma)) : PS X (.Return (some a) pos) (tS Γ W (mRet ma)) := PS.imp (ps_ret ha) fun D σ H ⟨env, S, f, rs, re, h⟩ => ⟨env, S, f, rs, re, WpS.bindL re h fun x S1 f1 H1 v u1 rs1 r1 h1 => h1 f1 H1 v .refl rs1 r1⟩
theorem qs_expr (ha : PE X a (tE Γ W ma)) (hs : swapsWith a none pos.line X.env = pure false := by rfl) : PS X (.Expr a pos) (tS Γ W (mDrop ma)) := PS.imp (ps_expr ha hs) fun D σ H ⟨env, S, f, rs, re, h⟩ => ⟨env, S, f, rs, re, WpS.bindL re h fun x S1 f1 H1 v u1 rs1 r1 h1 => h1 f1 σ H1 .refl rs1 (re.up u1)⟩
theorem qs_break : PS X (.Break pos) (tS Γ W mBreak) := PS.imp ps_break fun D σ H ⟨env, S, f, rs, re, h⟩ => h f σ H .refl rs re
theorem qs_if (ht : PT X c (tT Γ W mt)) (h1 : PSs X sts (tS Γ W ms)) (h2 : PSs X sts' (tS Γ W mn)) : PS X (.If c sts sts' pos) (tS Γ W (mIfS mt ms mn)) := PS.imp (ps_if ht h1 h2) fun D σ H ⟨env, S, f, rs, re, h⟩ => ⟨env, S, f, rs, re, WpS.bindL re h fun x S1 f1 H1 v u1 rs1 r1 h1 => by
  subst r1
  cases x with
  | true => exact ⟨env, S1, f1, rs1, re.up u1, h1⟩
  | false => exact ⟨env, S1, f1, rs1, re.up u1, h1⟩⟩
theorem qs_set {i : Nat} {x : Str} (hN : X.N.Nodup) (ha : PE X a (tE Γ W ma)) (hi : X.N[i]? = some x := by rfl) (hx : Loc X.env.scope x := by first | exact Or.inl rfl | exact Or.inr rfl) (hs : swapsWith a (some (.Name x pos')) pos.line X.env = pure false := by rfl) (hf : X.fn x = true ∨ X.env.scope.names.lookup x = some .local := by first | exact .inl rfl | exact .inr rfl | assumption) :
    PS X (.Assign [.Name x pos'] a pos) (tS Γ W (mSet i ma)) := PS.imp (ps_set hN hi hx ha hs hf) fun D σ H ⟨env, S, f, rs, re, h⟩ => ⟨env, S, f, rs, re, WpS.bindL re h fun d S1 f1 H1 v u1 rs1 r1 h1 => h1 f1 _ H1 .refl rs1 ((re.up u1).set r1 i)⟩
end
/-- a target -/
def tG (Γ : G) (g : MG) : TG := fun v σ H Q => ∃ (d : D) (env : Env) (S : Store) (f : List Addr), RelS Γ f S H ∧ RelE Γ f H env σ ∧ Rp Γ f H d v ∧ match g d env S with
  | .ok e S' => ∀ f' σ' H', Up Γ f H f' H' → RelS Γ f' S' H' → RelE Γ f' H' e σ' → Q σ' H'
  | _ => False
def tGs (Γ : G) (g : MGs) : TGs := fun vs σ H Q => ∃ (ds : List D) (env : Env) (S : Store) (f : List Addr), RelS Γ f S H ∧ RelE Γ f H env σ ∧ RpL Γ f H ds vs ∧ match g ds env S with
  | .ok e S' => ∀ f' σ' H', Up Γ f H f' H' → RelS Γ f' S' H' → RelE Γ f' H' e σ' → Q σ' H'
  | _ => False
theorem PG.imp {X : Cx} {e : Expr} {t t' : TG} (h : PG X e t) (i : ∀ v σ H Q, t' v σ H Q → t v σ H Q) : PG X e t' := ⟨fun pins s σ H v u Q I r q => h.run pins s σ H v u Q I r (i v σ H Q q)⟩
theorem PGs.imp {X : Cx} {e : List Expr} {t t' : TGs} (h : PGs X e t) (i : ∀ v σ H Q, t' v σ H Q → t v σ H Q) : PGs X e t' := ⟨fun pins s σ H v u Q I r q => h.run pins s σ H v u Q I r (i v σ H Q q)⟩
section
variable {Γ : G} {W : WX} {X : Cx} {a : Expr} {es : List Expr} {ma : ME} {g : MG} {gs : MGs} {pos pos' : Pos}
theorem qg_name {i : Nat} {x : Str} (hN : X.N.Nodup) (hi : X.N[i]? = some x := by rfl) (hx : Loc X.env.scope x := by first | exact Or.inl rfl | exact Or.inr rfl) (hf : X.fn x = true ∨ X.env.scope.names.lookup x = some .local := by first | exact .inl rfl | exact .inr rfl | assumption) : PG X (.Name x pos) (tG Γ (gSet i)) :=
  PG.imp (pg_name hN hi hx hf) fun v σ H Q ⟨d, env, S, f, rs, re, r, h⟩ => h f _ H .refl rs (re.set r i)
theorem qgs_nil : PGs X [] (tGs Γ gNil') := PGs.imp pgs_nil fun vs σ H Q ⟨ds, env, S, f, rs, re, r, h⟩ => by
  cases ds with
  | nil => simp only [RpL] at r; exact ⟨r, h f σ H .refl rs re⟩
  | cons d ds => exact h.elim
theorem qgs_cons (h1 : PG X a (tG Γ g)) (h2 : PGs X es (tGs Γ gs)) (hs : (assignEach (a :: es) X.env).map (·.2) = assign a X.env :: (assignEach es X.env).map (·.2) := by rfl) : PGs X (a :: es) (tGs Γ (gCons' g gs)) := PGs.imp (pgs_cons h1 h2 hs) fun vs σ H Q ⟨ds, env, S, f, rs, re, r, h⟩ => by
  cases ds with
  | nil => exact h.elim
  | cons d ds =>
    simp only [RpL] at r
    obtain ⟨v, vr, e, r1, r2⟩ := r
    refine ⟨v, vr, e, d, env, S, f, rs, re, r1, ?_⟩
    have h : (match (g d env S).bind fun e S1 => gs ds e S1 with
      | .ok e S' => ∀ f' σ' H', Up Γ f H f' H' → RelS Γ f' S' H' → RelE Γ f' H' e σ' → Q σ' H'
      | _ => False) := h
    cases q : g d env S with
    | ok e1 S1 =>
      rw [q] at h
      intro f1 σ1 H1 u1 rs1 re1
      refine ⟨ds, e1, S1, f1, rs1, re1, r2.up u1, ?_⟩
      have h : (match gs ds e1 S1 with
        | .ok e S' => ∀ f' σ' H', Up Γ f H f' H' → RelS Γ f' S' H' → RelE Γ f' H' e σ' → Q σ' H'
        | _ => False) := h
      revert h
      cases gs ds e1 S1 with
      | ok e2 S2 => exact fun h f2 σ2 H2 u2 => h f2 σ2 H2 (u1.trans u2)
      | _ => exact fun h => h
    | _ => rw [q] at h; exact h
theorem qg_tup {k n : Nat} (hK : X.K = Γ.K) (hc : X.calm = true) (h : PGs X es (tGs Γ gs)) (hn : (assignEach es X.env).length = n := by rfl) (hst : (assignEach es X.env).findIdx? (·.1) = none := by rfl) : PG X (.Tuple es k pos) (tG Γ (gUnpack n gs)) := PG.imp (pg_tup hc h hn hst) fun v σ H Q ⟨d, env, S, f, rs, re, r, h⟩ => by
  cases d with
  | tup ds =>
    simp only [Rp] at r
    obtain ⟨a, vs, e, s, r⟩ := r
    have h : (match (if ds.length = n then gs ds env S else .bad) with
      | .ok e S' => ∀ f' σ' H', Up Γ f H f' H' → RelS Γ f' S' H' → RelE Γ f' H' e σ' → Q σ' H'
      | _ => False) := h
    by_cases hl : ds.length = n
    · rw [if_pos hl] at h
      exact ⟨a, vs, e, by rw [hK]; exact s, by rw [← r.length]; exact hl, ds, env, S, f, rs, re, r, h⟩
    · rw [if_neg hl] at h
      exact h.elim
  | _ => exact h.elim
theorem qs_asg {t : Expr} (ha : PE X a (tE Γ W ma)) (hg : PG X t (tG Γ g)) (hs : swapsWithSole [t] a pos.line X.env = pure false := by rfl) (hw : swappedStores [t] a X.env = pure none := by rfl) (h1 : (assignEach [t] X.env).map (·.2) = [assign t X.env] := by rfl) :
    PS X (.Assign [t] a pos) (tS Γ W (mAsg ma g)) := PS.imp (ps_asg ha hg hs hw h1) fun D σ H ⟨env, S, f, rs, re, h⟩ => ⟨env, S, f, rs, re, WpS.bindL re h fun d S1 f1 H1 v u1 rs1 r1 h1 => by
  refine ⟨d, env, S1, f1, rs1, re.up u1, r1, ?_⟩
  have h1 : WpS Γ W f1 H1 D (g d env S1).nxt := h1
  cases q : g d env S1 with
  | ok e S2 => rw [q] at h1; exact h1
  | ex C ds S2 => rw [q] at h1; exact h1
  | bad => rw [q] at h1; exact h1⟩
end
end Lk

set_option Elab.async false
set_option linter.all false
set_option autoImplicit false
set_option maxRecDepth 100000
set_option maxHeartbeats 2000000
namespace Lk
open PySem PySem.Spec PyProof.Rows L2

/-- behind a call: what it made and did not hand back is forgotten -/
noncomputable def gc (S : Store) (d : D) (S1 : Store) : R D := open Classical in if d.cl S.length = true ∧ S1.take S.length = S then .ok d S else .ok d S1
/-- a def's mirror, from its body's -/
noncomputable def mDef (n : Nat) (m : MS) : List D → Store → R D := fun ds S => match m (ds.map some ++ List.replicate (n - ds.length) none) S with
  | .nx _ S' => gc S .non S'
  | .rt d S' => gc S d S'
  | .ex C xs _ S' => gcX S C xs S'
  | _ => .bad
theorem gc_ok {S : Store} {d : D} {T : Store} (h : d.cl S.length = true) : gc S d (S ++ T) = .ok d S := if_pos ⟨h, by simp⟩
theorem gc_self {S : Store} {d : D} : gc S d S = .ok d S := by
  unfold gc
  split <;> rfl
theorem gcX_self {S : Store} {C : Str} {d : List D} : gcX S C d S = .ex C d S := by
  unfold gcX
  split <;> rfl
def WF (E : XK) : WX := fun c o _ H => E c o H
section
variable {Γ : G} {f : List Addr} {H : Hp} {S : Store}
theorem Wp.gc {W : WX} {σ : L2.St} {Q : VK} {d : D} {S1 : Store} (rs : RelS Γ f S H) (h : Wp Γ W σ f H (Rp Γ) Q (gc S d S1)) : Wp Γ W σ f H (Rp Γ) Q (.ok d S1) := by
  unfold Lk.gc at h
  split at h
  · rename_i c
    intro f' H' b u r1 p
    obtain ⟨⟨t, e⟩, k⟩ := u
    subst e
    exact h f H' b ⟨⟨[], by simp⟩, k⟩ (rs.cut r1 c.2) (p.cut (by rw [rs.len]; exact c.1))
  · exact h
theorem start_rel {N : List Str} (hx : Γ.xc = none) : ∀ {ds : List D} {vs : List V}, RpL Γ f H ds vs → RelE Γ f H (ds.map some ++ List.replicate (N.length - ds.length) none) (L2.start N vs) := fun {ds vs} r => by
  have hl := r.length
  refine ⟨?_, fun i d e => ?_, fun a i C ds o e => by
    rw [hx] at e
    cases e⟩
  · unfold L2.start
    rw [List.length_append, List.length_append, List.length_map, List.length_map, List.length_replicate, List.length_replicate, hl]
  · have key : ∀ {ds : List D} {vs : List V} {i : Nat} {d : D}, RpL Γ f H ds vs → ds[i]? = some d → ∃ v, vs[i]? = some v ∧ Rp Γ f H d v := by
      intro ds
      induction ds with
      | nil => intro vs i d _ e; simp at e
      | cons x xs ih =>
        intro vs i d r e
        simp only [RpL] at r
        obtain ⟨v, vr, ev, r1, r2⟩ := r
        subst ev
        cases i with
        | zero => simp at e; subst e; exact ⟨v, rfl, r1⟩
        | succ i =>
          obtain ⟨u, h1, h2⟩ := ih (i := i) r2 (by simpa using e)
          exact ⟨u, by simpa using h1, h2⟩
    by_cases hi : i < ds.length
    · rw [List.getElem?_append_left (by rw [List.length_map]; exact hi), List.getElem?_map] at e
      cases q : ds[i]? with
      | none => rw [q] at e; cases e
      | some x =>
        rw [q] at e
        have e' : x = d := by simpa using e
        subst e'
        obtain ⟨v, h1, h2⟩ := key r q
        refine ⟨v, ?_, h2⟩
        unfold L2.start
        rw [List.getElem?_append_left (by rw [List.length_map, ← hl]; exact hi), List.getElem?_map, h1]
        rfl
    · rw [List.getElem?_append_right (by rw [List.length_map]; omega), List.getElem?_replicate] at e
      split at e <;> cases e
theorem def_core (hx : Γ.xc = none) {E : XK} {Q : VK} {m : MS} {n : Nat} {N : List Str} {vs : List V} (hn : N.length = n) {k : Nat} (h : spOf Γ k (mDef n m) vs H Q E) : tS Γ (WF E) m { nx := fun _ H' => Q .non H', rt := Q } (L2.start N vs) H := by
  obtain ⟨_, f, S, ds, rs, r, h⟩ := h
  subst hn
  refine ⟨_, S, f, rs, start_rel hx r, ?_⟩
  unfold mDef at h
  revert h
  cases m (ds.map some ++ List.replicate (N.length - ds.length) none) S with
  | nx e S' => exact fun h f' σ' H' u r _ => Wp.gc rs h f' H' .non u r (by simp only [Rp])
  | rt d S' => exact fun h => Wp.gc rs h
  | ex C xs e S' => exact fun h f' σ' H' o u r _ x => Wp.gcX rs h f' H' o u r x
  | bk e S' => exact fun h => h.elim
  | ct e S' => exact fun h => h.elim
  | bad => exact fun h => h.elim
end
section
variable {Γ : G} {P : Program} {w : World} {mg : Str → Option Value} {base : Heap}
/-- a def keeps its mirror's promise, by its body's term -/
theorem ok_def (hx : Γ.xc = none) {x qual : Str} {params : Arguments} {body : List Stmt} {scope : Scope} {kws : List (Str × V)} {f : Addr} {fd : FuncData} {N ps : List Str} {k n : Nat} {m : MS} (F : FunD Γ.K x qual params body scope [] kws f fd) (Sc : FnScope N ps scope) (hn : N.length = n)
    (hbody : ∀ (cdv : Value) (A : Around) (outer : List PySem.Env) (s : Shared) (H : Hp) (E : XK), Room k (A.deeper (envOfC qual scope s.heap.objs.size f cdv)) → PSs (cxOf (L2.CX P w) P w Γ.K mg base N qual scope f cdv A outer s H E) body (tS Γ (WF E) m)) :
    FnOk P w Γ.K mg base (L2.CX P w) (k + 1) f fd ps (spOf Γ ps.length (mDef n m)) :=
  FunD.ok F Sc (fun vs H Q E h => h.1) fun cdv A outer s H vs Q E hr h => ⟨_, hbody cdv A outer s H E hr, def_core hx hn h⟩
end
/-! ### calls -/
section
variable {Γ : G} {W : WX} {X : Cx} {f : List Addr} {H : Hp} {S : Store} {a o : Expr} {es : List Expr} {ma : ME} {mr : MA} {p pos apos : Pos} {x : Str} {fA : Addr} {fd : FuncData} {ps : List Str} {k n : Nat} {m : List D → Store → R D}
theorem q_call (F : FnOk X.prog X.w X.K X.mg X.base (L2.CX X.prog X.w) k fA fd ps (spOf Γ n m)) (hr : Room k X.A) (hm : X.mg x = some (.ref fA)) (hk : PySem.W.keepIn X.K (.ref fA) = true) (hb : Binds X.K fd ps []) (tk : Takes X W) (ha : PA X (a :: es) (tA Γ W mr)) (hg : Gl X x := by rfl)
    (hdb : (x == ("__debug__" : Str)) = false := by decide) (he : starEach (a :: es) X.env = (false, eval a X.env) :: starEach es X.env := by rfl) (hpl : (backTo pos (starEach es X.env)).any (·.1) = false := by rfl) :
    PE X (.Call (.Name x p) (a :: es) [] pos) (tE Γ W (mCall n m mr)) := PE.imp (pe_callS F hr hg hm hk hb (fun σ => passAt tk σ) ha hdb he hpl) fun σ H Q ⟨env, S, f, rs, re, h⟩ => ⟨env, S, f, rs, re, Wp.bindL h fun xs S1 f1 H1 vs u1 rs1 r1 h1 => Wp.spOf rs1 r1 h1⟩
end
end Lk

set_option Elab.async false
set_option linter.all false
set_option autoImplicit false
set_option maxRecDepth 100000
set_option maxHeartbeats 2000000
namespace Lk
open PySem PySem.Spec PyProof.Rows L2

/-! ### what a loop goes over: the items, and what must stand meanwhile -/
def Sv (Γ : G) (f : List Addr) (H0 : Hp) (s : Src) (J : It) : Prop := Serves Γ J (fun f' S H => s.gd S ∧ Up Γ f H0 f' H) s.items
def tI (Γ : G) (W : WX) (m : MI) : TI := fun σ H R => ∃ env S f, RelS Γ f S H ∧ RelE Γ f H env σ ∧ Wp Γ W σ f H (Sv Γ) R (m env S)
/-! ### for -/
section
variable {Γ : G} {W : WX} {X : Cx} {f : List Addr} {H : Hp} {S : Store}
theorem for_core {J : It} {ok : List Addr → Store → Hp → Prop} {s : Src} {g : MG} {mb : MS} {D₀ : Ends} {env : Env} {σ : L2.St} (sv : Sv Γ f H s J) (rs : RelS Γ f S H) (re : RelE Γ f H env σ) (h : WpS Γ W f H D₀ (forGo s.gd g mb s.items env S)) :
    ∃ Wv : Nat → Nat → L2.St → Hp → Prop, (∃ m, Wv 0 m σ H) ∧ ∀ i m σ H, Wv i m σ H →
      (J.stop i H ∧ D₀.nx σ H) ∨ (J.go i H ∧ ∃ N : L2.St → Hp → Prop, (∀ σ' H', N σ' H' → ∃ m', m' < m ∧ Wv (i + 1) m' σ' H') ∧ ∀ x H', J.yld i H x H' → tG Γ g x σ H' fun σ2 H2 => tS Γ W mb { D₀ with nx := N, ct := N, bk := D₀.nx } σ2 H2) := by
  refine ⟨fun i m σ' H' => i ≤ s.items.length ∧ m = s.items.length - i ∧ ∃ env' S' f', RelS Γ f' S' H' ∧ RelE Γ f' H' env' σ' ∧ Up Γ f H f' H' ∧ WpS Γ W f' H' D₀ (forGo s.gd g mb (s.items.drop i) env' S'),
    ⟨_, Nat.zero_le _, rfl, env, S, f, rs, re, .refl, h⟩, ?_⟩
  rintro i m σ1 H1 ⟨hi, hm, env1, S1, f1, rs1, re1, u1, h1⟩
  cases hd : s.items.drop i with
  | nil =>
    rw [hd] at h1
    unfold forGo at h1
    split at h1
    · rename_i gd
      have e : i = s.items.length := by
        have := List.drop_eq_nil_iff.mp hd
        omega
      refine .inl ⟨?_, h1 f1 σ1 H1 .refl rs1 re1⟩
      rw [e]
      exact sv.stop f1 S1 H1 rs1 ⟨gd, u1⟩
    · exact h1.elim
  | cons d ds =>
    rw [hd] at h1
    have hlt : i < s.items.length := by
      have := congrArg List.length hd
      rw [List.length_drop, List.length_cons] at this
      omega
    have hdd : s.items[i]? = some d ∧ s.items.drop (i + 1) = ds := by
      rw [List.drop_eq_getElem_cons hlt] at hd
      injection hd with e1 e2
      exact ⟨by rw [List.getElem?_eq_getElem hlt, e1], e2⟩
    unfold forGo at h1
    split at h1
    · rename_i gd
      obtain ⟨jg, jy⟩ := sv.go f1 S1 H1 i d rs1 ⟨gd, u1⟩ hdd.1
      refine .inr ⟨jg, fun σ' H' => i + 1 ≤ s.items.length ∧ ∃ env' S' f', RelS Γ f' S' H' ∧ RelE Γ f' H' env' σ' ∧ Up Γ f H f' H' ∧ WpS Γ W f' H' D₀ (forGo s.gd g mb (s.items.drop (i + 1)) env' S'), ?_, ?_⟩
      · rintro σ' H' ⟨h1, h2⟩
        exact ⟨_, by rw [hm]; omega, h1, rfl, h2⟩
      · intro x H' hy
        obtain ⟨u2, rs2, rp⟩ := jy x H' hy
        refine ⟨d, env1, S1, f1, rs2, re1.up u2, rp, ?_⟩
        revert h1
        cases g d env1 S1 with
        | ok e2 S2 =>
          intro h1 f3 σ3 H3 u3 rs3 re3
          have uu := u2.trans u3
          refine ⟨e2, S2, f3, rs3, re3, ?_⟩
          rw [hdd.2]
          revert h1
          dsimp only
          cases mb e2 S2 with
          | nx e4 S4 => exact fun h1 f5 σ5 H5 u5 rs5 re5 => ⟨hlt, e4, S4, f5, rs5, re5, (u1.trans uu).trans u5, WpS.mono (uu.trans u5) h1⟩
          | ct e4 S4 => exact fun h1 f5 σ5 H5 u5 rs5 re5 => ⟨hlt, e4, S4, f5, rs5, re5, (u1.trans uu).trans u5, WpS.mono (uu.trans u5) h1⟩
          | bk e4 S4 => exact fun h1 => WpS.mono (D := D₀) uu h1
          | rt d4 S4 => exact fun h1 => WpS.mono (D := D₀) uu h1
          | ex C4 d4 e4 S4 => exact fun h1 => WpS.mono (D := D₀) uu h1
          | bad => exact fun h1 => h1
        | ex C4 d4 S4 => exact fun h1 => h1.elim
        | bad => exact fun h1 => h1.elim
    · exact h1.elim
theorem qs_for {iter tg : Expr} {body : List Stmt} {mi : MI} {g : MG} {mb : MS} {pos : Pos} (hp : PassesOwn (model X.prog X.w) X.A X.env X.xe) (hc : X.calm = true) (hi : PI X tg iter (tI Γ W mi)) (hg : PG X tg (tG Γ g)) (hb : PSs X body (tS Γ W mb))
    (hs : ∀ x, foldedSetIterable iter X.env x = pure x := by intro _; rfl) : PS X (.For tg iter body [] pos) (tS Γ W (mFor mi g mb)) := PS.imp (ps_for hp hc hi hg hb hs) fun D σ H ⟨env, S, f, rs, re, h⟩ =>
  ⟨env, S, f, rs, re, WpS.bindL re h fun s S1 f1 H1 J u1 rs1 sv h1 => for_core (ok := fun _ _ _ => True) sv rs1 (re.up u1) h1⟩
/-! ### what is gone over -/
theorem PI.imp {tg e : Expr} {t t' : TI} (h : PI X tg e t) (i : ∀ σ H R, t' σ H R → t σ H R) : PI X tg e t' := ⟨fun pins s σ H R I q => h.run pins s σ H R I (i σ H R q)⟩
theorem PI.or {tg e : Expr} {t t' : TI} (h : PI X tg e t) (h' : PI X tg e t') : PI X tg e (fun σ H R => t σ H R ∨ t' σ H R) := ⟨fun pins s σ H R I q => q.elim (h.run pins s σ H R I) (h'.run pins s σ H R I)⟩
theorem RpL.get : ∀ {ds : List D} {vs : List V} {i : Nat} {d : D}, RpL Γ f H ds vs → ds[i]? = some d → ∃ v, vs[i]? = some v ∧ Rp Γ f H d v
  | [], _, _, _, _, e => by simp at e
  | x :: xs, _, i, d, r, e => by
    simp only [RpL] at r
    obtain ⟨v, vr, ev, r1, r2⟩ := r
    subst ev
    cases i with
    | zero =>
      have e' : x = d := by simpa using e
      subst e'
      exact ⟨v, rfl, r1⟩
    | succ i =>
      obtain ⟨u, h1, h2⟩ := RpL.get (i := i) r2 (by simpa using e)
      exact ⟨u, by simpa using h1, h2⟩
theorem sv_tup {a : Addr} {vs : List V} {ds : List D} (h : SqT Γ.K H a vs) (r : RpL Γ f H ds vs) : Sv Γ f H (vals ds) (Itt Γ.K a) where
  go := fun f1 S H1 i d rs ok e => by
    obtain ⟨v, h1, h2⟩ := RpL.get (r.up ok.2) e
    have q := ok.2.keep.sqT h
    refine ⟨⟨vs, v, q, h1⟩, fun x H' hy => ?_⟩
    obtain ⟨eH, hx⟩ := hy
    subst eH
    have e2 := hx vs q
    rw [h1] at e2
    cases e2
    exact ⟨.refl, rs, h2⟩
  stop := fun f1 S H1 rs ok => ⟨vs, ok.2.keep.sqT h, by rw [← r.length]; exact Nat.le_refl _⟩
theorem sv_rol {a : Addr} {vs : List V} {ds : List D} (h : SqR Γ.K H a vs) (r : RpL Γ f H ds vs) : Sv Γ f H (vals ds) (Itl Γ.K a) where
  go := fun f1 S H1 i d rs ok e => by
    obtain ⟨v, h1, h2⟩ := RpL.get (r.up ok.2) e
    have q := (ok.2.keep.sqR h).1
    refine ⟨⟨vs, v, q, h1⟩, fun x H' hy => ?_⟩
    obtain ⟨eH, hx⟩ := hy
    subst eH
    have e2 := hx vs q
    rw [h1] at e2
    cases e2
    exact ⟨.refl, rs, h2⟩
  stop := fun f1 S H1 rs ok => ⟨vs, (ok.2.keep.sqR h).1, by rw [← r.length]; exact Nat.le_refl _⟩
theorem sv_lst {a : Addr} {n : Nat} {ds : List D} (ha : f[n]? = some a) : Sv Γ f H (lstAt n ds) (Itl Γ.K a) where
  go := fun f1 S H1 i d rs ok e => by
    obtain ⟨b, hb, vs, h0, r⟩ := rs.ob n _ ok.1
    rw [ok.2.at ha] at hb
    cases hb
    obtain ⟨v, h1, h2⟩ := RpL.get r e
    refine ⟨⟨vs, v, SqL.of h0, h1⟩, fun x H' hy => ?_⟩
    obtain ⟨eH, hx⟩ := hy
    subst eH
    have e2 := hx vs (SqL.of h0)
    rw [h1] at e2
    cases e2
    exact ⟨.refl, rs, h2⟩
  stop := fun f1 S H1 rs ok => by
    obtain ⟨b, hb, vs, h0, r⟩ := rs.ob n _ ok.1
    rw [ok.2.at ha] at hb
    cases hb
    exact ⟨vs, SqL.of h0, by rw [← r.length]; exact Nat.le_refl _⟩
theorem qi_seq {tg e : Expr} {m : ME} (hK : X.K = Γ.K) (h : PE X e (tE Γ W m)) : PI X tg e (tI Γ W (iSeq m)) := PI.imp (PI.or (pi_list h) (pi_tup h)) fun σ H R ⟨env, S, f, rs, re, h⟩ => by
  have h0 := h
  unfold iSeq at h
  cases q : m env S with
  | ok d S1 =>
    rw [q] at h
    cases d with
    | tup ds =>
      refine .inr ⟨env, S, f, rs, re, ?_⟩
      rw [q]
      intro f1 H1 v u1 rs1 r1
      simp only [Rp] at r1
      obtain ⟨a, vs, e, hs, r⟩ := r1
      rw [hK]
      exact ⟨a, e, ⟨vs, hs⟩, h f1 H1 _ u1 rs1 (sv_tup hs r)⟩
    | rol ds =>
      refine .inl ⟨env, S, f, rs, re, ?_⟩
      rw [q]
      intro f1 H1 v u1 rs1 r1
      simp only [Rp] at r1
      obtain ⟨a, vs, e, hs, r⟩ := r1
      rw [hK]
      exact ⟨a, e, ⟨vs, hs.1⟩, h f1 H1 _ u1 rs1 (sv_rol hs r)⟩
    | ref n =>
      refine .inl ⟨env, S, f, rs, re, ?_⟩
      rw [q]
      intro f1 H1 v u1 rs1 r1
      simp only [Rp] at r1
      obtain ⟨a, ha, e⟩ := r1
      have h : Wp Γ W σ f H (Sv Γ) R (match S1[n]? with
        | some (.lst xs) => .ok (lstAt n xs) S1
        | _ => .bad) := h
      split at h
      · rename_i xs hn
        obtain ⟨b, hb, vs, hh, r⟩ := rs1.ob n _ hn
        rw [ha] at hb
        cases hb
        rw [hK]
        exact ⟨a, e, ⟨vs, SqL.of hh⟩, h f1 H1 _ u1 rs1 (sv_lst ha)⟩
      · exact h.elim
    | _ => exact h.elim
  | ex C ds S1 =>
    refine .inl ⟨env, S, f, rs, re, ?_⟩
    rw [q] at h ⊢
    exact h
  | bad => rw [q] at h; exact h.elim
/-! ### ranges -/
theorem sv_rng {lo : Int} {n : Nat} : Sv Γ f H (vals (rngI lo n)) (Itr lo n) where
  go := fun f1 S H1 i d rs ok e => by
    have e : (rngI lo n)[i]? = some d := e
    unfold rngI at e
    rw [List.getElem?_map] at e
    by_cases hi : i < n
    · rw [List.getElem?_range hi] at e
      cases e
      refine ⟨hi, fun x H' hy => ?_⟩
      obtain ⟨eH, hx⟩ := hy
      subst eH
      subst hx
      exact ⟨.refl, rs, by simp only [Rp]⟩
    · rw [List.getElem?_eq_none (by simpa using hi)] at e
      cases e
  stop := fun f1 S H1 rs ok => by
    show n ≤ (rngI lo n).length
    unfold rngI
    simp
theorem RpL.one {d : D} {vs : List V} (h : RpL Γ f H [d] vs) : ∃ v, vs = [v] ∧ Rp Γ f H d v := by
  simp only [RpL] at h
  obtain ⟨v, r, e, h1, h2⟩ := h
  subst h2
  exact ⟨v, e, h1⟩
theorem RpL.two {d e : D} {vs : List V} (h : RpL Γ f H [d, e] vs) : ∃ v u, vs = [v, u] ∧ Rp Γ f H d v ∧ Rp Γ f H e u := by
  simp only [RpL] at h
  obtain ⟨v, r, ev, h1, u, r2, eu, h2, h3⟩ := h
  subst h3
  subst eu
  exact ⟨v, u, ev, h1, h2⟩
theorem qi_rng1 {tg a : Expr} {mr : MA} {p pos : Pos} (hm : X.mg "range" = none) (ha : PA X [a] (tA Γ W mr)) (hg : Gl X "range" := by rfl) (hs : starEach [a] X.env = [(false, eval a X.env)] := by rfl) : PI X tg (.Call (.Name "range" p) [a] [] pos) (tI Γ W (iRng1' mr)) := PI.imp (pi_range1 hg hm ha hs) fun σ H R ⟨env, S, f, rs, re, h⟩ =>
  ⟨env, S, f, rs, re, Wp.bindL h fun ds S1 f1 H1 vs u1 rs1 r1 h1 => by
    revert h1
    split
    · rename_i j
      intro h1
      obtain ⟨v, e, rv⟩ := r1.one
      simp only [Rp] at rv
      subst rv
      split at h1
      · rename_i b
        exact ⟨j, e, b.1, b.2, h1 f1 H1 _ .refl rs1 sv_rng⟩
      · exact h1.elim
    · exact fun h => h.elim⟩
end
/-! ### while: so many turns at most -/
section
variable {Γ : G} {W : WX} {X : Cx} {f : List Addr} {H : Hp} {S : Store}
end
end Lk

set_option Elab.async false
set_option linter.all false
set_option autoImplicit false
set_option maxRecDepth 100000
set_option maxHeartbeats 2000000
namespace Lk
open PySem PySem.Spec PyProof.Rows L2

/-! ### comprehensions: the targets are names, or a tuple of names -/
def Tg.slots : Tg → List Nat
  | .nm i => [i]
  | .tp is => is
def gNs : List Nat → TGs
  | [] => L2.gNil
  | i :: is => gCons (gName i) (gNs is)
def Tg.raw (K : PySem.W.Frag) : Tg → TG
  | .nm i => gName i
  | .tp is => gTup K is.length (gNs is)
def mYes : MT := fun _ S => .ok true S
section
variable {Γ : G} {W : WX} {X : Cx} {f : List Addr} {H : Hp} {S : Store}
theorem RelE.wipe {env : Env} {σ : L2.St} (hx : Γ.xc = none) (r : RelE Γ f H env σ) : ∀ vs : List Nat, RelE Γ f H (wipeE env vs) (L2.wipe σ vs)
  | [] => r
  | v :: vs => by
    unfold wipeE L2.wipe
    exact (RelE.wipe hx r vs).miss hx v none
theorem wipe_set {σ : L2.St} {i : Nat} {x : Option V} : ∀ {vs : List Nat}, i ∈ vs → L2.wipe (σ.set i x) vs = L2.wipe σ vs
  | [], h => by simp at h
  | v :: vs, h => by
    have key : ∀ us : List Nat, L2.wipe (σ.set i x) us = (L2.wipe σ us).set i (if i ∈ us then none else x) := by
      intro us
      induction us with
      | nil => simp [L2.wipe]
      | cons u us ih =>
        simp only [L2.wipe, ih]
        by_cases e : u = i
        · subst e
          rw [List.set_set]
          simp
        · rw [List.set_comm _ _ (Ne.symm e)]
          congr 1
          by_cases m : i ∈ us
          · simp [m]
          · simp [m, Ne.symm e]
    rw [key]
    rw [if_pos h]
    have hw : ∀ us : List Nat, i ∈ us → (L2.wipe σ us).set i none = L2.wipe σ us := by
      intro us
      induction us with
      | nil => intro h; simp at h
      | cons u us ih =>
        intro h
        simp only [L2.wipe]
        by_cases e : u = i
        · subst e
          rw [List.set_set]
        · rw [List.set_comm _ _ e]
          rw [ih (by simpa [Ne.symm e] using h)]
    exact hw _ h
theorem gNs_ok {Q : L2.St → Hp → Prop} {vs0 : List Nat} {σ0 : L2.St} : ∀ {is : List Nat} {ds : List D} {vs : List V} {env : Env} {σ : L2.St}, RelE Γ f H env σ → RpL Γ f H ds vs → ds.length = is.length → (∀ i ∈ is, i ∈ vs0) → L2.wipe σ vs0 = L2.wipe σ0 vs0 →
    (∀ σ', RelE Γ f H (setL is ds env) σ' → L2.wipe σ' vs0 = L2.wipe σ0 vs0 → Q σ' H) → gNs is vs σ H Q
  | [], [], vs, env, σ, re, r, hl, hi, hw, k => by
    simp only [RpL] at r
    exact ⟨r, k σ re hw⟩
  | [], _ :: _, _, _, _, _, _, hl, _, _, _ => by simp at hl
  | _ :: _, [], _, _, _, _, _, hl, _, _, _ => by simp at hl
  | i :: is, d :: ds, vs, env, σ, re, r, hl, hi, hw, k => by
    simp only [RpL] at r
    obtain ⟨v, vr, e, r1, r2⟩ := r
    refine ⟨v, vr, e, ?_⟩
    exact gNs_ok (re.set r1 i) r2 (by simpa using hl) (fun j hj => hi j (List.mem_cons_of_mem _ hj)) (by rw [wipe_set (hi i List.mem_cons_self)]; exact hw) k
theorem put_ok {Q : L2.St → Hp → Prop} {g : Tg} {d : D} {v : V} {env e1 : Env} {σ : L2.St} {vs0 : List Nat} {σ0 : L2.St} (hg : ∀ i ∈ g.slots, i ∈ vs0) (hp : g.put d env = some e1) (re : RelE Γ f H env σ) (r : Rp Γ f H d v) (hw : L2.wipe σ vs0 = L2.wipe σ0 vs0)
    (k : ∀ σ', RelE Γ f H e1 σ' → L2.wipe σ' vs0 = L2.wipe σ0 vs0 → Q σ' H) : g.raw Γ.K v σ H Q := by
  cases g with
  | nm i =>
    have e : env.set i (some d) = e1 := by simpa [Tg.put] using hp
    subst e
    exact k _ (re.set r i) (by rw [wipe_set (hg i (by simp [Tg.slots]))]; exact hw)
  | tp is =>
    cases d with
    | tup ds =>
      simp only [Rp] at r
      obtain ⟨a, vs, e, hs, r⟩ := r
      have hp : (if ds.length = is.length then some (setL is ds env) else none) = some e1 := hp
      by_cases hl : ds.length = is.length
      · rw [if_pos hl] at hp
        cases hp
        exact ⟨a, vs, e, hs, by rw [← r.length]; exact hl, gNs_ok re r hl hg hw k⟩
      · rw [if_neg hl] at hp
        cases hp
    | _ => cases hp
theorem lc_core' (hx : Γ.xc = none) {J : It} {s : Src} {g : Tg} {mt : MT} {me : ME} {vs : List Nat} {env : Env} {σ : L2.St} {Q : VK} (hg : ∀ i ∈ g.slots, i ∈ vs) (sv : Sv Γ f H s J) (rs : RelS Γ f S H) (re : RelE Γ f H env σ)
    (h : Wp Γ W σ f H (Rp Γ) Q (lcGo s.gd g mt me (wipeE env vs) S.length s.items (S ++ [.lst []]))) (W0 : WX) : ∀ Da, H Da = none → ∃ Wv : Nat → Nat → Hp → Prop, (∃ m, Wv 0 m (upd H Da (.lst []))) ∧ ∀ i m H, Wv i m H →
      (J.stop i H ∧ Q (.ref Da) H) ∨ (J.go i H ∧ ∃ Nx : Hp → Prop, (∀ H', Nx H' → ∃ m', m' < m ∧ Wv (i + 1) m' H') ∧ ∀ x H', J.yld i H x H' → g.raw Γ.K x (L2.wipe σ vs) H' fun σ2 H2 => L2.wipe σ2 vs = L2.wipe σ vs ∧ tT Γ W0 mt σ2 H2 fun b H3 =>
        if b = true then tE Γ W0 me σ2 H3 fun y H4 => ∃ acc, H4 Da = some (.lst acc) ∧ acc.length < sizeLine ∧ Nx (upd H4 Da (.lst (acc ++ [y]))) else Nx H3) := by
  intro Da hDa
  have hr0 : RelS Γ (f ++ [Da]) (S ++ [.lst []]) (upd H Da (.lst [])) := rs.alloc (b := .lst []) hDa ⟨[], upd_same, by simp only [RpL]⟩
  have h0 : Wp Γ W σ (f ++ [Da]) (upd H Da (.lst [])) (Rp Γ) Q (lcGo s.gd g mt me (wipeE env vs) S.length (s.items.drop 0) (S ++ [.lst []])) := Wp.mono (.alloc hDa) h
  refine ⟨fun i m H' => i ≤ s.items.length ∧ m = s.items.length - i ∧ ∃ S' f', RelS Γ f' S' H' ∧ f'[S.length]? = some Da ∧ Up Γ f H f' H' ∧ Wp Γ W σ f' H' (Rp Γ) Q (lcGo s.gd g mt me (wipeE env vs) S.length (s.items.drop i) S'),
    ⟨_, Nat.zero_le _, rfl, S ++ [.lst []], f ++ [Da], hr0, by rw [← rs.len]; simp, .alloc hDa, h0⟩, ?_⟩
  rintro i m H1 ⟨hi, hm, S1, f1, rs1, hf1, u1, h1⟩
  cases hd : s.items.drop i with
  | nil =>
    rw [hd] at h1
    unfold lcGo at h1
    split at h1
    · rename_i gd
      have e : i = s.items.length := by
        have := List.drop_eq_nil_iff.mp hd
        omega
      refine .inl ⟨?_, h1 f1 H1 _ .refl rs1 (Rp.refI hf1)⟩
      rw [e]
      exact sv.stop f1 S1 H1 rs1 ⟨gd, u1⟩
    · exact h1.elim
  | cons d ds =>
    rw [hd] at h1
    have hlt : i < s.items.length := by
      have := congrArg List.length hd
      rw [List.length_drop, List.length_cons] at this
      omega
    have hdd : s.items[i]? = some d ∧ s.items.drop (i + 1) = ds := by
      rw [List.drop_eq_getElem_cons hlt] at hd
      injection hd with e1 e2
      exact ⟨by rw [List.getElem?_eq_getElem hlt, e1], e2⟩
    unfold lcGo at h1
    split at h1
    · rename_i gd
      obtain ⟨jg, jy⟩ := sv.go f1 S1 H1 i d rs1 ⟨gd, u1⟩ hdd.1
      refine .inr ⟨jg, fun H' => i + 1 ≤ s.items.length ∧ ∃ S' f', RelS Γ f' S' H' ∧ f'[S.length]? = some Da ∧ Up Γ f H f' H' ∧ Wp Γ W σ f' H' (Rp Γ) Q (lcGo s.gd g mt me (wipeE env vs) S.length (s.items.drop (i + 1)) S'), ?_, ?_⟩
      · rintro H' ⟨h1, h2⟩
        exact ⟨_, by rw [hm]; omega, h1, rfl, h2⟩
      · intro x H' hy
        obtain ⟨u2, rs2, rp⟩ := jy x H' hy
        have re2 : RelE Γ f1 H' (wipeE env vs) (L2.wipe σ vs) := (re.up (u1.trans u2)).wipe hx vs
        rw [hdd.2]
        revert h1
        cases hput : g.put d (wipeE env vs) with
        | none => exact fun h1 => h1.elim
        | some e1 =>
          intro h1
          refine put_ok hg hput re2 rp rfl fun σ3 re3 hw3 => ⟨hw3.trans rfl |>.trans ?_, ?_⟩
          · have ww : ∀ us : List Nat, L2.wipe (L2.wipe σ us) us = L2.wipe σ us := by
              intro us
              have aux : ∀ (us ws : List Nat), (∀ i ∈ us, i ∈ ws) → L2.wipe (L2.wipe σ ws) us = L2.wipe σ ws := by
                intro us
                induction us with
                | nil => intro ws _; rfl
                | cons u us ih =>
                  intro ws hs
                  simp only [L2.wipe]
                  rw [ih ws fun i hi => hs i (List.mem_cons_of_mem _ hi)]
                  have hu := hs u List.mem_cons_self
                  have hw : ∀ us : List Nat, u ∈ us → (L2.wipe σ us).set u none = L2.wipe σ us := by
                    intro us
                    induction us with
                    | nil => intro h; simp at h
                    | cons w us ih2 =>
                      intro h
                      simp only [L2.wipe]
                      by_cases e : w = u
                      · subst e
                        rw [List.set_set]
                      · rw [List.set_comm _ _ e, ih2 (by simpa [Ne.symm e] using h)]
                  exact hw ws hu
              exact aux us us fun _ h => h
            exact ww vs
          · refine ⟨e1, S1, f1, rs2, re3, ?_⟩
            revert h1
            dsimp only
            cases mt e1 S1 with
            | ok b S2 =>
              cases b with
              | true =>
                intro h1 f3 H3 b u3 rs3 eb
                subst eb
                refine ⟨e1, S2, f3, rs3, re3.up u3, ?_⟩
                revert h1
                dsimp only
                cases me e1 S2 with
                | ok y S4 =>
                  intro h1 f5 H5 v u5 rs5 r5
                  revert h1
                  dsimp only
                  split
                  · rename_i acc hacc
                    split
                    · rename_i hl
                      intro h1
                      have ha := (u2.trans (u3.trans u5)).at hf1
                      obtain ⟨b, hb, vs', hh, rv⟩ := rs5.ob _ _ hacc
                      rw [ha] at hb
                      cases hb
                      refine ⟨vs', hh, by rw [← rv.length, lim_eq]; exact hl, hlt, S4.set S.length (.lst (acc ++ [y])), f5, ?_, ha, ?_, ?_⟩
                      · refine rs5.set ha (.chg hh trivial) ⟨vs' ++ [v], upd_same, ?_⟩
                        have uc : Up Γ f5 H5 f5 (upd H5 Da (.lst (vs' ++ [v]))) := .chg hh trivial
                        have app : ∀ {ds : List D} {vs : List V} {d : D} {v : V} {H : Hp}, RpL Γ f5 H ds vs → Rp Γ f5 H d v → RpL Γ f5 H (ds ++ [d]) (vs ++ [v]) := by
                          intro ds
                          induction ds with
                          | nil =>
                            intro vs d v H r q
                            simp only [RpL] at r
                            subst r
                            simp only [List.nil_append, RpL]
                            exact ⟨v, [], rfl, q, rfl⟩
                          | cons x xs ih =>
                            intro vs d v H r q
                            simp only [RpL] at r
                            obtain ⟨w, r', e, h1, h2⟩ := r
                            subst e
                            simp only [List.cons_append, RpL]
                            exact ⟨w, _, rfl, h1, ih h2 q⟩
                        exact app (rv.up uc) (r5.up uc)
                      · exact (u1.trans (u2.trans (u3.trans u5))).trans (.chg hh trivial)
                      · exact Wp.mono ((u2.trans (u3.trans u5)).trans (.chg hh trivial)) h1
                    · exact fun h1 => h1.elim
                  · exact fun h1 => h1.elim
                | ex C ds' S4 => exact fun h1 => h1.elim
                | bad => exact fun h1 => h1.elim
              | false =>
                intro h1 f3 H3 b u3 rs3 eb
                subst eb
                exact ⟨hlt, S2, f3, rs3, (u2.trans u3).at hf1, u1.trans (u2.trans u3), Wp.mono (u2.trans u3) h1⟩
            | ex C ds' S2 => exact fun h1 => h1.elim
            | bad => exact fun h1 => h1.elim
    · exact h1.elim
theorem lc_imp (hx : Γ.xc = none) {mi : MI} {g : Tg} {mt : MT} {me : ME} {vs : List Nat} (hg : ∀ i ∈ g.slots, i ∈ vs) {σ : L2.St} {H : Hp} {Q : VK} (h : tE Γ W (mLc mi g mt me vs) σ H Q) : tLc (tI Γ W mi) (g.raw Γ.K) (tT Γ Wno mt) (tE Γ Wno me) vs σ H Q := by
  obtain ⟨env, S, f, rs, re, h⟩ := h
  exact ⟨env, S, f, rs, re, Wp.bindL h fun s S1 f1 H1 J u1 rs1 sv h1 => lc_core' hx hg sv rs1 (re.up u1) h1 Wno⟩
theorem q_lc (hx : Γ.xc = none) {elt tg iter : Expr} {ifs : List Expr} {scope : Scope} {own : List (Str × Nat)} {pos : Pos} {mi : MI} {g : Tg} {mt : MT} {me : ME} (hc : X.calm = true) (hN : X.N.Nodup) (hi : PI X tg iter (tI Γ W mi)) (ok : BlkOk X.N X.env.scope scope own)
    (hg : ∀ (s : Shared) (H : Hp) (C : Addr) (cl : List (Str × Addr)) (fp : List Addr), PG (X.blk s H scope (compEnvC scope cl C X.env) fp) tg (g.raw Γ.K)) (ht : ∀ (s : Shared) (H : Hp) (C : Addr) (cl : List (Str × Addr)) (fp : List Addr), PTs (X.blk s H scope (compEnvC scope cl C X.env) fp) ifs (tT Γ Wno mt))
    (he : ∀ (s : Shared) (H : Hp) (C : Addr) (cl : List (Str × Addr)) (fp : List Addr), PE (X.blk s H scope (compEnvC scope cl C X.env) fp) elt (tE Γ Wno me)) (hs : ∀ x, foldedSetIterable iter X.env x = pure x := by intro _; rfl) (hsl : (g.slots.all fun i => (own.map (·.2)).contains i) = true := by rfl) :
    PE X (.ListComp elt [⟨tg, iter, ifs, 0⟩] scope pos) (tE Γ W (mLc mi g mt me (own.map (·.2)))) := PE.imp (pe_lc hc hN hi ok hg ht he hs) fun σ H Q => lc_imp hx fun i hi => by
  have := List.all_eq_true.mp hsl i hi
  exact List.contains_iff_mem.mp this
theorem qs_setLc (hx : Γ.xc = none) {i : Nat} {y : Str} {py : Pos} {elt tg iter : Expr} {ifs : List Expr} {scope : Scope} {own : List (Str × Nat)} {pos spos : Pos} {mi : MI} {g : Tg} {mt : MT} {me : ME} (hc : X.calm = true) (hN : X.N.Nodup) (hy : X.N[i]? = some y) (hyl : X.env.scope.names.lookup y = some .local)
    (hsw : swapsWith (.ListComp elt [⟨tg, iter, ifs, 0⟩] scope pos) (some (.Name y py)) spos.line X.env = pure true) (hi : PI X tg iter (tI Γ W mi)) (ok : BlkOk X.N X.env.scope scope own)
    (hg : ∀ (s : Shared) (H : Hp) (C : Addr) (cl : List (Str × Addr)) (fp : List Addr), PG (X.blk s H scope (compEnvC scope cl C X.env) fp) tg (g.raw Γ.K)) (ht : ∀ (s : Shared) (H : Hp) (C : Addr) (cl : List (Str × Addr)) (fp : List Addr), PTs (X.blk s H scope (compEnvC scope cl C X.env) fp) ifs (tT Γ Wno mt))
    (he : ∀ (s : Shared) (H : Hp) (C : Addr) (cl : List (Str × Addr)) (fp : List Addr), PE (X.blk s H scope (compEnvC scope cl C X.env) fp) elt (tE Γ Wno me)) (hs : ∀ x, foldedSetIterable iter X.env x = pure x := by intro _; rfl) (hsl : (g.slots.all fun i => (own.map (·.2)).contains i) = true := by rfl) :
    PS X (.Assign [.Name y py] (.ListComp elt [⟨tg, iter, ifs, 0⟩] scope pos) spos) (tS Γ W (mSet i (mLc mi g mt me (own.map (·.2))))) := PS.imp (ps_setLc hc hN hy hyl hsw hi ok hg ht he hs) fun D σ H ⟨env, S, f, rs, re, h⟩ => by
  refine lc_imp (Γ := Γ) (W := W) hx (fun i hi => ?_) ⟨env, S, f, rs, re, WpS.bindL re h fun d S1 f1 H1 v u1 rs1 r1 h1 => h1 f1 _ H1 .refl rs1 ((re.up u1).set r1 i)⟩
  have := List.all_eq_true.mp hsl i hi
  exact List.contains_iff_mem.mp this
theorem qts_nil : PTs X [] (tT Γ W mYes) := ⟨fun pins s σ H Q I ⟨env, S, f, rs, re, h⟩ => pts_nil.run pins s σ H Q I (h f H true .refl rs rfl)⟩
theorem qr_nm {i : Nat} {x : Str} {pos : Pos} (hN : X.N.Nodup) (hi : X.N[i]? = some x := by rfl) (hx : Loc X.env.scope x := by first | exact Or.inl rfl | exact Or.inr rfl) (hf : X.fn x = true ∨ X.env.scope.names.lookup x = some .local := by first | exact .inl rfl | exact .inr rfl | assumption) : PG X (.Name x pos) ((Tg.nm i).raw Γ.K) := pg_name hN hi hx hf
end
end Lk

set_option Elab.async false
set_option linter.all false
set_option autoImplicit false
set_option maxRecDepth 100000
set_option maxHeartbeats 2000000
namespace Lk
open PySem PySem.Spec PyProof.Rows L2

/-! ### attributes -/
section
variable {Γ : G} {W : WX} {X : Cx} {f : List Addr} {H : Hp} {S : Store} {e o : Expr} {es : List Expr} {ma : ME} {mr : MA} {p pos apos : Pos} {x : Str} {cs : List Str}
theorem RpF.look : ∀ {ds : List D} {ns : List Str} {fs : List (Str × V)} {x : Str} {d : D}, RpF Γ f H ds ns fs → (ns.zip ds).lookup x = some d → ∃ v, fs.lookup x = some v ∧ Rp Γ f H d v
  | [], ns, _, _, _, _, e => by simp at e
  | d :: ds, _, fs, x, d', h, e => by
    simp only [RpF] at h
    obtain ⟨y, r, v, en, l, h1, h2⟩ := h
    subst en
    rw [List.zip_cons_cons, List.lookup_cons] at e
    cases q : (x == y) with
    | true =>
      rw [q] at e
      cases e
      rw [beq_iff_eq.mp q]
      exact ⟨v, l, h1⟩
    | false =>
      rw [q] at e
      exact RpF.look h2 e
theorem zip_mem : ∀ {ns : List Str} {ds : List D} {x : Str} {d : D}, (ns.zip ds).lookup x = some d → x ∈ ns
  | [], _, _, _, e => by simp at e
  | _ :: _, [], _, _, e => by simp at e
  | y :: ns, d :: ds, x, d', e => by
    rw [List.zip_cons_cons, List.lookup_cons] at e
    cases q : (x == y) with
    | true => rw [beq_iff_eq.mp q]; exact List.mem_cons_self
    | false =>
      rw [q] at e
      exact List.mem_cons_of_mem _ (zip_mem e)
theorem field_ok (pl : PlAll Γ cs) {d e : D} {v : V} (rs : RelS Γ f S H) (r : Rp Γ f H d v) (h : fieldOf Γ.flds S x d = some e) : ∃ a C dx fs u, v = .ref a ∧ H a = some (.ins C dx fs) ∧ Cls Γ.K C ∧ NoAttr Γ.K C x ∧ fs.lookup x = some u ∧ Rp Γ f H e u := by
  cases d with
  | ins C ds =>
    simp only [Rp] at r
    obtain ⟨a, dx, fvs, ev, hh, _, rf⟩ := r
    have h : ((Γ.flds C).zip ds).lookup x = some e := h
    obtain ⟨u, hu, ru⟩ := rf.look h
    have pc := pl.of (zip_mem h)
    exact ⟨a, _, dx, fvs, u, ev, hh, pc.cls, pc.na x (zip_mem h), hu, ru⟩
  | ref n =>
    simp only [Rp] at r
    obtain ⟨a, ha, ev⟩ := r
    have h : (match S[n]? with
      | some (.obj C ds) => ((Γ.flds C).zip ds).lookup x
      | _ => none) = some e := h
    split at h
    · rename_i C ds hn
      obtain ⟨b, hb, dx, fvs, hh, rf, _⟩ := rs.ob n _ hn
      rw [ha] at hb
      cases hb
      obtain ⟨u, hu, ru⟩ := rf.look h
      have pc := pl.of (zip_mem h)
      exact ⟨a, _, dx, fvs, u, ev, hh, pc.cls, pc.na x (zip_mem h), hu, ru⟩
    · cases h
  | _ => cases h
theorem q_fld (pl : PlAll Γ cs) (hK : X.K = Γ.K) (he : PE X e (tE Γ W ma)) (hb : attributeBase e x X.env (eval e X.env) = eval e X.env := by rfl) : PE X (.Attribute e x pos) (tE Γ W (mFld Γ.flds x ma)) := PE.imp (pe_fld he hb) fun σ H Q ⟨env, S, f, rs, re, h⟩ =>
  ⟨env, S, f, rs, re, Wp.bindL h fun d S1 f1 H1 v u1 rs1 r1 h1 => by
    revert h1
    split
    · rename_i e1 he1
      intro h1
      obtain ⟨a, C, dx, fs, u, ev, hh, hc, hn, hl, ru⟩ := field_ok pl rs1 r1 he1
      rw [hK]
      exact ⟨a, C, dx, fs, u, ev, hh, hc, hn, hl, h1 f1 H1 u .refl rs1 ru⟩
    · exact fun h => h.elim⟩
end
/-! ### self.x = e within __init__ -/
def setF (flds : Str → List Str) (i : Nat) (x : Str) (d : D) (env : Env) (S : Store) : RS := match env[i]? with
  | some (some (.ref n)) => (match S[n]? with
    | some (.obj C ds) => if (flds C)[ds.length]? = some x ∧ x ∉ (flds C).take ds.length ∧ ds.length < 900 then .nx env (S.set n (.obj C (ds ++ [d]))) else .bad
    | _ => .bad)
  | _ => .bad
def mSetF (flds : Str → List Str) (i : Nat) (x : Str) (a : ME) : MS := fun env S => (a env S).bindS env fun d S1 => setF flds i x d env S1
section
variable {Γ : G} {W : WX} {X : Cx} {f : List Addr} {H : Hp} {S : Store} {e o : Expr} {es : List Expr} {ma : ME} {mr : MA} {p pos apos pos' : Pos} {x : Str} {cs : List Str}
theorem RpF.add : ∀ {ds : List D} {ns : List Str} {fs fs' : List (Str × V)} {d : D} {v : V}, RpF Γ f H ds ns fs → ns[ds.length]? = some x → (∀ y u, fs.lookup y = some u → fs'.lookup y = some u) → fs'.lookup x = some v → Rp Γ f H d v → RpF Γ f H (ds ++ [d]) ns fs'
  | [], ns, fs, fs', d, v, _, hn, _, hl, r => by
    cases ns with
    | nil => cases hn
    | cons y ns =>
      have e : y = x := by simpa using hn
      subst e
      simp only [List.nil_append, RpF]
      exact ⟨y, ns, v, rfl, hl, r, trivial⟩
  | d0 :: ds, _, fs, fs', d, v, h, hn, hk, hl, r => by
    simp only [RpF] at h
    obtain ⟨y, ns, u, en, l, h1, h2⟩ := h
    subst en
    simp only [List.cons_append, RpF]
    exact ⟨y, ns, u, rfl, hk y u l, h1, RpF.add h2 (by simpa using hn) hk hl r⟩
theorem qs_setF {i : Nat} {s : Str} (pl : PlAll Γ cs) (hK : X.K = Γ.K) (ha : PE X e (tE Γ W ma)) (hN : X.N[i]? = some s := by rfl) (hv : Vis X.env.scope s := by first | exact Or.inl rfl | exact Or.inr (Or.inl rfl) | exact Or.inr (Or.inr rfl)) (hs : swapsWith e (some (.Attribute (.Name s p) x pos')) pos.line X.env = pure false := by rfl)
    (hd : (s == ("__debug__" : Str)) = false := by decide) (hcd : (s == ("__classdict__" : Str)) = false := by decide) : PS X (.Assign [.Attribute (.Name s p) x pos'] e pos) (tS Γ W (mSetF Γ.flds i x ma)) := PS.imp (ps_fld (pv i hN hv hd hcd) ha hs) fun D σ H ⟨env, S, f, rs, re, h⟩ =>
  ⟨env, S, f, rs, re, WpS.bindL re h fun d S1 f1 H1 v u1 rs1 r1 h1 => by
    unfold setF at h1
    split at h1
    · rename_i n hi
      split at h1
      · rename_i C ds hn
        split at h1
        · rename_i c
          obtain ⟨c1, c2, c3⟩ := c
          have re1 := re.up u1
          obtain ⟨w, hw, rw'⟩ := re1.2.1 i _ hi
          simp only [Rp] at rw'
          obtain ⟨a, ha1, ew⟩ := rw'
          subst ew
          obtain ⟨b, hb, dx, fvs, hh, rf, hm, hl⟩ := rs1.ob n _ hn
          rw [ha1] at hb
          cases hb
          have pc := pl.of (List.mem_of_getElem? c1)
          have l0 : fvs.lookup x = none := by
            cases q : fvs.lookup x with
            | none => rfl
            | some z => exact absurd (hm x (by rw [q]; rfl)) c2
          have grow : ∀ y z, fvs.lookup y = some z → (putF x v fvs).lookup y = some z := fun y z q => by
            rw [lookup_putF, if_neg]
            · exact q
            · intro ey
              rw [ey, l0] at q
              cases q
          have lx : (putF x v fvs).lookup x = some v := by rw [lookup_putF, if_pos rfl]
          have back : ∀ y, ((putF x v fvs).lookup y).isSome = true → (fvs.lookup y).isSome = true ∨ y = x := fun y q => by
            rw [lookup_putF] at q
            by_cases ey : y = x
            · exact .inr ey
            · rw [if_neg ey] at q
              exact .inl q
          have kp : Keep Γ H1 (upd H1 a (.ins (Γ.c C) dx (putF x v fvs))) := by
            refine ⟨fun b xs q => ?_, fun b o u q => ?_, fun b fs q => ?_, fun C' b dx' fs q => ?_⟩
            · rw [upd_ne (ne_of q hh (by intro z; cases z))]; exact q
            · rw [upd_ne (ne_of q hh (by intro z; cases z))]; exact q
            · rw [upd_ne (ne_of q hh (by intro z; cases z))]; exact q
            · by_cases eb : b = a
              · subst eb
                rw [hh] at q
                cases q
                exact ⟨_, upd_same, grow, fun y q => (back y q).imp id fun ey => by rw [ey]; exact pc.sub x (List.mem_of_getElem? c1)⟩
              · exact ⟨fs, by rw [upd_ne eb]; exact q, fun _ _ q => q, fun _ q => .inl q⟩
          have uc : Up Γ f1 H1 f1 (upd H1 a (.ins (Γ.c C) dx (putF x v fvs))) := ⟨⟨[], by simp⟩, kp⟩
          refine ⟨_, hw, a, _, dx, fvs, rfl, hh, by rw [hK]; exact pc.cls, by rw [hK]; exact pc.na x (List.mem_of_getElem? c1), by omega, ?_⟩
          refine h1 f1 σ _ uc (rs1.set ha1 kp ⟨dx, _, upd_same, RpF.add (rf.up uc fun _ _ q => q) c1 grow lx (r1.up uc), fun y q => ?_, ?_⟩) (re1.up uc)
          · rcases back y q with q | ey
            · have := hm y q
              rw [List.length_append, List.take_add]
              exact List.mem_append_left _ this
            · subst ey
              rw [List.length_append, List.take_add]
              refine List.mem_append_right _ ?_
              have hlt := (List.getElem?_eq_some_iff.mp c1).1
              rw [List.drop_eq_getElem_cons hlt]
              have : (Γ.flds C)[ds.length] = y := (List.getElem?_eq_some_iff.mp c1).2
              rw [this]
              simp
          · have := length_putF x v fvs
            rw [List.length_append]
            show _ ≤ ds.length + 1
            omega
        · exact h1.elim
      · exact h1.elim
    · exact h1.elim⟩
end
/-! ### a new instance -/
section
variable {Γ : G} {W : WX} {X : Cx} {f : List Addr} {H : Hp} {S : Store} {a : Expr} {es : List Expr} {mr : MA} {p pos : Pos} {x C : Str} {fA : Addr} {fd : FuncData} {ps : List Str} {k n : Nat} {m : List D → Store → R D}
/-- the new instance is made and its __init__ run, at the slots σ -/
theorem make_at {pins : List (Addr × Obj)} {σ : L2.St} {s : Shared} {Q : VK} {E : XK} {us : List Value} {vs : List V} {Ca : Addr} {sp : Sp} (M : Mk X.K Ca fA) (F : FnOk X.prog X.w X.K X.mg X.base (L2.CX X.prog X.w) k fA fd ps sp) (hr : Room (k + 1) X.A) (hb : Binds X.K fd ps []) (hx : PassesAt (L2.CX X.prog X.w) X σ E)
    (I : Inv X pins σ H s) (r : Vals vs us) (h : ∀ y dy, H y = none → H dy = none → dy ≠ y → sp (.ref y :: vs) (upd (upd H dy (.own y)) y (.ins Ca dy [])) (fun v H2 => v = .non ∧ Q (.ref y) H2) E) :
    wpAny (model X.prog X.w) X.A (call (.ref Ca) us) (EP X pins σ Q) X.xe s := by
  have f1 : H (s.heap.objs.size + 1) = none := I.hok.fresh (Nat.le_succ _)
  have f0 : H s.heap.objs.size = none := I.hok.fresh (Nat.le_refl _)
  have hs := h _ _ f1 f0 (Nat.ne_of_lt (Nat.lt_succ_self _))
  have J := Inv.made (C := Ca) I
  have rr : Vals (V.ref (s.heap.objs.size + 1) :: vs) (Value.ref (s.heap.objs.size + 1) :: us) := Paired.cons rfl r
  have ll : (Value.ref (s.heap.objs.size + 1) :: us).length = ps.length := by rw [← rr.length]; exact F.len _ _ _ _ hs
  have hbb := hb _ (Value.ref (s.heap.objs.size + 1) :: us) J.kIn (by rw [List.append_nil]; exact ll)
  rw [List.append_nil] at hbb
  have go := F.run _ X.stack _ _ ⟨Value.ref (s.heap.objs.size + 1) :: us, []⟩ _ _ _ E (hr.make Ca us []) (J.env0.make Ca us []) hbb rr hs
  refine wpAny_call (make_map (f := fA) I.kIn M.makes M.init (beq_iff_eq.mp M.fn) (codeAny_mono go fun res s' hq => ?_))
  match res, hq with
  | .error er, hq => exact hx pins _ _ er s' J hq
  | .ok (.ret u), hq =>
    obtain ⟨v, H', I3, rv, ev, q3⟩ := J.after hq
    subst ev
    exact ⟨rv, V.ref (s.heap.objs.size + 1), H', I3, rfl, q3⟩
def tMakeS (Ca : Addr) (sp : Sp) (E : L2.St → XK) (t : TA) : TE := fun σ H Q => t σ H fun vs H1 => ∀ y dy, H1 y = none → H1 dy = none → dy ≠ y →
  sp (.ref y :: vs) (upd (upd H1 dy (.own y)) y (.ins Ca dy [])) (fun v H2 => v = .non ∧ Q (.ref y) H2) (E σ)
theorem pe_makeS {sp : Sp} {E : L2.St → XK} {Ca : Addr} {t : TA} (M : Mk X.K Ca fA) (F : FnOk X.prog X.w X.K X.mg X.base (L2.CX X.prog X.w) k fA fd ps sp) (hr : Room (k + 1) X.A) (hg : Gl X x) (hm : X.mg x = some (.ref Ca)) (hb : Binds X.K fd ps []) (hx : ∀ σ, PassesAt (L2.CX X.prog X.w) X σ (E σ))
    (ha : PA X (a :: es) t) (hdb : (x == ("__debug__" : Str)) = false := by decide) (he : starEach (a :: es) X.env = (false, eval a X.env) :: starEach es X.env := by rfl) (hpl : (backTo pos (starEach es X.env)).any (·.1) = false := by rfl) :
    PE X (.Call (.Name x p) (a :: es) [] pos) (tMakeS Ca sp E t) := ⟨fun pins s σ H Q I h => by
  refine wpAny_Call_Name_kw (ld_glob I hg hm ?_ hdb)
  exact PySem.W.callWith_K (h₀ := X.base) I.ok.mod.kin M.kp (thn (ha.run pos pins s σ H _ I h) fun us s1 ⟨vs, H1, I1, r, q⟩ => ⟨I1.kIn, make_at M F hr hb (hx σ) I1 r q⟩) he hpl⟩
theorem mk_core {σ : L2.St} {Q : VK} {xs : List D} {vs : List V} (hsub : ∀ y ∈ Γ.flds C, y ∈ Γ.af) (rs : RelS Γ f S H) (r : RpL Γ f H xs vs) (h : Wp Γ W σ f H (Rp Γ) Q (if xs.length + 1 = n then mkOf C m xs S else .bad)) (y dy : Addr) (hy : H y = none) (hdy : H dy = none) (hne : dy ≠ y) :
    spOf Γ n m (.ref y :: vs) (upd (upd H dy (.own y)) y (.ins (Γ.c C) dy [])) (fun v H2 => v = .non ∧ Q (.ref y) H2) (WE W σ) := by
  by_cases hl : xs.length + 1 = n
  · rw [if_pos hl] at h
    have hy2 : upd H dy (.own y) y = none := by rw [upd_ne (Ne.symm hne)]; exact hy
    have u1 : Up Γ f H f (upd H dy (.own y)) := .new hdy
    have u2 : Up Γ f H (f ++ [y]) (upd (upd H dy (.own y)) y (.ins (Γ.c C) dy [])) := u1.trans (.alloc hy2)
    have rs2 : RelS Γ (f ++ [y]) (S ++ [.obj C []]) (upd (upd H dy (.own y)) y (.ins (Γ.c C) dy [])) := (rs.newT (o := .own y) hdy).alloc (b := .obj C []) hy2 ⟨dy, [], upd_same, by simp only [RpF], fun z hz => by simp at hz, Nat.zero_le _⟩
    refine ⟨by rw [List.length_cons, ← r.length]; exact hl, f ++ [y], S ++ [.obj C []], .ref S.length :: xs, rs2, ?_, ?_⟩
    · simp only [RpL]
      exact ⟨_, vs, rfl, Rp.refI (by rw [← rs.len]; simp), r.up u2⟩
    · unfold mkOf at h
      revert h
      cases hm : m (.ref S.length :: xs) (S ++ [.obj C []]) with
      | ok d S2 =>
        cases d with
        | non =>
          intro h f3 H3 b u3 rs3 rb
          simp only [Rp] at rb
          refine ⟨rb, ?_⟩
          revert h
          dsimp only
          split
          · rename_i C' ys hn
            split
            · rename_i ec
              subst ec
              intro h
              have hf3 : f3[S.length]? = some y := u3.at (by rw [← rs.len]; simp)
              obtain ⟨b', hb', dx, fvs, hh, rf, hms, hll⟩ := rs3.ob _ _ hn
              rw [hf3] at hb'
              cases hb'
              have rp : Rp Γ f3 H3 (.ins C' ys) (.ref y) := by
                simp only [Rp]
                exact ⟨y, dx, fvs, rfl, hh, fun z hz => hsub z (List.mem_of_mem_take (hms z hz)), rf⟩
              unfold mkEnd at h
              split at h
              · rename_i c
                obtain ⟨⟨t, et⟩, kp⟩ := u2.trans u3
                subst et
                have rp2 : Rp Γ f H3 (.ins C' ys) (.ref y) := rp.cut (by simp only [D.cl]; rw [rs.len]; exact c.1)
                exact h f H3 _ ⟨⟨[], by simp⟩, kp⟩ (rs.cut rs3 c.2) rp2
              · exact h f3 H3 _ (u2.trans u3) (rs3.drop _) rp
            · exact fun h => h.elim
          · exact fun h => h.elim
        | _ => exact fun h => h.elim
      | ex C' ys S2 =>
        intro h f3 H3 o u3 rs3 xr
        exact Wp.gcX rs h f3 H3 o (u2.trans u3) rs3 xr
      | bad => exact fun h => h
  · rw [if_neg hl] at h
    exact h.elim
theorem q_make (hsub : ∀ y ∈ Γ.flds C, y ∈ Γ.af) (M : Mk X.K (Γ.c C) fA) (F : FnOk X.prog X.w X.K X.mg X.base (L2.CX X.prog X.w) k fA fd ps (spOf Γ n m)) (hr : Room (k + 1) X.A) (hm : X.mg x = some (.ref (Γ.c C))) (hb : Binds X.K fd ps []) (tk : Takes X W)
    (ha : PA X (a :: es) (tA Γ W mr)) (hg : Gl X x := by rfl) (hdb : (x == ("__debug__" : Str)) = false := by decide) (he : starEach (a :: es) X.env = (false, eval a X.env) :: starEach es X.env := by rfl) (hpl : (backTo pos (starEach es X.env)).any (·.1) = false := by rfl) :
    PE X (.Call (.Name x p) (a :: es) [] pos) (tE Γ W (mMake C n m mr)) := PE.imp (pe_makeS (E := fun σ => WE W σ) M F hr hg hm hb (fun σ => passAt tk σ) ha hdb he hpl) fun σ H Q ⟨env, S, f, rs, re, h⟩ =>
  ⟨env, S, f, rs, re, Wp.bindL h fun xs S1 f1 H1 vs u1 rs1 r1 h1 => fun y dy hy hdy hne => mk_core hsub rs1 r1 h1 y dy hy hdy hne⟩
end
/-! ### methods -/
section
variable {Γ : G} {W : WX} {X : Cx} {f : List Addr} {H : Hp} {S : Store} {a o : Expr} {es : List Expr} {mo : ME} {mr : MA} {p pos apos : Pos} {x C mn : Str} {fA : Addr} {fd : FuncData} {ps : List Str} {k n : Nat} {m : List D → Store → R D}
end
end Lk

set_option Elab.async false
set_option linter.all false
set_option autoImplicit false
set_option maxRecDepth 100000
set_option maxHeartbeats 2000000
namespace Lk
open PySem PySem.Spec PyProof.Rows L2

/-! ### errors whose __init__ keeps one thing -/
theorem ok_x1 {P : Program} {w : World} {K : PySem.W.Frag} {mg : Str → Option Value} {base : Heap} {x qual s n fn : Str} {params : Arguments} {scope : Scope} {kws : List (Str × V)} {f Ca : Addr} {fd : FuncData} {p1 p2 p3 p4 : Pos}
    (F : FunD K x qual params [.Assign [.Attribute (.Name s p1) fn p2] (.Name n p3) p4] scope [] kws f fd) (Sc : FnScope [s, n] [s, n] scope) (T : OexC K Ca) (hno : PySem.W.findIn K (.ref Ca) fn = some none)
    (v0 : Vis scope s) (v1 : Vis scope n) (h1 : (s == ("__debug__" : Str)) = false := by decide) (h2 : (s == ("__classdict__" : Str)) = false := by decide) (h3 : (n == ("__debug__" : Str)) = false := by decide) (h4 : (n == ("__classdict__" : Str)) = false := by decide) :
    FnOk P w K mg base (L2.CX P w) 1 f fd [s, n] (spX1 Ca fn) :=
  FunD.ok F Sc (fun vs H Q E h => by obtain ⟨a, v, e, _⟩ := h; rw [e]; rfl) fun cdv A outer st H vs Q E hr h => ⟨_, pss_one (ps_ost (pe_var (i := 0) rfl v0 h1 h2) (pe_var (i := 1) rfl v1 h3 h4)), by
    obtain ⟨a, v, e, ha, q⟩ := h
    subst e
    exact ⟨v, rfl, _, rfl, a, Ca, rfl, T, hno, .inl ⟨ha, fun d hd hne => q d hd hne⟩⟩⟩
section
variable {Γ : G} {W : WX} {X : Cx} {f : List Addr} {H : Hp} {S : Store} {e : Expr} {ma : ME} {p pos pos2 : Pos} {C fn : Str}
theorem qs_raise1 {k : Nat} (hK : X.K = Γ.K) (T : X1 Γ X.prog X.w X.mg X.base C fn) (hc : X.calm = true) (tk : Takes X W) (hr : Room k X.A) (hk : 2 ≤ k) (ha : PE X e (tE Γ W ma)) (hg : Gl X C := by rfl) (hdb : (C == ("__debug__" : Str)) = false := by decide) (hst : starEach (e :: []) X.env = (false, eval e X.env) :: starEach [] X.env := by rfl)
    (hpl : (backTo pos (starEach [] X.env)).any (·.1) = false := by rfl) : PS X (.Raise (some (.Call (.Name C p) [e] [] pos)) none pos2) (tS Γ W (mRaise1 C ma)) := by
  obtain ⟨fI, fd, s, n, i1, i2, i3, i4⟩ := T.ini
  have hr2 : Room (1 + 1) X.A := hr.mono (by omega)
  have noX : Passes (L2.CX X.prog X.w) X (fun _ _ _ => False) := fun _ _ _ _ _ _ _ c => by
    obtain ⟨_, _, _, _, _, _, _, _, _, _, _, _, z⟩ := c
    exact z.elim
  have mk := pmk_oex (p := p) (pos := pos) (C := Γ.c C) (dvs := []) (T := by rw [hK]; exact T.oex) (by rw [hK]; exact i1) (by rw [hK]; exact i2) (by rw [hK]; exact i3) hr2 (by rw [hK]; exact i4) .nil noX hg T.gl (pa_cons ha pa_nil hst) hdb hst hpl
  refine PS.imp (ps_raise hc tk mk) fun D σ H ⟨env, S, f, rs, re, h⟩ => ⟨env, S, f, rs, re, WpS.bindL re h fun d S1 f1 H1 v u1 rs1 r1 h1 => ⟨(by show 1 ≤ 1000; decide), fun a ha' => ?_⟩⟩
  refine ⟨a, v, rfl, upd_same, fun dd hdd hne => ⟨rfl, dd, _, upd_same, by rw [upd_ne hne, upd_same], ?_, ?_⟩⟩
  · rw [upd_ne hne] at hdd
    exact hdd
  · have hdd1 : H1 dd = none := by
      rw [upd_ne hne] at hdd
      exact hdd
    have eH : upd (del (upd (upd (upd H1 a (exo a (Γ.c C) none)) dd (exd dd [(fn, v)])) a (exo a (Γ.c C) (some dd))) a) dd (.xd [(fn, v)]) = upd H1 dd (.xd [(fn, v)]) := by
      funext b
      by_cases hb : b = dd
      · subst hb
        rw [upd_same, upd_same]
      · rw [upd_ne hb, upd_ne hb]
        by_cases ha2 : b = a
        · subst ha2
          rw [del_same, ha']
        · rw [del_ne ha2, upd_ne ha2, upd_ne hb, upd_ne ha2]
    rw [eH]
    refine h1 f1 σ _ _ (.new hdd1) (rs1.newT hdd1) ((re.up u1).up (.new hdd1)) (.inr ⟨dd, _, rfl, upd_same, ?_⟩)
    rw [T.fl]
    simp only [RpF]
    exact ⟨fn, [], v, rfl, by simp [List.lookup], r1.up (.new hdd1), trivial⟩
end
/-! ### errors that keep nothing -/
theorem ok_x0 {P : Program} {w : World} {K : PySem.W.Frag} {mg : Str → Option Value} {base : Heap} {x qual s : Str} {params : Arguments} {scope : Scope} {kws : List (Str × V)} {f Ca : Addr} {fd : FuncData} {p1 : Pos}
    (F : FunD K x qual params [.Pass p1] scope [] kws f fd) (Sc : FnScope [s] [s] scope) : FnOk P w K mg base (L2.CX P w) 1 f fd [s] (spX0 Ca) :=
  FunD.ok F Sc (fun vs H Q E h => by obtain ⟨a, e, _⟩ := h; rw [e]; rfl) fun cdv A outer st H vs Q E hr h => ⟨_, pss_one ps_pass, by
    obtain ⟨a, e, ha, q⟩ := h
    exact q⟩
section
variable {X : Cx} {p pos pos2 : Pos}
/-- the made error is let go: the heap without it -/
theorem bare_end {pins : List (Addr × Obj)} {σ : L2.St} {H1 : Hp} {Q : XK} {hp hp2 h2 : Heap} {g1 g2 : Array GenState} {d1 d2 : Drawn} {t1 t2 : Nat} {os1 os2 : OsState} {a Ca : Addr} (T : Raises X (.ref Ca)) (I1 : Inv X pins σ H1 ⟨hp, g1, d1, t1, os1⟩) (ha : hp.objs.size ≤ a)
    (k : ∀ b o, hp.get? b = some o → hp2.get? b = some o) (un : Un (frs X.stack) [] (upd H1 a (exo a Ca none)) (upd H1 a (exo a Ca none)) hp2 h2) (hok : HOk X.prog X.w (upd H1 a (exo a Ca none)) h2) (ho : os2 = os1) (hb : AllBare g2) (q : Q (.ref Ca) none H1) : MkP X pins σ Q (.ref a) ⟨h2, g2, d2, t2, os2⟩ := by
  obtain ⟨t0, hoe⟩ := exo_at hok upd_same
  have hn : H1 a = none := I1.hok.fresh ha
  obtain ⟨Gh, gOn, gOff⟩ := restrict h2 fun b => decide (b ≠ a)
  have same : ∀ b, b ≠ a → Gh.get? b = h2.get? b := fun b z => gOn b (decide_eq_true z)
  have off : Gh.get? a = none := gOff a (by simp)
  have old : ∀ {b : Addr} {o : Obj}, hp.get? b = some o → b ≠ a := fun {b o} z => Nat.ne_of_lt (Nat.lt_of_lt_of_le (Heap.lt_size z) ha)
  have free : ∀ {b : Addr}, b ≠ a → H1 b = none → upd H1 a (exo a Ca none) b = none := fun {b} z n => (upd_ne z).trans n
  have U : Un (frs X.stack) [] H1 H1 hp Gh := ⟨fun b o z n hf hx => (same b (old z)).trans (un.keep b o (k b o z) (free (old z) n) hf hx), fun b o z n hf hx => by
    obtain ⟨sl, e⟩ := un.slot b o (k b o z) (free (old z) n) hf hx
    exact ⟨sl, (same b (old z)).trans e⟩, fun b o z n hx => n, fun b o z hx => by
    obtain ⟨o', e⟩ := un.there b o (k b o z) hx
    exact ⟨o', (same b (old z)).trans e⟩, fun _ _ z => z, fun _ _ _ z => z, fun b ps z => ⟨#[], by rw [z]; simp⟩⟩
  have hok3 : HOk X.prog X.w H1 Gh := fun b o z => by
    have hba : b ≠ a := ne_of_none z hn
    have z2 : upd H1 a (exo a Ca none) b = some o := (upd_ne hba).trans z
    have noa : ∀ {c : Addr}, upd H1 a (exo a Ca none) c = some (.own b) → c ≠ a := fun {c} hc => at_ne upd_same hc exo_own
    refine (hok b o z2).stay (fun c v hc y => ?_) (fun c hc => ?_) fun c xs hc => ?_
    · have hca : c ≠ a := by
        rcases hc with hc | hc
        · rw [hc]; exact hba
        · exact noa hc
      exact (same c hca).trans y
    · rw [upd_ne (noa hc)] at hc
      exact hc
    · rw [upd_ne (at_ne upd_same hc exo_tup)] at hc
      exact hc
  have J : Inv X pins σ H1 ⟨Gh, g2, d2, t2, os2⟩ := I1.call' (ch := []) ho U hok3 hb (fun b z => absurd z (by simp))
  refine ⟨a, _, _, ⟨Gh, g2, d2, t2, os2⟩, H1, .ref Ca, none, rfl, J, fun b o z => ?_, off, hoe, ⟨rfl, rfl⟩, rfl, rfl, hn, rfl, hb, T, q⟩
  by_cases hba : b = a
  · rw [hba] at z
    have z : Gh.get? a = some o := z
    rw [off] at z
    cases z
  · exact (same b hba).symm.trans z
theorem pmk_bare {C : Str} {Ca fI : Addr} {k : Nat} {fd : FuncData} {s : Str} (T : OexC X.K Ca) (iC : PySem.W.findIn X.K (.ref Ca) "__init__" = some (some (.ref fI))) (tI : PySem.W.typeIn X.K (.ref fI) = some (.type "function"))
    (F1 : FnOk X.prog X.w X.K X.mg X.base (L2.CX X.prog X.w) k fI fd [s] (spX0 Ca)) (hr : Room (k + 1) X.A) (hb : Binds X.K fd [s] []) (hg : Gl X C) (hm : X.mg C = some (.ref Ca)) (hdb : (C == ("__debug__" : Str)) = false := by decide) :
    PMk X (.Call (.Name C p) [] [] pos) (fun _ H Q => Q (.ref Ca) none H) := by
  intro pins st σ H Q I h
  obtain ⟨nm, q, N, bs, bm, sn, sub, ab, col, dd, k0, k1, k2, k3, k5, hC, hbm⟩ := T.cls
  refine wpAny_Call_Name_kw (ld_glob I hg hm ?_ hdb)
  refine PySem.W.callWith_K0 I.kIn T.kC ?_
  show wpAny _ _ (call (.ref Ca) []) _ _ _
  obtain ⟨hp, g, dr, tk, os⟩ := st
  have hsz : hp.objs.size ≤ hp.objs.size + 1 := Nat.le_succ _
  have kk : ∀ b o, hp.get? b = some o → ((hp.push (PySem.W.kdv_tup [])).push (PySem.HandSPX.excO Ca hp.objs.size)).get? b = some o := fun b o e => Heap.get?_push_of_some _ (Heap.get?_push_of_some _ e)
  have hget : ((hp.push (PySem.W.kdv_tup [])).push (PySem.HandSPX.excO Ca hp.objs.size)).get? (hp.objs.size + 1) = some (PySem.HandSPX.excO Ca hp.objs.size) := by heap_get
  have J : Inv X pins σ (upd H (hp.objs.size + 1) (exo (hp.objs.size + 1) Ca none)) ⟨(hp.push (PySem.W.kdv_tup [])).push (PySem.HandSPX.excO Ca hp.objs.size), g, dr, tk, os⟩ := I.laid (t' := tk) kk hsz (exo_ok hget)
  have hbb := hb ⟨(hp.push (PySem.W.kdv_tup [])).push (PySem.HandSPX.excO Ca hp.objs.size), g, dr, tk, os⟩ [Value.ref (hp.objs.size + 1)] J.kIn rfl
  have go := F1.run _ X.stack _ _ ⟨[Value.ref (hp.objs.size + 1)], []⟩ _ [V.ref (hp.objs.size + 1)] (fun v H2 => v = .non ∧ H2 = upd H (hp.objs.size + 1) (exo (hp.objs.size + 1) Ca none)) (fun _ _ _ => False) (hr.make Ca [] []) (J.env0.make Ca [] []) hbb (.cons rfl .nil) ⟨_, rfl, upd_same, rfl, rfl⟩
  refine wpAny_call (PySem.HandSPX.call_own F.excBase_ValueError (fun Y => PySem.HandSPX.refsVE_contains Y bm hbm) (I.kIn _ _ hC) (PySem.W.looks_findIn I.kIn iC) (fun self => PySem.W.bind_fn I.kIn self tI) (Nat.zero_le _) (codeAny_mono go fun r s' hq => ?_))
  match r, hq with
  | .error er, hq =>
    obtain ⟨_, _, _, _, _, _, _, _, _, _, _, _, z⟩ := hq
    exact z.elim
  | .ok (.ret u), hq =>
    obtain ⟨v, H2, os2, bare2, un2, hok2, rv, ev, eH⟩ := hq
    subst ev
    subst eH
    obtain ⟨h2, g2, d2, t2, os'⟩ := s'
    exact ⟨rv, bare_end (raises_own T.exC T.tyC) I hsz kk un2 hok2 os2 bare2 h⟩
theorem qs_raise0 {Γ : G} {W : WX} {C : Str} {k : Nat} (hK : X.K = Γ.K) (T : X0 Γ X.prog X.w X.mg X.base C) (hc : X.calm = true) (tk : Takes X W) (hr : Room k X.A) (hk : 2 ≤ k) (hg : Gl X C := by rfl) (hdb : (C == ("__debug__" : Str)) = false := by decide) :
    PS X (.Raise (some (.Call (.Name C p) [] [] pos)) none pos2) (tS Γ W (mRaise0 C)) := by
  obtain ⟨fI, fd, s, i1, i2, i3, i4⟩ := T.ini
  exact PS.imp (ps_raise hc tk (pmk_bare (Ca := Γ.c C) (T := by rw [hK]; exact T.oex) (by rw [hK]; exact i1) (by rw [hK]; exact i2) (by rw [hK]; exact i3) (hr.mono (show 1 + 1 ≤ k by omega)) (by rw [hK]; exact i4) hg T.gl hdb)) fun D σ H ⟨env, S, f, rs, re, h⟩ => h f σ H none .refl rs re (.inl ⟨rfl, rfl⟩)
end
section
variable {Γ Γ' : G} {f f' : List Addr} {H H' : Hp} {S : Store}
theorem Keep.sim (s : Sim Γ Γ') (k : Keep Γ H H') : Keep Γ' H H' := ⟨k.tup, k.frz, k.xd, fun C a dx fs h => by
  obtain ⟨fs', h1, h2, h3⟩ := k.ins C a dx fs h
  exact ⟨fs', h1, h2, by rw [← s.af]; exact h3⟩⟩
theorem Up.sim (s : Sim Γ Γ') (u : Up Γ f H f' H') : Up Γ' f H f' H' := ⟨u.pre, u.keep.sim s⟩
theorem ROb.sim (s : Sim Γ Γ') {o : Ob} {a : Addr} (h : ROb Γ f H o a) : ROb Γ' f H o a := by
  cases o with
  | lst ds => obtain ⟨vs, h1, h2⟩ := h; exact ⟨vs, h1, h2.sim s⟩
  | dk ds => obtain ⟨vs, h1, h3, h2⟩ := h; exact ⟨vs, h1, h3, h2.sim s⟩
  | dt ds => obtain ⟨w, xs, us, h1, h2⟩ := h; exact ⟨w, xs, us, h1, ⟨s.w ▸ h2.w, h2.ks.sim s, h2.vs.sim s, h2.rv, h2.nk, h2.dp⟩⟩
  | obj C ds =>
    obtain ⟨dx, vs, h1, h2, h3⟩ := h
    exact ⟨dx, vs, by rw [← s.c]; exact h1, by rw [← s.flds]; exact h2.sim s, by rw [← s.flds]; exact h3⟩
  | gone => exact h
theorem XRep.sim (s : Sim Γ Γ') {C : Str} {ds : List D} {o : Option Addr} (h : XRep Γ f H C ds o) : XRep Γ' f H C ds o := by
  rcases h with h | ⟨dd, fvs, e1, e2, r⟩
  · exact .inl h
  · exact .inr ⟨dd, fvs, e1, e2, by rw [← s.xfl]; exact r.sim s⟩
theorem RelS.sim (s : Sim Γ Γ') (r : RelS Γ f S H) (hx : ∀ a i C ds o, Γ'.xc = some (a, i, C, ds, o) → XRep Γ' f H C ds o) : RelS Γ' f S H := ⟨r.len, r.nd, fun n o e => by
  obtain ⟨a, h1, h2⟩ := r.ob n o e
  exact ⟨a, h1, h2.sim s⟩, hx⟩
theorem RelE.sim (s : Sim Γ Γ') {env : Env} {σ : L2.St} (r : RelE Γ f H env σ) (hx : ∀ a i C ds o, Γ'.xc = some (a, i, C, ds, o) → env[i]? = some none → σ[i]? = some (some (.ref a))) : RelE Γ' f H env σ := ⟨r.1, fun i d e => by
  obtain ⟨v, h1, h2⟩ := r.2.1 i d e
  exact ⟨v, h1, h2.sim s⟩, hx⟩
end
theorem sim_at (Γ : G) (a : Addr) (i : Nat) (C : Str) (ds : List D) (o : Option Addr) : Sim Γ (Γ.at_ a i C ds o) := ⟨rfl, rfl, rfl, rfl, rfl, rfl⟩
theorem sim_un (Γ : G) (a : Addr) (i : Nat) (C : Str) (ds : List D) (o : Option Addr) : Sim (Γ.at_ a i C ds o) Γ := ⟨rfl, rfl, rfl, rfl, rfl, rfl⟩
/-! ### try .. except C as n -/
def endAs (i : Nat) : RS → RS
  | .nx e S => .nx (e.set i none) S
  | .bk e S => .bk (e.set i none) S
  | .ct e S => .ct (e.set i none) S
  | .rt d S => .rt d S
  | _ => .bad
def mTryAs (sb : Str → Option Bool) (i : Nat) (mb : MS) (ms : Str → List D → MS) : MS := fun env S => match mb env S with
  | .ex C ds e S1 => (match sb C with
    | some true => endAs i (ms C ds (e.set i none) S1)
    | some false => .ex C ds e S1
    | none => .bad)
  | r => r
section
variable {Γ : G} {W : WX} {X : Cx} {C n : Str} {i : Nat} {body suite : List Stmt} {b₀ : Stmt} {np pos pos' : Pos} {mb : MS} {ms : Str → List D → MS} {sb : Str → Option Bool}
theorem qs_tryAs (hK : X.K = Γ.K) (hx0 : Γ.xc = none) (hsb : ∀ E b, sb E = some b → PySem.W.exmOne Γ.K (.ref (Γ.c E)) (.ref (Γ.c C)) = some b) (hs : X.stack = X.env :: X.outer) (hf : X.env.frame = some X.env.locals) (hN : X.N.Nodup) (hi : X.N[i]? = some n) (hln : X.env.kindOf n = some .local)
    (hc : Names X C (.ref (Γ.c C))) (tk : Takes X W) (hb : ∀ (W' : WX) (pn : List (Addr × Obj)) (xe : Value → Shared → Prop), Takes (X.tr pn xe) W' → PassesOwn (model X.prog X.w) X.A X.env xe → PSs (X.tr pn xe) body (tS Γ W' mb))
    (hsu : ∀ (a : Addr) (oe : Obj) (E : Str) (ds : List D) (d : Option Addr) (pn : List (Addr × Obj)), Zc (.ref (Γ.c E)) d oe → (∃ vs, oe.data = .fields vs) → PSs (X.suite a ((a, oe) :: pn)) (b₀ :: suite) (tS (Γ.at_ a i E ds d) Wno (ms E ds))) :
    PS X (.Try body [.ExceptHandler (some (.Name C np)) (some n) (b₀ :: suite) pos'] [] [] pos) (tS Γ W (mTryAs sb i mb ms)) := by
  refine PS.imp (ps_try_as (Wout := W) (tb := fun W' => tS Γ W' mb) (ts := fun a cls d => fun E σ H => ∃ p : Str × List D, cls = .ref (Γ.c p.1) ∧ tS (Γ.at_ a i p.1 p.2 d) Wno (ms p.1 p.2) E σ H) hs hf hN hi hln hc tk hb fun a oe cls d pn hz hd => PSs.some fun p e => by
    subst e
    exact hsu a oe p.1 p.2 d pn hz hd) fun D σ H ⟨env, S, f, rs, re, h⟩ => ⟨env, S, f, rs, re, ?_⟩
  unfold mTryAs at h
  revert h
  cases mb env S with
  | ex C' ds e S1 =>
    dsimp only
    intro h f1 σ1 H1 o u1 rs1 re1 xr
    cases q : sb C' with
    | none => rw [q] at h; exact h.elim
    | some b =>
      rw [q] at h
      refine ⟨b, by rw [hK]; exact hsb C' b q, fun eb a ha => ?_, fun eb => ?_⟩
      · subst eb
        refine ⟨(C', ds), rfl, e.set i none, S1, f1, rs1.sim (sim_at ..) ?_, (re1.miss hx0 i (some (.ref a))).sim (sim_at ..) ?_, ?_⟩
        · intro a' i2 C2 ds2 o2 e2
          cases e2
          exact xr.sim (sim_at ..)
        · intro a' i2 C2 ds2 o2 e2 q2
          cases e2
          have hl : i < σ1.length := by
            rw [← re1.1]
            have := (List.getElem?_eq_some_iff.mp q2).1
            rwa [List.length_set] at this
          exact List.getElem?_set_self hl
        · have h : WpS Γ W f H D (endAs i (ms C' ds (e.set i none) S1)) := h
          have un : ∀ {f2 : List Addr} {H2 : Hp} {S2 : Store}, RelS (Γ.at_ a i C' ds o) f2 S2 H2 → RelS Γ f2 S2 H2 := fun r => r.sim (sim_un ..) fun a i C ds o e => by
            rw [hx0] at e
            cases e
          have ne : ∀ {f2 : List Addr} {H2 : Hp} {e2 : Env} {σ2 : L2.St}, RelE (Γ.at_ a i C' ds o) f2 H2 e2 σ2 → RelE Γ f2 H2 e2 σ2 := fun r => r.sim (sim_un ..) fun a i C ds o e => by
            rw [hx0] at e
            cases e
          revert h
          cases ms C' ds (e.set i none) S1 with
          | nx e2 S2 => exact fun h f2 σ2 H2 u2 rs2 re2 => h f2 _ H2 (u1.trans (u2.sim (sim_un ..))) (un rs2) ((ne re2).miss hx0 i none)
          | bk e2 S2 => exact fun h f2 σ2 H2 u2 rs2 re2 => h f2 _ H2 (u1.trans (u2.sim (sim_un ..))) (un rs2) ((ne re2).miss hx0 i none)
          | ct e2 S2 => exact fun h f2 σ2 H2 u2 rs2 re2 => h f2 _ H2 (u1.trans (u2.sim (sim_un ..))) (un rs2) ((ne re2).miss hx0 i none)
          | rt d S2 => exact fun h f2 H2 v u2 rs2 r2 => h f2 H2 v (u1.trans (u2.sim (sim_un ..))) (un rs2) (r2.sim (sim_un ..))
          | ex C2 ds2 e2 S2 => exact fun h => h.elim
          | bad => exact fun h => h.elim
      · subst eb
        exact h f1 σ1 H1 o u1 rs1 re1 xr
  | nx e S1 => exact fun h => h
  | bk e S1 => exact fun h => h
  | ct e S1 => exact fun h => h
  | rt d S1 => exact fun h => h
  | bad => exact fun h => h
end
end Lk

set_option Elab.async false
set_option linter.all false
set_option autoImplicit false
set_option maxRecDepth 100000
set_option maxHeartbeats 2000000
namespace Lk
open PySem PySem.Spec PyProof.Rows L2

/-! ### several readings of one operation -/
theorem OpR.or {X : Cx} {f : Value → Value → Sem Value} {r r' : R2} (h : OpR X f r) (h' : OpR X f r') : OpR X f (fun x y H Q => r x y H Q ∨ r' x y H Q) := fun pins s σ H x y v u Q I rx ry z => z.elim (h pins s σ H x y v u Q I rx ry) (h' pins s σ H x y v u Q I rx ry)
theorem CallR.or {X : Cx} {f : Value} {r r' : List V → Hp → VK → Prop} (h : CallR X f r) (h' : CallR X f r') : CallR X f (fun x H Q => r x H Q ∨ r' x H Q) := fun pins s σ H x v Q I rx z => z.elim (h pins s σ H x v Q I rx) (h' pins s σ H x v Q I rx)
section
variable {Γ : G} {W : WX} {X : Cx} {f : List Addr} {H : Hp} {S : Store}
theorem Rp.ofInt {i : Int} : Rp Γ f H (.int i) (.int i) := by simp only [Rp]
theorem Rp.ofBl {i : Bool} : Rp Γ f H (.bl i) (.bl i) := by simp only [Rp]
theorem Rp.ofNon : Rp Γ f H .non .non := by simp only [Rp]
theorem RpL.append : ∀ {ds es : List D} {vs us : List V}, RpL Γ f H ds vs → RpL Γ f H es us → RpL Γ f H (ds ++ es) (vs ++ us)
  | [], _, _, _, r, q => by
    simp only [RpL] at r
    subst r
    exact q
  | d :: ds, _, _, _, r, q => by
    simp only [RpL] at r
    obtain ⟨v, vr, e, r1, r2⟩ := r
    subst e
    simp only [List.cons_append, RpL]
    exact ⟨v, _, rfl, r1, RpL.append r2 q⟩
theorem RpL.drop' : ∀ {ds : List D} {vs : List V} (n : Nat), RpL Γ f H ds vs → RpL Γ f H (ds.drop n) (vs.drop n)
  | _, _, 0, r => r
  | [], _, n + 1, r => by
    simp only [RpL] at r
    subst r
    simp only [List.drop_nil, RpL]
  | d :: ds, _, n + 1, r => by
    simp only [RpL] at r
    obtain ⟨v, vr, e, r1, r2⟩ := r
    subst e
    exact RpL.drop' n r2
theorem RpL.take' : ∀ {ds : List D} {vs : List V} (n : Nat), RpL Γ f H ds vs → RpL Γ f H (ds.take n) (vs.take n)
  | _, _, 0, r => by simp only [List.take_zero, RpL]
  | [], _, n + 1, r => by
    simp only [RpL] at r
    subst r
    simp only [List.take_nil, RpL]
  | d :: ds, _, n + 1, r => by
    simp only [RpL] at r
    obtain ⟨v, vr, e, r1, r2⟩ := r
    subst e
    simp only [List.take_succ_cons, RpL]
    exact ⟨v, _, rfl, r1, RpL.take' n r2⟩
/-! ### + - * // % ** -/
def rAddX (K : PySem.W.Frag) : R2 := fun x y H Q => rI0 (fun i j => .int (i + j)) x y H Q ∨ (rCatA K x y H Q ∨ rCat x y H Q)
theorem or_add : OpR X (binaryOp .Add) (rAddX X.K) := OpR.or op_add (OpR.or op_catA op_cat)
theorem ok_add : OpOk Γ (rAddX Γ.K) gAdd := fun W σ f S H x y v u Q rs rx ry h => by
  unfold gAdd at h
  split at h
  · rename_i i j
    exact .inl ⟨i, j, rx.int, ry.int, h f H _ .refl rs Rp.ofInt⟩
  · rename_i a b
    split at h
    · rename_i hl
      obtain ⟨p, ps, e1, s1, r1⟩ := rx.tup
      obtain ⟨q, qs, e2, s2, r2⟩ := ry.tup
      refine .inr (.inl ⟨p, q, ps, qs, e1, e2, s1, s2, by rw [← r1.length, ← r2.length, lim_eq]; exact hl, fun e => ?_, fun _ e => ?_, fun _ _ z hz => ?_⟩)
      · subst e
        have ea : a = [] := List.length_eq_zero_iff.mp r1.length
        subst ea
        exact h f H _ .refl rs (Rp.tupI s2 r2)
      · subst e
        have eb : b = [] := List.length_eq_zero_iff.mp r2.length
        subst eb
        rw [List.append_nil] at h
        exact h f H _ .refl rs (Rp.tupI s1 r1)
      · exact h f _ _ (.new hz) (rs.newT hz) (Rp.tupI (SqT.of upd_same) ((r1.append r2).up (.new hz)))
    · exact h.elim
  · rename_i n m
    split at h
    · rename_i a b hn hm
      split at h
      · rename_i hl
        obtain ⟨p, ps, _, e1, s1, r1⟩ := rs.lst hn rx
        obtain ⟨q, qs, _, e2, s2, r2⟩ := rs.lst hm ry
        refine .inr (.inr ⟨p, q, ps, qs, e1, e2, s1, s2, by rw [← r1.length, ← r2.length, lim_eq]; exact hl, fun z hz => ?_⟩)
        exact h (f ++ [z]) _ _ (.alloc hz) (rs.alloc hz ⟨_, upd_same, (r1.append r2).up (.alloc hz)⟩) (Rp.refI (by rw [← rs.len]; simp))
      · exact h.elim
    · exact h.elim
  · exact h.elim
theorem ok_sub : OpOk Γ (rI0 fun i j => .int (i - j)) gSub := fun W σ f S H x y v u Q rs rx ry h => by
  unfold gSub at h
  split at h
  · rename_i i j
    exact ⟨i, j, rx.int, ry.int, h f H _ .refl rs Rp.ofInt⟩
  · exact h.elim
theorem fdv_eq {i j : Int} (h : j ≠ 0) : i.fdiv j = fdv i j := by
  unfold fdv
  split
  · exact Int.fdiv_eq_ediv_of_nonneg i (by omega)
  · rw [← Int.neg_fdiv_neg]
    exact Int.fdiv_eq_ediv_of_nonneg _ (by omega)
theorem fmd_eq {i j : Int} (h : j ≠ 0) : i.fmod j = fmd i j := by
  unfold fmd
  split
  · exact Int.fmod_eq_emod_of_nonneg i (by omega)
  · have h1 := Int.fmod_eq_emod_of_nonneg (-i) (b := -j) (by omega)
    rw [← h1]
    have h2 := Int.mul_fdiv_add_fmod i j
    have h3 := Int.mul_fdiv_add_fmod (-i) (-j)
    rw [Int.neg_fdiv_neg, Int.neg_mul] at h3
    omega
def CDivA (_ j : Int) : Prop := j ≠ 0 ∧ j.natAbs.log2 < 9000
theorem op_fdivA {X : Cx} : OpR X (binaryOp .FloorDiv) (rI CDivA fun i j => .int (i.fdiv j)) := opI fun _ _ _ _ _ _ _ hc q => floordiv_int hc.1 q (.inl (PyProof.noPylong_of_log2 hc.2))
theorem ok_div : OpOk Γ (rI CDivA fun i j => .int (i.fdiv j)) gDiv := fun W σ f S H x y v u Q rs rx ry h => by
  unfold gDiv at h
  split at h
  · rename_i i j
    split at h
    · rename_i c
      refine ⟨i, j, rx.int, ry.int, c, ?_⟩
      show Q (.int (i.fdiv j)) H
      rw [fdv_eq c.1]
      exact h f H _ .refl rs Rp.ofInt
    · exact h.elim
  · exact h.elim
theorem ok_mod : OpOk Γ (rI (fun _ j => j ≠ 0) fun i j => .int (i.fmod j)) gMod := fun W σ f S H x y v u Q rs rx ry h => by
  unfold gMod at h
  split at h
  · rename_i i j
    split at h
    · rename_i c
      refine ⟨i, j, rx.int, ry.int, c, ?_⟩
      show Q (.int (i.fmod j)) H
      rw [fmd_eq c]
      exact h f H _ .refl rs Rp.ofInt
    · exact h.elim
  · exact h.elim
def gPow : D → D → Store → R D
  | .int i, .int j, S => if 0 ≤ j ∧ j ≤ 1000000 ∧ i.natAbs < 2 ^ 64 then .ok (.int (i ^ j.toNat)) S else .bad
  | _, _, _ => .bad
theorem ok_pow : OpOk Γ (rI CPow fun i j => .int (i ^ j.toNat)) gPow := fun W σ f S H x y v u Q rs rx ry h => by
  unfold gPow at h
  split at h
  · rename_i i j
    split at h
    · rename_i c
      exact ⟨i, j, rx.int, ry.int, c, h f H _ .refl rs Rp.ofInt⟩
    · exact h.elim
  · exact h.elim
def rMulX : R2 := fun x y H Q => rI CMulW (fun i j => .int (i * j)) x y H Q ∨ rRep x y H Q
theorem or_mul : OpR X (binaryOp .Mult) rMulX := OpR.or op_mulW op_rep
theorem RpL.rep {ds : List D} {vs : List V} (r : RpL Γ f H ds vs) : ∀ n : Nat, RpL Γ f H (List.replicate n ds).flatten (List.replicate n vs).flatten
  | 0 => by simp only [List.replicate_zero, List.flatten_nil, RpL]
  | n + 1 => by
    rw [List.replicate_succ, List.replicate_succ, List.flatten_cons, List.flatten_cons]
    exact r.append (RpL.rep r n)
theorem ok_mul : OpOk Γ rMulX gMul := fun W σ f S H x y v u Q rs rx ry h => by
  unfold gMul at h
  split at h
  · rename_i i j
    split at h
    · rename_i c
      exact .inl ⟨i, j, rx.int, ry.int, c, h f H _ .refl rs Rp.ofInt⟩
    · exact h.elim
  · rename_i n k
    split at h
    · rename_i a hn
      split at h
      · rename_i c
        obtain ⟨p, ps, _, e1, s1, r1⟩ := rs.lst hn rx
        refine .inr ⟨p, k, ps, e1, ry.int, s1, c.1, c.2.1, by rw [← r1.length, lim_eq]; exact c.2.2, fun z hz => ?_⟩
        exact h (f ++ [z]) _ _ (.alloc hz) (rs.alloc hz ⟨_, upd_same, (r1.rep k.toNat).up (.alloc hz)⟩) (Rp.refI (by rw [← rs.len]; simp))
      · exact h.elim
    · exact h.elim
  · exact h.elim
theorem ok_neg : UnOk Γ (rU fun i => .int (-i)) gNeg := fun W σ f S H x v Q rs rx h => by
  unfold gNeg at h
  split at h
  · rename_i i
    exact ⟨i, rx.int, h f H _ .refl rs Rp.ofInt⟩
  · exact h.elim
/-! ### order, None -/
theorem ok_cmp {p : Int → Int → Bool} : OpOk Γ (rI0 fun i j => .bl (p i j)) (gCmp p) := fun W σ f S H x y v u Q rs rx ry h => by
  unfold gCmp at h
  split at h
  · rename_i i j
    exact ⟨i, j, rx.int, ry.int, h f H _ .refl rs Rp.ofBl⟩
  · exact h.elim
theorem Rp.isNon {d : D} {v : V} (h : Rp Γ f H d v) : decide (v = .non) = isNonD d := by
  cases d with
  | non => rw [h.non]; rfl
  | bl b => rw [h.bl]; rfl
  | int b => rw [h.int]; rfl
  | str b => rw [h.str]; rfl
  | tup b => obtain ⟨a, vs, e, _⟩ := h.tup; rw [e]; rfl
  | rol b => obtain ⟨a, vs, e, _⟩ := h.rol; rw [e]; rfl
  | ref b => obtain ⟨a, _, e⟩ := h.ref; rw [e]; rfl
  | ins C ds =>
    simp only [Rp] at h
    obtain ⟨a, dx, fvs, e, _⟩ := h
    rw [e]
    rfl
theorem ok_isN : OpOk Γ (fun x y H Q => y = .non ∧ Q (.bl (decide (x = .non))) H) gIsN := fun W σ f S H x y v u Q rs rx ry h => by
  unfold gIsN at h
  split at h
  · refine ⟨ry.non, ?_⟩
    rw [rx.isNon]
    exact h f H _ .refl rs Rp.ofBl
  · exact h.elim
theorem ok_notN : OpOk Γ (fun x y H Q => y = .non ∧ Q (.bl (!decide (x = .non))) H) gNotN := fun W σ f S H x y v u Q rs rx ry h => by
  unfold gNotN at h
  split at h
  · refine ⟨ry.non, ?_⟩
    rw [rx.isNon]
    exact h f H _ .refl rs Rp.ofBl
  · exact h.elim
/-! ### items, slices -/
theorem ix_at {ds : List D} {vs : List V} {i : Int} {d : D} (r : RpL Γ f H ds vs) (h : atI ds i = some d) : ∃ v, atI vs i = some v ∧ Rp Γ f H d v := by
  unfold atI at h ⊢
  rw [← r.length]
  cases q : ixN ds.length i with
  | none => rw [q] at h; cases h
  | some j =>
    rw [q] at h
    exact RpL.get r h
theorem listOf_ok {d : D} {v : V} {ds : List D} (rs : RelS Γ f S H) (r : Rp Γ f H d v) (h : listOf S d = some ds) : ∃ a vs, v = .ref a ∧ RpL Γ f H ds vs ∧ ((SqT Γ.K H a vs ∧ d = .tup ds) ∨ (SqL Γ.K H a vs ∧ ∀ es, d ≠ .tup es)) := by
  cases d with
  | tup es =>
    have e : es = ds := Option.some.inj h
    subst e
    obtain ⟨a, vs, e, s, r⟩ := r.tup
    exact ⟨a, vs, e, r, .inl ⟨s, rfl⟩⟩
  | rol es =>
    have e : es = ds := Option.some.inj h
    subst e
    obtain ⟨a, vs, e, s, r⟩ := r.rol
    exact ⟨a, vs, e, r, .inr ⟨s.1, fun _ z => by cases z⟩⟩
  | ref n =>
    have h : (match S[n]? with
      | some (.lst ds) => some ds
      | _ => none) = some ds := h
    split at h
    · rename_i es hn
      cases h
      obtain ⟨a, vs, _, e, hh, rv⟩ := rs.lst hn r
      exact ⟨a, vs, e, rv, .inr ⟨SqL.of hh, fun _ z => by cases z⟩⟩
    · cases h
  | _ => cases h
theorem ok_ix : OpOk Γ (rIx Γ.K) gIx := fun W σ f S H x y v u Q rs rx ry h => by
  unfold gIx at h
  split at h
  · rename_i i
    split at h
    · rename_i ds hds
      split at h
      · rename_i d hd
        obtain ⟨a, vs, e, r, s⟩ := listOf_ok rs rx hds
        obtain ⟨w, hw, rw'⟩ := ix_at r hd
        rcases s with ⟨s, _⟩ | ⟨s, _⟩
        · exact .inr (.inl ⟨a, vs, i, w, e, ry.int, s, hw, h f H _ .refl rs rw'⟩)
        · exact .inl ⟨a, vs, i, w, e, ry.int, s, hw, h f H _ .refl rs rw'⟩
      · exact h.elim
    · exact h.elim
  · exact h.elim
def tO (Γ : G) (W : WX) (m : Env → Store → R (Option Int)) : TO := fun σ H Q => ∃ env S f, RelS Γ f S H ∧ RelE Γ f H env σ ∧ Wp Γ W σ f H (fun _ _ a b => a = b) Q (m env S)
theorem PO.imp {e : Option Expr} {t t' : TO} (h : PO X e t) (i : ∀ σ H Q, t' σ H Q → t σ H Q) : PO X e t' := ⟨fun pins s σ H Q I q => h.run pins s σ H Q I (i σ H Q q)⟩
theorem qo_none : PO X none (tO Γ W (toO none)) := PO.imp po_none fun σ H Q ⟨env, S, f, rs, re, h⟩ => h f H none .refl rs rfl
theorem qo_some {e : Expr} {m : ME} (h : PE X e (tE Γ W m)) : PO X (some e) (tO Γ W (toO (some m))) := PO.imp (po_some h) fun σ H Q ⟨env, S, f, rs, re, h⟩ => ⟨env, S, f, rs, re, Wp.bindL h fun d S1 f1 H1 v u1 rs1 r1 h1 => by
  cases d with
  | int i => exact ⟨i, r1.int, h1 f1 H1 _ .refl rs1 rfl⟩
  | _ => exact h1.elim⟩
theorem SlR.or {r r' : V → Option Int → Option Int → Hp → VK → Prop} (h : SlR X r) (h' : SlR X r') : SlR X (fun x l u H Q => r x l u H Q ∨ r' x l u H Q) := fun pins s σ H x v vl vu lo hi sl Q I rx hs pl pu z => z.elim (h pins s σ H x v vl vu lo hi sl Q I rx hs pl pu) (h' pins s σ H x v vl vu lo hi sl Q I rx hs pl pu)
theorem RpL.cut' {ds : List D} {vs : List V} {lo hi : Option Int} (r : RpL Γ f H ds vs) : RpL Γ f H (cutD ds lo hi) (cutV vs lo hi) := by
  unfold cutD cutV
  rw [r.length]
  exact (r.drop' _).take' _
theorem q_sl {e : Expr} {lo hi : Option Expr} {ma : ME} {ml mh : Option ME} {p2 pos : Pos} (hK : X.K = Γ.K) (he : PE X e (tE Γ W ma)) (hl : PO X lo (tO Γ W (toO ml))) (hu : PO X hi (tO Γ W (toO mh))) : PE X (.Subscript e (.Slice lo hi none p2) pos) (tE Γ W (mSl ma ml mh)) :=
  PE.imp (pe_slice (SlR.or sl_list sl_tupA) he hl hu) fun σ H Q ⟨env, S, f, rs, re, h⟩ => ⟨env, S, f, rs, re, Wp.bindL h fun d S1 f1 H1 v u1 rs1 r1 h1 => ⟨env, S1, f1, rs1, re.up u1, Wp.bindL h1 fun l S2 f2 H2 l' u2 rs2 r2 h2 => ⟨env, S2, f2, rs2, (re.up u1).up u2, Wp.bindL h2 fun m S3 f3 H3 m' u3 rs3 r3 h3 => by
    subst r2
    subst r3
    have rd := r1.up (u2.trans u3)
    unfold gSl at h3
    split at h3
    · rename_i ds hds
      obtain ⟨a, vs, ev, rv, s⟩ := listOf_ok rs3 rd hds
      rcases s with ⟨s, ed⟩ | ⟨s, ed⟩
      · subst ed
        refine .inr ⟨a, vs, ev, by rw [hK]; exact s, fun c => ?_, fun _ p hp => ?_⟩
        · have ec : cutD ds l m = ds := by
            unfold cutD
            rw [rv.length, c.1, c.2]
            simp [← rv.length]
          have h3 : Wp Γ W σ f3 H3 (Rp Γ) Q (.ok (.tup (cutD ds l m)) S3) := h3
          rw [ec] at h3
          exact h3 f3 H3 _ .refl rs3 (Rp.tupI s rv)
        · exact h3 f3 _ _ (.new hp) (rs3.newT hp) (Rp.tupI (SqT.of upd_same) (rv.cut'.up (.new hp)))
      · refine .inl ⟨a, vs, ev, by rw [hK]; exact s, fun p hp => ?_⟩
        have h4 : Wp Γ W σ f3 H3 (Rp Γ) Q (.ok (.ref S3.length) (S3 ++ [.lst (cutD ds l m)])) := by
          revert h3
          cases d with
          | tup es => exact fun _ => absurd rfl (ed es)
          | _ => exact fun h => h
        exact h4 (f3 ++ [p]) _ _ (.alloc hp) (rs3.alloc hp ⟨_, upd_same, rv.cut'.up (.alloc hp)⟩) (Rp.refI (by rw [← rs3.len]; simp))
    · exact h3.elim⟩⟩⟩
/-! ### stores into lists -/
def GP (Γ : G) (f : List Addr) (H : Hp) (Q : L2.St → Hp → Prop) : R Env → Prop
  | .ok e S' => ∀ f' σ' H', Up Γ f H f' H' → RelS Γ f' S' H' → RelE Γ f' H' e σ' → Q σ' H'
  | _ => False
theorem GP.mono {f' : List Addr} {H' : Hp} {Q : L2.St → Hp → Prop} {r : R Env} (u : Up Γ f H f' H') (h : GP Γ f H Q r) : GP Γ f' H' Q r := by
  cases r with
  | ok e S' => exact fun f2 σ2 H2 u2 => h f2 σ2 H2 (u.trans u2)
  | _ => exact h
theorem RpL.set' : ∀ {ds : List D} {vs : List V} {d : D} {v : V} (j : Nat), RpL Γ f H ds vs → Rp Γ f H d v → RpL Γ f H (ds.set j d) (vs.set j v)
  | [], _, _, _, j, r, q => by
    simp only [RpL] at r
    subst r
    simp only [List.set_nil, RpL]
  | x :: xs, _, d, v, 0, r, q => by
    simp only [RpL] at r
    obtain ⟨w, vr, e, r1, r2⟩ := r
    subst e
    simp only [List.set_cons_zero, RpL]
    exact ⟨v, vr, rfl, q, r2⟩
  | x :: xs, _, d, v, j + 1, r, q => by
    simp only [RpL] at r
    obtain ⟨w, vr, e, r1, r2⟩ := r
    subst e
    simp only [List.set_cons_succ, RpL]
    exact ⟨w, _, rfl, r1, RpL.set' j r2 q⟩
theorem Wp.bindG {α β : Type} {σ : L2.St} {rep : List Addr → Hp → α → β → Prop} {Q : L2.St → Hp → Prop} {Q1 : β → Hp → Prop} {r : R α} {k : α → Store → R Env} (h : GP Γ f H Q (r.bind k))
    (hk : ∀ a S1 f1 H1 b, Up Γ f H f1 H1 → RelS Γ f1 S1 H1 → rep f1 H1 a b → GP Γ f1 H1 Q (k a S1) → Q1 b H1) : Wp Γ W σ f H rep Q1 r := by
  cases r with
  | ok a S1 => exact fun f1 H1 b u1 r1 p => hk a S1 f1 H1 b u1 r1 p (GP.mono u1 h)
  | ex C ds S1 => exact h.elim
  | bad => exact h.elim
theorem qg_sub {o i : Expr} {mo mi : ME} {pos : Pos} (ho : PE X o (tE Γ W mo)) (hi : PE X i (tE Γ W mi)) (ha : ∀ v, assign (.Subscript o i pos) X.env v = (do
      let ov ← holding [v] (eval o X.env)
      let iv ← holding [v, ov] (eval i X.env)
      standAt pos
      holding [v, ov, iv] (setItem ov iv v)
      release [v, ov, iv] []) := by intro _; rfl) : PG X (.Subscript o i pos) (tG Γ (gSub' mo mi)) := by
  refine PG.imp (pg_sub ho hi set_list ha) fun v σ H Q ⟨d, env, S, f, rs, re, r, h⟩ => ?_
  have h : GP Γ f H Q (gSub' mo mi d env S) := by
    revert h
    cases gSub' mo mi d env S with
    | ok e S' => exact fun h => h
    | _ => exact fun h => h
  refine ⟨env, S, f, rs, re, Wp.bindG h fun x S1 f1 H1 vx u1 rs1 r1 h1 => ⟨env, S1, f1, rs1, re.up u1, Wp.bindG h1 fun y S2 f2 H2 vy u2 rs2 r2 h2 => ?_⟩⟩
  unfold stIx at h2
  split at h2
  · rename_i n k
    split at h2
    · rename_i ds hn
      split at h2
      · rename_i j hj
        obtain ⟨a, vs, ha, e, hh, rv⟩ := rs2.lst hn (r1.up u2)
        have uc : Up Γ f2 H2 f2 (upd H2 a (.lst (vs.set j v))) := .chg hh trivial
        exact ⟨a, vs, k, j, e, r2.int, hh, by rw [← rv.length]; exact hj, h2 f2 σ _ uc (rs2.set ha (.chg hh trivial) ⟨_, upd_same, (rv.set' j (r.up (u1.trans u2))).up uc⟩) (re.up (u1.trans (u2.trans uc)))⟩
      · exact h2.elim
    · exact h2.elim
  · exact h2.elim
end
end Lk

set_option Elab.async false
set_option linter.all false
set_option autoImplicit false
set_option maxRecDepth 100000
set_option maxHeartbeats 2000000
namespace Lk
open PySem PySem.Spec PyProof.Rows L2

section
variable {Γ : G} {W : WX} {X : Cx} {f : List Addr} {H : Hp} {S : Store}
/-! ### built-ins -/
theorem dInts_ok : ∀ {ds : List D} {is : List Int} {vs : List V}, dInts ds = some is → RpL Γ f H ds vs → vs = is.map V.int
  | [], is, vs, h, r => by
    simp only [RpL] at r
    cases h
    exact r
  | .int i :: ds, is, vs, h, r => by
    simp only [RpL] at r
    obtain ⟨v, vr, e, r1, r2⟩ := r
    have h : (dInts ds).map (i :: ·) = some is := h
    cases q : dInts ds with
    | none => rw [q] at h; cases h
    | some js =>
      rw [q] at h
      cases h
      rw [e, r1.int, dInts_ok q r2]
      rfl
  | .non :: _, _, _, h, _ => by cases h
  | .bl _ :: _, _, _, h, _ => by cases h
  | .str _ :: _, _, _, h, _ => by cases h
  | .tup _ :: _, _, _, h, _ => by cases h
  | .rol _ :: _, _, _, h, _ => by cases h
  | .ref _ :: _, _, _, h, _ => by cases h
  | .ins _ _ :: _, _, _, h, _ => by cases h
theorem dBools_ok : ∀ {ds : List D} {is : List Bool} {vs : List V}, dBools ds = some is → RpL Γ f H ds vs → vs = is.map V.bl
  | [], is, vs, h, r => by
    simp only [RpL] at r
    cases h
    exact r
  | .bl i :: ds, is, vs, h, r => by
    simp only [RpL] at r
    obtain ⟨v, vr, e, r1, r2⟩ := r
    have h : (dBools ds).map (i :: ·) = some is := h
    cases q : dBools ds with
    | none => rw [q] at h; cases h
    | some js =>
      rw [q] at h
      cases h
      rw [e, r1.bl, dBools_ok q r2]
      rfl
  | .non :: _, _, _, h, _ => by cases h
  | .int _ :: _, _, _, h, _ => by cases h
  | .str _ :: _, _, _, h, _ => by cases h
  | .tup _ :: _, _, _, h, _ => by cases h
  | .rol _ :: _, _, _, h, _ => by cases h
  | .ref _ :: _, _, _, h, _ => by cases h
  | .ins _ _ :: _, _, _, h, _ => by cases h
def rLenX (K : PySem.W.Frag) : List V → Hp → VK → Prop := fun xs H Q => (∃ x n, xs = [x] ∧ LenV K x H n ∧ Q (.int n) H) ∨ (∃ a kvs, xs = [V.ref a] ∧ H a = some (.dK kvs) ∧ Q (.int kvs.length) H)
theorem cr_len : CallR X (.builtin "len") (rLenX X.K) := CallR.or call_len call_lenD
theorem ok_len : ArOk Γ (rLenX Γ.K) gLen := fun W σ f S H xs vs Q rs r h => by
  unfold gLen at h
  split at h
  · rename_i z
    split at h
    · rename_i hl
      obtain ⟨v, e, rv⟩ := r.one
      refine .inl ⟨_, z.length, e, ?_, h f H _ .refl rs Rp.ofInt⟩
      rw [rv.str]
      exact ⟨by rw [lim_eq]; exact hl, rfl⟩
    · exact h.elim
  · rename_i n
    obtain ⟨v, e, rv⟩ := r.one
    split at h
    · rename_i ds hn
      obtain ⟨a, us, _, ev, hh, ru⟩ := rs.lst hn rv
      refine .inl ⟨_, ds.length, e, ?_, h f H _ .refl rs Rp.ofInt⟩
      rw [ev]
      exact .inl ⟨us, SqL.of hh, ru.length⟩
    · rename_i ds hn
      obtain ⟨a, ha, ev⟩ := rv.ref
      obtain ⟨b, hb, us, hh, ek, ru⟩ := rs.ob n _ hn
      rw [ha] at hb
      cases hb
      refine .inr ⟨a, us, by rw [e, ev], hh, ?_⟩
      have el : us.length = ds.length := by
        have := congrArg List.length ek
        rwa [List.length_map, List.length_map] at this
      rw [el]
      exact h f H _ .refl rs Rp.ofInt
    · exact h.elim
  · rename_i ds
    obtain ⟨v, e, rv⟩ := r.one
    obtain ⟨a, us, ev, hs, ru⟩ := rv.tup
    refine .inl ⟨_, ds.length, e, ?_, h f H _ .refl rs Rp.ofInt⟩
    rw [ev]
    exact .inr ⟨us, hs, ru.length⟩
  · rename_i ds
    obtain ⟨v, e, rv⟩ := r.one
    obtain ⟨a, us, ev, hs, ru⟩ := rv.rol
    refine .inl ⟨_, ds.length, e, ?_, h f H _ .refl rs Rp.ofInt⟩
    rw [ev]
    exact .inl ⟨us, hs.1, ru.length⟩
  · exact h.elim
theorem ok_int : ArOk Γ (fun xs H Q => (∃ i, xs = [.int i] ∧ Q (.int i) H) ∨ ∃ k, xs = [.bl k] ∧ Q (.int (if k then 1 else 0)) H) gInt := fun W σ f S H xs vs Q rs r h => by
  unfold gInt at h
  split at h
  · obtain ⟨v, e, rv⟩ := r.one
    exact .inl ⟨_, by rw [e, rv.int], h f H _ .refl rs Rp.ofInt⟩
  · obtain ⟨v, e, rv⟩ := r.one
    exact .inr ⟨_, by rw [e, rv.bl], h f H _ .refl rs Rp.ofInt⟩
  · exact h.elim
theorem ok_max2 : ArOk Γ (fun xs H Q => ∃ i j, xs = [.int i, .int j] ∧ Q (.int (if j > i then j else i)) H) gMax2 := fun W σ f S H xs vs Q rs r h => by
  unfold gMax2 at h
  split at h
  · obtain ⟨v, u, e, rv, ru⟩ := r.two
    exact ⟨_, _, by rw [e, rv.int, ru.int], h f H _ .refl rs Rp.ofInt⟩
  · exact h.elim
theorem ok_min2 : ArOk Γ (fun xs H Q => ∃ i j, xs = [.int i, .int j] ∧ Q (.int (if j < i then j else i)) H) gMin2 := fun W σ f S H xs vs Q rs r h => by
  unfold gMin2 at h
  split at h
  · obtain ⟨v, u, e, rv, ru⟩ := r.two
    exact ⟨_, _, by rw [e, rv.int, ru.int], h f H _ .refl rs Rp.ofInt⟩
  · exact h.elim
theorem ok_gcd : ArOk Γ rGcd gGcd := fun W σ f S H xs vs Q rs r h => by
  unfold gGcd at h
  split at h
  · obtain ⟨v, u, e, rv, ru⟩ := r.two
    exact ⟨_, _, by rw [e, rv.int, ru.int], h f H _ .refl rs Rp.ofInt⟩
  · exact h.elim
theorem onL_ok {r : List V → Hp → VK → Prop} {k : List D → Store → R D} (hk : ∀ (W : WX) (σ : L2.St) (f : List Addr) (S : Store) (H : Hp) (a : Addr) (ds : List D) (us : List V) (Q : VK), RelS Γ f S H → SqL Γ.K H a us → RpL Γ f H ds us → Wp Γ W σ f H (Rp Γ) Q (k ds S) → r [.ref a] H Q) : ArOk Γ r (onL k) := fun W σ f S H xs vs Q rs r h => by
  unfold onL at h
  split at h
  · rename_i n
    obtain ⟨v, e, rv⟩ := r.one
    split at h
    · rename_i ds hn
      obtain ⟨a, us, _, ev, hh, ru⟩ := rs.lst hn rv
      rw [e, ev]
      exact hk W σ f S H a ds us Q rs (SqL.of hh) ru h
    · exact h.elim
  · rename_i ds
    obtain ⟨v, e, rv⟩ := r.one
    obtain ⟨a, us, ev, hs, ru⟩ := rv.rol
    rw [e, ev]
    exact hk W σ f S H a ds us Q rs hs.1 ru h
  · exact h.elim
theorem ok_all : ArOk Γ (rAll Γ.K) gAll := onL_ok fun W σ f S H a ds us Q rs hs ru h => by
  split at h
  · rename_i is hi
    have e := dBools_ok hi ru
    subst e
    exact ⟨a, is, rfl, hs, h f H _ .refl rs Rp.ofBl⟩
  · exact h.elim
def maxI : List Int → Int
  | [] => 0
  | i :: is => is.foldl max i
theorem fold_max : ∀ (is : List Int) (a : Int), (a ≤ is.foldl max a ∧ ∀ b ∈ is, b ≤ is.foldl max a) ∧ is.foldl max a ∈ a :: is
  | [], a => ⟨⟨Int.le_refl _, fun _ h => by cases h⟩, List.mem_cons_self⟩
  | b :: is, a => by
    obtain ⟨⟨h1, h2⟩, h3⟩ := fold_max is (max a b)
    simp only [List.foldl_cons]
    refine ⟨⟨by omega, fun c hc => ?_⟩, ?_⟩
    · rcases List.mem_cons.mp hc with e | hc
      · subst e; omega
      · exact h2 c hc
    · rcases List.mem_cons.mp h3 with e | h3
      · by_cases q : a ≤ b
        · have : max a b = b := by omega
          rw [e, this]; simp
        · have : max a b = a := by omega
          rw [e, this]; simp
      · exact List.mem_cons_of_mem _ (List.mem_cons_of_mem _ h3)
theorem maxI_eq {is : List Int} {m : Int} (h0 : 0 < is.length) (hm : m ∈ is) (hle : ∀ y ∈ is, y ≤ m) : m = maxI is := by
  cases is with
  | nil => cases hm
  | cons i is =>
    obtain ⟨⟨h1, h2⟩, h3⟩ := fold_max is i
    have hx : maxI (i :: is) = is.foldl max i := rfl
    have := hle _ h3
    rw [hx]
    rcases List.mem_cons.mp hm with e | hm
    · subst e; omega
    · have := h2 m hm; omega
def gMax : List D → Store → R D := onL fun ds S => match dInts ds with
  | some is => if 0 < is.length then .ok (.int (maxI is)) S else .bad
  | none => .bad
theorem ok_max : ArOk Γ (rMax Γ.K) gMax := onL_ok fun W σ f S H a ds us Q rs hs ru h => by
  split at h
  · rename_i is hi
    have e := dInts_ok hi ru
    subst e
    split at h
    · rename_i h0
      refine ⟨a, is, rfl, hs, h0, fun m hm hle => ?_⟩
      rw [maxI_eq h0 hm hle]
      exact h f H _ .refl rs Rp.ofInt
    · exact h.elim
  · exact h.elim
theorem ok_list : ArOk Γ (fun xs H Q => ∃ p ys, xs = [.ref p] ∧ (SqL Γ.K H p ys ∨ SqT Γ.K H p ys) ∧ ∀ l, H l = none → Q (.ref l) (upd H l (.lst ys))) gList := fun W σ f S H xs vs Q rs r h => by
  unfold gList at h
  split at h
  · rename_i d
    obtain ⟨v, e, rv⟩ := r.one
    split at h
    · rename_i ds hd
      obtain ⟨a, us, ev, ru, hs⟩ := listOf_ok rs rv hd
      refine ⟨a, us, by rw [e, ev], hs.symm.imp (fun z => z.1) (fun z => z.1), fun l hl => ?_⟩
      exact h (f ++ [l]) _ _ (.alloc hl) (rs.alloc hl ⟨us, upd_same, ru.up (.alloc hl)⟩) (Rp.refI (by rw [← rs.len]; simp))
    · exact h.elim
  · exact h.elim
theorem ok_tuple : ArOk Γ (fun xs H Q => ∃ p ys, xs = [.ref p] ∧ ((SqL Γ.K H p ys ∧ ∀ l, H l = none → Q (.ref l) (upd H l (.tup ys))) ∨ (SqT Γ.K H p ys ∧ Q (.ref p) H))) gTuple := fun W σ f S H xs vs Q rs r h => by
  unfold gTuple at h
  split at h
  · rename_i d
    obtain ⟨v, e, rv⟩ := r.one
    split at h
    · rename_i ds hd
      obtain ⟨a, us, ev, ru, hs⟩ := listOf_ok rs rv hd
      refine ⟨a, us, by rw [e, ev], ?_⟩
      rcases hs with ⟨hs, _⟩ | ⟨hs, _⟩
      · exact .inr ⟨hs, h f H _ .refl rs (Rp.tupI hs ru)⟩
      · exact .inl ⟨hs, fun l hl => h f _ _ (.new hl) (rs.newT hl) (Rp.tupI (SqT.of upd_same) (ru.up (.new hl)))⟩
    · exact h.elim
  · exact h.elim
/-! ### methods of lists -/
def MtOk (Γ : G) (r : V → List V → Hp → VK → Prop) (g : D → List D → Store → R D) : Prop := ∀ (W : WX) (σ : L2.St) (f : List Addr) (S : Store) (H : Hp) (d : D) (v : V) (xs : List D) (vs : List V) (Q : VK), RelS Γ f S H → Rp Γ f H d v → RpL Γ f H xs vs → Wp Γ W σ f H (Rp Γ) Q (g d xs S) → r v vs H Q
theorem bm_imp {r : V → List V → Hp → VK → Prop} {g : D → List D → Store → R D} (hK : X.K = Γ.K) (hg : MtOk Γ r g) {mo : ME} {mr : MA} {σ : L2.St} {H : Hp} {Q : VK} (h : tE Γ W (mBM g mo mr) σ H Q) : tBM X.K "list" r (tE Γ W mo) (tA Γ W mr) σ H Q := by
  obtain ⟨env, S, f, rs, re, h⟩ := h
  refine ⟨env, S, f, rs, re, Wp.bindL h fun d S1 f1 H1 v u1 rs1 r1 h1 => ?_⟩
  revert h1
  split
  · rename_i n
    split
    · rename_i ds hn
      intro h1
      obtain ⟨a, us, _, ev, hh, ru⟩ := rs1.lst hn r1
      refine ⟨?_, env, S1, f1, rs1, re.up u1, Wp.bindL h1 fun xs S2 f2 H2 vs u2 rs2 r2 h2 => hg W σ f2 S2 H2 _ v xs vs Q rs2 (r1.up u2) r2 h2⟩
      rw [ev]
      exact .inl ⟨rfl, us, SqL.of hh⟩
    · exact fun h => h.elim
  · exact fun h => h.elim
theorem ok_append : MtOk Γ rAppend gAppend := fun W σ f S H d v xs vs Q rs rv r h => by
  unfold gAppend at h
  split at h
  · rename_i n y
    split at h
    · rename_i ds hn
      split at h
      · rename_i hl
        obtain ⟨a, us, ha, ev, hh, ru⟩ := rs.lst hn rv
        obtain ⟨w, e, rw'⟩ := r.one
        have uc : Up Γ f H f (upd H a (.lst (us ++ [w]))) := .chg hh trivial
        have r1 : RpL Γ f H [y] [w] := by
          simp only [RpL]
          exact ⟨w, [], rfl, rw', rfl⟩
        exact ⟨a, us, w, ev, e, hh, by rw [← ru.length, lim_eq]; exact hl, h f _ _ uc (rs.set ha (.chg hh trivial) ⟨_, upd_same, (ru.append r1).up uc⟩) Rp.ofNon⟩
      · exact h.elim
    · exact h.elim
  · exact h.elim
def gInsert : D → List D → Store → R D
  | .ref n, [.int i, y], S => (match S[n]? with
    | some (.lst ds) => if ds.length < lim ∧ 0 ≤ i ∧ i < 2 ^ 63 then .ok .non (S.set n (.lst (ds.take i.toNat ++ [y] ++ ds.drop i.toNat))) else .bad
    | _ => .bad)
  | _, _, _ => .bad
theorem ok_insert : MtOk Γ (fun x vs H Q => ∃ (l : Addr) (xs : List V) (i : Int) (y : V), x = .ref l ∧ vs = [.int i, y] ∧ H l = some (.lst xs) ∧ xs.length < sizeLine ∧ 0 ≤ i ∧ i < 2 ^ 63 ∧ Q .non (upd H l (.lst (xs.take i.toNat ++ [y] ++ xs.drop i.toNat)))) gInsert := fun W σ f S H d v xs vs Q rs rv r h => by
  unfold gInsert at h
  split at h
  · rename_i n i y
    split at h
    · rename_i ds hn
      split at h
      · rename_i hl
        obtain ⟨a, us, ha, ev, hh, ru⟩ := rs.lst hn rv
        obtain ⟨j, w, e, rj, rw'⟩ := r.two
        have uc : Up Γ f H f (upd H a (.lst (us.take i.toNat ++ [w] ++ us.drop i.toNat))) := .chg hh trivial
        have r1 : RpL Γ f H [y] [w] := by
          simp only [RpL]
          exact ⟨w, [], rfl, rw', rfl⟩
        exact ⟨a, us, i, w, ev, by rw [e, rj.int], hh, by rw [← ru.length, lim_eq]; exact hl.1, hl.2.1, hl.2.2, h f _ _ uc (rs.set ha (.chg hh trivial) ⟨_, upd_same, (((ru.take' _).append r1).append (ru.drop' _)).up uc⟩) Rp.ofNon⟩
      · exact h.elim
    · exact h.elim
  · exact h.elim
end
section
variable {X : Cx} {pins : List (Addr × Obj)} {σ : L2.St} {H : Hp} {s : Shared}
theorem kit_ofY {x : V} {u t : Value} (I : Inv X pins σ H s) (rx : RelV x u) (ty : TyY X.K H x t) : ∃ P : Heap → Prop, PySem.W.KitX X.K u t P ∧ P s.heap ∧ u ≠ .builtin "__main__.__loader__#opaque" := by
  cases ty with
  | x h => exact kit_of I rx h
  | @dt a w xs ea =>
    cases (show u = Value.ref a from rx)
    obtain ⟨⟨_, o, es, ep, h1, h2, _⟩, _⟩ := (show ObjOk X.prog X.w H s.heap a (DtO w a xs) from I.hok a _ ea)
    exact ⟨_, PySem.W.kitx_dict, ⟨o, h1, h2.1⟩, fun z => nomatch z⟩
def rIsiY (K : PySem.W.Frag) : List V → Hp → VK → Prop := fun xs H Q => ∃ (x c : V) (t u : Value) (b : Bool), xs = [x, c] ∧ ClsV c u ∧ TyY K H x t ∧ PySem.W.kitOne K t u = some b ∧ Q (.bl b) H
def rIsiTY (K : PySem.W.Frag) : List V → Hp → VK → Prop := fun xs H Q => ∃ (x : V) (tp : Addr) (cs : List V) (t : Value) (us : List Value) (b : Bool), xs = [x, .ref tp] ∧ H tp = some (.tup cs) ∧ Paired ClsV cs us ∧ TyY K H x t ∧ PySem.W.kitAny K t us = some b ∧ Q (.bl b) H
theorem call_isiY : CallR X (.builtin "isinstance") (rIsiY X.K) := by
  intro pins s σ H xs us Q I r h
  obtain ⟨x, c, t, u, b, rfl, k, ty, e, q⟩ := h
  obtain ⟨u1, u2, rfl, r1, r2⟩ := vals2 r
  have e2 := k.eq r2
  subst e2
  obtain ⟨P, Z, p, hx⟩ := kit_ofY I r1 ty
  exact PySem.W.kia_one Z I.kIn p e hx fun tk => ⟨.bl b, H, I.tok tk, rfl, q⟩
theorem call_isiTY : CallR X (.builtin "isinstance") (rIsiTY X.K) := by
  intro pins s σ H xs us Q I r h
  obtain ⟨x, tp, cs, t, ws, b, rfl, hT, k, ty, e, q⟩ := h
  obtain ⟨u1, u2, rfl, r1, r2⟩ := vals2 r
  cases (show u2 = Value.ref tp from r2)
  obtain ⟨P, Z, p, hx⟩ := kit_ofY I r1 ty
  obtain ⟨_, its, rv, o, h1, h2, n, h3⟩ := (show ObjOk X.prog X.w H s.heap tp (.tup cs) from I.hok tp _ hT)
  have e3 := ClsV.all k rv
  subst e3
  obtain ⟨oc, od, dt, sl⟩ := o
  simp only at h2 h3
  subst h2 h3
  exact PySem.W.kia_tup Z I.kIn p h1 e hx fun tk => ⟨.bl b, H, I.tok tk, rfl, q⟩
end
/-! ### isinstance -/
def gIsi (cs : List Str) (Ts : List CK) (d : D) (S : Store) : R D := match tyK S d with
  | some a => if okK cs a = true then .ok (.bl (Ts.any fun T => isA a T)) S else .bad
  | none => .bad
section
variable {Γ : G} {W : WX} {X : Cx} {f : List Addr} {H : Hp} {S : Store} {cs : List Str}
theorem tyX {d : D} {v : V} {a : CK} (hI : ∀ C ∈ cs, C8.InsC Γ.K (Γ.c C)) (rs : RelS Γ f S H) (r : Rp Γ f H d v) (h : tyK S d = some a) (hk : okK cs a = true) : TyY Γ.K H v (a.u Γ) := by
  cases d with
  | non => cases h; rw [r.non]; exact .x <| .base .non
  | bl b => cases h; rw [r.bl]; exact .x <| .base (.bl b)
  | int b => cases h; rw [r.int]; exact .x <| .base (.int b)
  | str b => cases h; rw [r.str]; exact .x <| .base (.str b)
  | tup ds =>
    cases h
    obtain ⟨p, vs, e, s, _⟩ := r.tup
    rw [e]
    rcases s with (s | ⟨o, s⟩) | ⟨o, its, n, s, c, _⟩
    · exact .x <| .base (.tup s)
    · exact .x <| .fTuple s
    · exact .x <| .kTuple s c
  | rol ds =>
    cases h
    obtain ⟨p, vs, e, s, _⟩ := r.rol
    rw [e]
    rcases s.2 with ⟨o, s⟩ | ⟨o, its, n, s, c, _⟩
    · exact .x <| .base (.frz s)
    · exact .x <| .kList s c
  | ref n =>
    obtain ⟨p, hp, e⟩ := r.ref
    have h : (match S[n]? with
      | some (.lst _) => some (CK.bi "list")
      | some (.dk _) => some (.bi "dict")
      | some (.dt _) => some (.bi "dict")
      | _ => none) = some a := h
    rw [e]
    split at h
    · rename_i ds hn
      cases h
      obtain ⟨b, hb, vs, hh, _⟩ := rs.ob n _ hn
      rw [hp] at hb
      cases hb
      exact .x <| .base (.lst hh)
    · rename_i ds hn
      cases h
      obtain ⟨b, hb, vs, hh, _⟩ := rs.ob n _ hn
      rw [hp] at hb
      cases hb
      exact .x <| .base (.dK hh)
    · rename_i ds hn
      cases h
      obtain ⟨b, hb, w, xs, us, hh, _⟩ := rs.ob n _ hn
      rw [hp] at hb
      cases hb
      exact .dt hh
    · cases h
  | ins C ds =>
    cases h
    simp only [Rp] at r
    obtain ⟨p, dx, fvs, e, hh, _⟩ := r
    have c := hI C (List.contains_iff_mem.mp hk)
    rw [e]
    exact .x <| .base (.ins hh c.cl c.ha c.hn c.htk c.hm)
theorem isF_any {a : CK} (hk : okK cs a = true) : ∀ {Ts : List CK}, (∀ T ∈ Ts, IsF Γ cs T) → PySem.W.kitAny Γ.K (a.u Γ) (Ts.map fun T => T.u Γ) = some (Ts.any fun T => isA a T)
  | [], _ => rfl
  | T :: Ts, h => by
    have h1 : PySem.W.kitOne Γ.K (a.u Γ) (T.u Γ) = some (isA a T) := by
      cases a with
      | bi n => exact (h T List.mem_cons_self).bi n (List.contains_iff_mem.mp hk)
      | own C => exact (h T List.mem_cons_self).own C (List.contains_iff_mem.mp hk)
    rw [List.map_cons, List.any_cons]
    refine kitAny_cons h1 (fun e => ?_) fun e => by rw [e]; rfl
    rw [e, Bool.false_or]
    exact isF_any hk fun T' hT => h T' (List.mem_cons_of_mem _ hT)
theorem q_isi {e c : Expr} {ma : ME} {T : CK} {p pos : Pos} (hK : X.K = Γ.K) (hI : ∀ C ∈ cs, C8.InsC Γ.K (Γ.c C)) (hT : IsF Γ cs T) (hm : X.mg "isinstance" = none) (he : PE X e (tE Γ W ma)) (hc : PE X c (tC (T.v Γ))) (hg : Gl X "isinstance" := by rfl)
    (hs : starEach (e :: [c]) X.env = (false, eval e X.env) :: starEach [c] X.env := by rfl) (hs2 : starEach (c :: []) X.env = (false, eval c X.env) :: starEach [] X.env := by rfl) (hpl : (backTo pos (starEach [c] X.env)).any (·.1) = false := by rfl) :
    PE X (.Call (.Name "isinstance" p) [e, c] [] pos) (tE Γ W (m1 (gIsi cs [T]) ma)) := PE.imp (pe_callB call_isiY hg hm (by decide +kernel) (pa_cons he (pa_cons hc pa_nil hs2) hs) (by decide) (by decide) hs hpl) fun σ H Q ⟨env, S, f, rs, re, h⟩ =>
  ⟨env, S, f, rs, re, Wp.bindL h fun d S1 f1 H1 v u1 rs1 r1 h1 => by
    unfold gIsi at h1
    split at h1
    · rename_i a ha
      split at h1
      · rename_i hk
        have q := isF_any (Γ := Γ) hk (Ts := [T]) fun T' hT' => by
          rw [List.mem_singleton.mp hT']
          exact hT
        have one : PySem.W.kitOne Γ.K (a.u Γ) (T.u Γ) = some ([T].any fun T => isA a T) := by
          have : ([T].any fun T => isA a T) = isA a T := by simp
          rw [this]
          cases a with
          | bi n => exact hT.bi n (List.contains_iff_mem.mp hk)
          | own C => exact hT.own C (List.contains_iff_mem.mp hk)
        exact ⟨v, T.v Γ, a.u Γ, T.u Γ, _, rfl, T.cls, by rw [hK]; exact tyX hI rs1 r1 ha hk, by rw [hK]; exact one, h1 f1 H1 _ .refl rs1 Rp.ofBl⟩
      · exact h1.elim
    · exact h1.elim⟩
theorem PCs.pa : ∀ {es : List Expr} {Ts : List CK}, PCs X Γ es Ts → PA X es (fun _ H Q => Q (Ts.map fun T => T.v Γ) H)
  | _, _, .nil => pa_nil
  | _, _, .cons h r hs => pa_cons h r.pa hs
theorem q_isiT {e : Expr} {es : List Expr} {ma : ME} {Ts : List CK} {p pos pos2 : Pos} {k} (hK : X.K = Γ.K) (hI : ∀ C ∈ cs, C8.InsC Γ.K (Γ.c C)) (hT : ∀ T ∈ Ts, IsF Γ cs T) (hm : X.mg "isinstance" = none) (he : PE X e (tE Γ W ma)) (hc : PCs X Γ es Ts) (hl : Ts.length ≤ 20 := by decide) (hg : Gl X "isinstance" := by rfl)
    (hs : starEach (e :: [.Tuple es k pos2]) X.env = (false, eval e X.env) :: starEach [.Tuple es k pos2] X.env := by rfl) (hs2 : starEach (.Tuple es k pos2 :: []) X.env = (false, eval (.Tuple es k pos2) X.env) :: starEach [] X.env := by rfl) (hpl : (backTo pos (starEach [.Tuple es k pos2] X.env)).any (·.1) = false := by rfl) :
    PE X (.Call (.Name "isinstance" p) [e, .Tuple es k pos2] [] pos) (tE Γ W (m1 (gIsi cs Ts) ma)) := PE.imp (pe_callB call_isiTY hg hm (by decide +kernel) (pa_cons he (pa_cons (pe_tup hc.pa) pa_nil hs2) hs) (by decide) (by decide) hs hpl) fun σ H Q ⟨env, S, f, rs, re, h⟩ =>
  ⟨env, S, f, rs, re, Wp.bindL h fun d S1 f1 H1 v u1 rs1 r1 h1 => by
    unfold gIsi at h1
    split at h1
    · rename_i a ha
      split at h1
      · rename_i hk
        refine ⟨by rw [List.length_map, lim_eq]; exact Nat.le_trans hl (by decide), fun tp htp => ?_⟩
        have r2 := r1.up (.new (o := .tup (Ts.map fun T => T.v Γ)) htp)
        have rs2 := rs1.newT (o := .tup (Ts.map fun T => T.v Γ)) htp
        have pc : ∀ Ts : List CK, Paired ClsV (Ts.map fun T => T.v Γ) (Ts.map fun T => T.u Γ) := by
          intro Ts
          induction Ts with
          | nil => exact .nil
          | cons T Ts ih => exact .cons T.cls ih
        exact ⟨v, tp, _, a.u Γ, _, _, rfl, upd_same, pc Ts, by rw [hK]; exact tyX hI rs2 r2 ha hk, by rw [hK]; exact isF_any hk hT, h1 f1 _ _ (.new htp) rs2 Rp.ofBl⟩
      · exact h1.elim
    · exact h1.elim⟩
end
end Lk

set_option Elab.async false
set_option linter.all false
set_option autoImplicit false
set_option maxRecDepth 100000
set_option maxHeartbeats 2000000
namespace Lk
open PySem PySem.Spec PyProof.Rows L2

/-! ### == of data, and of an own class's instances by its own __eq__ -/
section
variable {Γ : G} {W : WX} {X : Cx} {f : List Addr} {H : Hp} {S : Store} {cs : List Str}
theorem mapM_dp {g : D → Option PyData} (hg : ∀ d v p, g d = some p → Rp Γ f H d v → Dp Γ.K H v p) : ∀ {ds : List D} {vs : List V} {ps : List PyData}, ds.mapM g = some ps → RpL Γ f H ds vs → DpAll Γ.K H vs ps
  | [], vs, ps, h, r => by
    simp only [RpL] at r
    subst r
    simp only [List.mapM_nil] at h
    cases h
    exact .nil
  | d :: ds, vs, ps, h, r => by
    simp only [RpL] at r
    obtain ⟨v, vr, e, r1, r2⟩ := r
    subst e
    rw [List.mapM_cons] at h
    cases q : g d with
    | none => rw [q] at h; cases h
    | some p =>
      rw [q] at h
      cases q2 : ds.mapM g with
      | none => rw [q2] at h; cases h
      | some ps' =>
        rw [q2] at h
        cases h
        exact .cons (hg d v p q r1) (mapM_dp hg q2 r2)
theorem pyD_ok (rs : RelS Γ f S H) : ∀ (n : Nat) (d : D) (v : V) (p : PyData), pyD S n d = some p → Rp Γ f H d v → Dp Γ.K H v p
  | 0, _, _, _, h, _ => by cases h
  | n + 1, d, v, p, h, r => by
    cases d with
    | non => cases h; rw [r.non]; exact .non
    | bl b => cases h; rw [r.bl]; exact .bl b
    | int i => cases h; rw [r.int]; exact .int i
    | str x => cases h; rw [r.str]; exact .str x
    | tup ds =>
      have h : (ds.mapM (pyD S n)).map PyData.tuple = some p := h
      obtain ⟨a, vs, e, s, rv⟩ := r.tup
      subst e
      cases q : ds.mapM (pyD S n) with
      | none => rw [q] at h; cases h
      | some ps =>
        rw [q] at h
        cases h
        exact .tup s (mapM_dp (pyD_ok rs n) q rv)
    | rol ds =>
      have h : (ds.mapM (pyD S n)).map PyData.list = some p := h
      obtain ⟨a, vs, e, s, rv⟩ := r.rol
      subst e
      cases q : ds.mapM (pyD S n) with
      | none => rw [q] at h; cases h
      | some ps =>
        rw [q] at h
        cases h
        exact .lst s.1 (mapM_dp (pyD_ok rs n) q rv)
    | ref m =>
      have h : (match S[m]? with
        | some (.lst ds) => (ds.mapM (pyD S n)).map PyData.list
        | _ => none) = some p := h
      split at h
      · rename_i ds hn
        obtain ⟨a, vs, _, e, hh, rv⟩ := rs.lst hn r
        subst e
        cases q : ds.mapM (pyD S n) with
        | none => rw [q] at h; cases h
        | some ps =>
          rw [q] at h
          cases h
          exact .lst (SqL.of hh) (mapM_dp (pyD_ok rs n) q rv)
      · cases h
    | ins C ds => cases h
theorem eqData_ok {x y : D} {v u : V} {b : Bool} (rs : RelS Γ f S H) (rx : Rp Γ f H x v) (ry : Rp Γ f H y u) (h : eqData S x y = some b) : ∃ d e, Dp Γ.K H v d ∧ Dp Γ.K H u e ∧ SeqAt.shaped d = true ∧ SeqAt.shaped e = true ∧ PyData.eqv d e = b := by
  unfold eqData at h
  split at h
  · rename_i d e hd he
    split at h
    · rename_i c
      cases h
      exact ⟨d, e, pyD_ok rs _ _ _ _ hd rx, pyD_ok rs _ _ _ _ he ry, c.1, c.2, rfl⟩
    · cases h
  · cases h
theorem ok_ne : OpOk Γ (rNeD Γ.K) gNe := fun W σ f S H x y v u Q rs rx ry h => by
  unfold gNe at h
  split at h
  · rename_i b hb
    obtain ⟨d, e, h1, h2, h3, h4, h5⟩ := eqData_ok rs rx ry hb
    refine ⟨d, e, h1, h2, h3, h4, ?_⟩
    rw [h5]
    exact h f H _ .refl rs Rp.ofBl
  · exact h.elim
/-- one instance on the left -/
def rOwnEq (Γ : G) (cs : List Str) (oe : Str → Option (List D → Store → R D)) : R2 := fun x y H Q => ∃ C m a dx fs t, oe C = some m ∧ x = .ref a ∧ H a = some (.ins (Γ.c C) dx fs) ∧ okK cs t = true ∧ TyY Γ.K H y (t.u Γ) ∧ spOf Γ 2 m [x, y] H (fun v H' => (∃ b, v = .bl b) ∧ Q v H') (fun _ _ _ => False)
theorem or_own {k : Nat} {oe : Str → Option (List D → Store → R D)} (hK : X.K = Γ.K) (hr : Room k X.A) (ho : ∀ C m, oe C = some m → EqC Γ X.prog X.w X.mg X.base cs k C m) : OpR X (compareOp .Eq) (rOwnEq Γ cs oe) := by
  intro pins s σ H x y v u Q I rx ry h
  obtain ⟨C, m, a, dx, fs, t, hC, ex, hh, hk, ty, hsp⟩ := h
  subst ex
  obtain rfl : v = Value.ref a := rx
  have ec := ho C m hC
  obtain ⟨g, fd, ps, e1, e2, F, hb⟩ := ec.eq
  obtain ⟨mA, J, _⟩ := ins_get I.hok hh
  obtain ⟨od, J, _⟩ := J.look
  obtain ⟨mm, hF⟩ := I.fr
  obtain ⟨P, Z, p, _⟩ := kit_ofY I ry (by rw [hK]; exact ty)
  show wpAny (model X.prog X.w) X.A (richCompare .Eq (Value.ref a) u) (EP X pins σ Q) X.xe s
  refine PySem.W.cmp_K (op := .Eq) (tb := t.u Γ) hr.units0 hF I.ok.mod.kin J (Z.ty _ _ I.kIn p) (by rw [hK]; exact ec.nf t hk) (by rw [hK]; exact e1) (by rw [hK]; exact e2) ?_
  have noX : PassesAt (L2.CX X.prog X.w) X σ (fun _ _ _ => False) := fun _ _ _ _ _ _ c => by
    obtain ⟨_, _, _, _, _, _, _, _, _, _, _, _, z⟩ := c
    exact z.elim
  have go := run_fnS (us := [Value.ref a, u]) (vs := [V.ref a, y]) (E := fun _ _ _ _ => False) (σ := σ) (Q := fun v H' => (∃ b, v = .bl b) ∧ Q v H') (by rw [hK]; exact F) hr (by rw [hK]; exact hb) noX I (.cons rfl (.cons ry .nil)) hsp
  refine wpAny_mono go (fun r s' q => ?_) fun _ _ z => z
  obtain ⟨z, H', I', rz, ⟨b, eb⟩, qz⟩ := q
  subst eb
  obtain rfl : r = Value.bool b := rz
  exact ⟨.bl b, H', I', rfl, qz⟩
def rEqX (Γ : G) (cs : List Str) (oe : Str → Option (List D → Store → R D)) : R2 := fun x y H Q => rEqD Γ.K x y H Q ∨ rOwnEq Γ cs oe x y H Q
theorem or_eq {k : Nat} {oe : Str → Option (List D → Store → R D)} (hK : X.K = Γ.K) (hr : Room k X.A) (ho : ∀ C m, oe C = some m → EqC Γ X.prog X.w X.mg X.base cs k C m) : OpR X (compareOp .Eq) (rEqX Γ cs oe) := OpR.or (by rw [← hK]; exact op_eqD hr.units) (or_own hK hr ho)
theorem ok_eq {oe : Str → Option (List D → Store → R D)} (hI : ∀ C ∈ cs, C8.InsC Γ.K (Γ.c C)) : OpOk Γ (rEqX Γ cs oe) (gEqX cs oe) := fun W σ f S H x y v u Q rs rx ry h => by
  have data : ∀ x : D, Rp Γ f H x v → Wp Γ W σ f H (Rp Γ) Q (match eqData S x y with
      | some b => .ok (.bl b) S
      | none => .bad) → rEqX Γ cs oe v u H Q := fun x rx h => by
    split at h
    · rename_i b hb
      obtain ⟨d, e, h1, h2, h3, h4, h5⟩ := eqData_ok rs rx ry hb
      refine .inl ⟨d, e, h1, h2, h3, h4, ?_⟩
      rw [h5]
      exact h f H _ .refl rs Rp.ofBl
    · exact h.elim
  cases x with
  | ins C xs =>
    have h : Wp Γ W σ f H (Rp Γ) Q (match oe C, tyK S y with
      | some m, some t => if okK cs t = true then (match m [.ins C xs, y] S with
        | .ok (.bl b) S' => .ok (.bl b) S'
        | _ => .bad) else .bad
      | _, _ => .bad) := h
    split at h
    · rename_i m t hm ht
      split at h
      · rename_i hk
        have rx0 := rx
        simp only [Rp] at rx
        obtain ⟨a, dx, fvs, e, hh, _⟩ := rx
        refine .inr ⟨C, m, a, dx, fvs, t, hm, e, hh, hk, tyX hI rs ry ht hk, rfl, f, S, [.ins C xs, y], rs, ?_, ?_⟩
        · simp only [RpL]
          exact ⟨v, [u], rfl, rx0, u, [], rfl, ry, rfl⟩
        · revert h
          cases m [.ins C xs, y] S with
          | ok d S' =>
            cases d with
            | bl b =>
              intro h f' H' v' u' rs' r'
              exact ⟨⟨b, r'.bl⟩, h f' H' v' u' rs' r'⟩
            | _ => exact fun h => h.elim
          | _ => exact fun h => h.elim
      · exact h.elim
    · exact h.elim
  | _ => exact data _ rx h
/-! ### in, not in: of flat items -/
def flatD : D → Option V
  | .non => some .non
  | .bl b => some (.bl b)
  | .int i => some (.int i)
  | .str x => some (.str x)
  | _ => none
def gIn (neg : Bool) (x y : D) (S : Store) : R D := match listOf S y with
  | some ds => (match flatD x, ds.mapM flatD with
    | some v, some vs => if flatV v = true ∧ vs.all flatV = true then .ok (.bl (if neg then !inV v vs else inV v vs)) S else .bad
    | _, _ => .bad)
  | none => .bad
theorem flatD_ok {x : D} {v w : V} (h : flatD x = some w) (r : Rp Γ f H x v) : v = w := by
  cases x with
  | non => cases h; exact r.non
  | bl b => cases h; exact r.bl
  | int b => cases h; exact r.int
  | str b => cases h; exact r.str
  | _ => cases h
theorem flatL_ok : ∀ {ds : List D} {vs ws : List V}, ds.mapM flatD = some ws → RpL Γ f H ds vs → vs = ws
  | [], vs, ws, h, r => by
    simp only [RpL] at r
    simp only [List.mapM_nil] at h
    cases h
    exact r
  | d :: ds, vs, ws, h, r => by
    simp only [RpL] at r
    obtain ⟨v, vr, e, r1, r2⟩ := r
    rw [List.mapM_cons] at h
    cases q : flatD d with
    | none => rw [q] at h; cases h
    | some w =>
      rw [q] at h
      cases q2 : ds.mapM flatD with
      | none => rw [q2] at h; cases h
      | some ws' =>
        rw [q2] at h
        cases h
        rw [e, flatD_ok q r1, flatL_ok q2 r2]
theorem ok_in {neg : Bool} : OpOk Γ (rIn Γ.K neg) (gIn neg) := fun W σ f S H x y v u Q rs rx ry h => by
  unfold gIn at h
  split at h
  · rename_i ds hds
    split at h
    · rename_i w ws hw hws
      split at h
      · rename_i c
        obtain ⟨a, us, e, r, s⟩ := listOf_ok rs ry hds
        have e1 := flatD_ok hw rx
        have e2 := flatL_ok hws r
        subst e1
        subst e2
        exact ⟨a, us, e, s.symm.imp (fun z => z.1) (fun z => z.1), c.1, c.2, h f H _ .refl rs Rp.ofBl⟩
      · exact h.elim
    · exact h.elim
  · exact h.elim
end
end Lk

set_option Elab.async false
set_option linter.all false
set_option autoImplicit false
set_option maxRecDepth 100000
set_option maxHeartbeats 4000000
/-! An error that a suite holds: its fields, isinstance of it. -/
namespace Lk
open PySem PySem.Spec PyProof.Rows L2
section
variable {K : PySem.W.Frag} {P : Program} {w : World} {A : Around} {E : Value → Shared → Prop} {x Da : Addr} {ox : Obj} {od : Option Obj}
/-- e.__class__, whatever own dict e has -/
theorem cls_attr_err {st : Shared} {Q : Option Value → Shared → Prop} (T : L2.ExcC K Da) (X : K.In st.heap) (I : PySem.W.InstAt st.heap x ox Da od) (h : Q (some (.ref Da)) { st with toks := st.toks + 1 }) : wpAny (model P w) A (getAttr? (.ref x) "__class__") Q E st := by
  have found : PySem.W.findObj K Da od "__class__" = some (.bind (.builtin "getset_descriptor.__get__") (.builtin "object.__class__")) := by
    obtain ⟨cd, hc, _⟩ := PySem.W.any_some T.hd
    unfold PySem.W.findObj
    rw [hc, Option.bind_some, T.ha, Option.bind_some]
    simp [T.hn, T.ht]
  obtain ⟨hp, g, d, t, os⟩ := st
  have kind := I.type (M := model P w)
  have own := PySem.W.looks_findIn (M := model P w) X T.hg
  have fall := PySem.W.looks_findIn (M := model P w) X T.hk
  have look := PySem.W.looks_find (M := model P w) X I found
  have below : PySem.W.Looks (model P w) hp (isInstance (.ref x) (.type "BaseException")) true := kind.andThen (PySem.W.looks_subIn X T.hs)
  have n1 : (Value.builtin "BaseException.__getattribute__" == Value.builtin "object.__getattribute__") = false := by decide +kernel
  have n2 : (onTheHeap (Value.ref Da) && Value.builtin "BaseException.__getattribute__" == Value.builtin "object.__getattribute__") = false := by rw [n1]; rfl
  have n3 : (false && onTheHeap (Value.builtin "BaseException.__getattribute__")) = false := rfl
  unfold getAttr? getAttrBy? getAttrBy
  refine wpAny_bind (wpAny_mkText (wpAny_bind (wpAny_attempt (wpAny_holding (wpAny_bind (kind.at (wpAny_bind (own.at ?_))))))))
  show wpAny _ _ (if (onTheHeap (Value.ref Da) && Value.builtin "BaseException.__getattribute__" == Value.builtin "object.__getattribute__") = true then _ else _) _ _ _
  rw [n2, if_neg Bool.false_ne_true]; unfold getAttrByItsOwn hookBefore
  refine wpAny_bind ?_
  rw [if_pos (show onTheHeap (Value.ref Da) = true from rfl)]
  refine fall.at (wpAny_bind (wpAny_attempt (wpAny_holding ?_)))
  unfold callGetattribute; rw [n3, if_neg Bool.false_ne_true]
  unfold boundAndCalled; rw [PySem.F.excAttr_ValueError.ga.bind (.ref x)]
  refine wpAny_bind (wpAny_pure ?_)
  show wpAny _ _ (call (.builtin "BaseException.__getattribute__") [.ref x, .str "__class__" t]) _ _ _
  refine wpAny_call (codeAny_call_builtin PySem.F.excAttr_ValueError.ga.plain PySem.F.entry_bexc_ga (@PySem.W.check_slot (model P w) _ _ ⟨hp, g, d, t + 1, os⟩ "BaseException.__getattribute__" "BaseException" "__getattribute__" (.ref x) [.str "__class__" t] [] _ (by decide +kernel) (by decide +kernel) below (PySem.F.args_bexc_ga (.ref x) (.str "__class__" t)) ?_))
  unfold Builtin.«object.__getattribute__»
  refine wpAny_bind (wpAny_of_eq (a := ((Value.ref x : Value), [Value.str "__class__" t])) (by first | rfl | (simp only [slotArgs]; rfl)) (wpAny_bind (wpAny_pure (wpAny_bind (kind.at (wpAny_bind (look.at ?_)))))))
  show wpAny _ _ (holding [Value.builtin "object.__class__"] (call (.builtin "getset_descriptor.__get__") [.builtin "object.__class__", .ref x, .ref Da]) >>= ret) _ _ _
  refine wpAny_bind (wpAny_holding (wpAny_call (PySem.W.class_get (s := ⟨hp, g, d, t + 1, os⟩) (ox := ox) (od := od) X I T.hm (wpAny_pure ?_))))
  show wpAny _ _ (handedOut (.ref Da)) _ _ _
  rw [PySem.W.handedOut_of (v := .ref Da) rfl]
  first
    | exact wpAny_pure (wpAny_pure h)
    | exact wpAny_pure h
    | exact wpAny_pure (wpAny_bind (wpAny_pure (wpAny_pure h)))
theorem kit_err (T : L2.ExcC K Da) : PySem.W.KitX K (.ref x) (.ref Da) (fun h => ∃ od, PySem.W.InstAt h x ox Da od) := by
  obtain ⟨cdD, hcD, _⟩ := PySem.W.any_some T.hd
  unfold PySem.W.clsIn at hcD
  split at hcD
  · rename_i c' d' cd' sl' ho
    refine { ty := fun _ _ _ ⟨_, I⟩ => I.type, it := ?_, ne := ?_, ca := ?_ }
    · intro _ _ X _ A' Q' E' s' k q
      unfold isType loadHead
      exact wpAny_bind (wpAny_loadPart (k _ _ (X _ _ ho)) (wpAny_pure q))
    · intro h tp dd its n sl X htp
      refine Bool.eq_false_iff.mpr fun q => ?_
      have e : Da = tp := Value.ref.inj (beq_iff_eq.mp q)
      rw [← e] at htp
      exact nomatch (X _ _ ho).symm.trans htp
    · intro _ _ _ _ _ _ X I k
      obtain ⟨od, I⟩ := I
      exact cls_attr_err T X I k
  · cases hcD
end
/-- isinstance(e, T) of the error that the suite holds -/
def rIsErr (K : PySem.W.Frag) (Da a : Addr) : List V → Hp → VK → Prop := fun xs H Q => ∃ (c : V) (u : Value) (b : Bool), xs = [.ref a, c] ∧ ClsV c u ∧ PySem.W.kitOne K (.ref Da) u = some b ∧ Q (.bl b) H
theorem call_isErr {X : Cx} {a Da : Addr} {oe : Obj} {pn : List (Addr × Obj)} {dd : Option Addr} {fs : List (Str × V)} (T : L2.ExcC X.K Da) (hz : Zc (.ref Da) dd oe) (hf : ∃ vs, oe.data = .fields vs) :
    CallR (X.suite a ((a, oe) :: pn)) (.builtin "isinstance") (fun xs H Q => (dd = none ∨ ∃ d fs, dd = some d ∧ H d = some (.xd fs)) ∧ rIsErr X.K Da a xs H Q) := by
  rintro pins s σ H xs us Q I r ⟨hd, c, u, b, rfl, hc, e, q⟩
  obtain ⟨u1, u2, rfl, r1, r2⟩ := vals2 r
  obtain rfl : u1 = Value.ref a := r1
  have e2 := hc.eq r2
  subst e2
  obtain ⟨hget, _⟩ := I.pin (a, oe) (List.mem_append.mpr (.inl List.mem_cons_self))
  obtain ⟨vs, hv⟩ := hf
  have J : ∃ od, PySem.W.InstAt s.heap a oe Da od := by
    have nc : PySem.W.notCls oe := by unfold PySem.W.notCls; rw [hv] <;> trivial
    rcases hd with hd | ⟨d, fs, hd, hh⟩
    · exact ⟨none, hget, hz.1, nc, by rw [hz.2, hd]; trivial⟩
    · have hx : ObjOk X.prog X.w H s.heap d (.xd fs) := I.hok d _ hh
      obtain ⟨mA, ⟨o, es, ep, ho, _⟩, _⟩ := hx
      exact ⟨some o, hget, hz.1, nc, by rw [hz.2, hd]; exact ho⟩
  exact PySem.W.kia_one (kit_err (x := a) (ox := oe) T) I.kIn J e (fun z => nomatch z) fun tk => ⟨.bl b, H, I.tok tk, rfl, q⟩
/-! ### the rules of such a suite -/
section
variable {Γ : G} {W : WX} {X : Cx} {a : Addr} {oe : Obj} {C n x : Str} {ds : List D} {o : Option Addr} {pn : List (Addr × Obj)} {i : Nat} {p pos : Pos}
theorem PE.absurd {X : Cx} {e : Expr} {t : TE} (h : ∀ σ H Q, ¬ t σ H Q) : PE X e t := ⟨fun pins s σ H Q I q => (h σ H Q q).elim⟩
theorem q_xis {c : Expr} {T : CK} {xk : Str → CK → Option Bool} {p2 : Pos} (hK : X.K = Γ.K) (hX : ∀ E b, xk E T = some b → L2.ExcC Γ.K (Γ.c E) ∧ PySem.W.kitOne Γ.K (.ref (Γ.c E)) (T.u Γ) = some b) (hz : Zc (.ref (Γ.c C)) o oe) (hf : ∃ vs, oe.data = .fields vs) (hm : X.mg "isinstance" = none)
    (hc : PE (X.suite a ((a, oe) :: pn)) c (tC (T.v Γ))) (hN : X.N[i]? = some n := by rfl) (hv : Vis X.env.scope n := by first | exact Or.inl rfl | exact Or.inr (Or.inl rfl) | exact Or.inr (Or.inr rfl)) (hd : (n == ("__debug__" : Str)) = false := by decide) (hcd : (n == ("__classdict__" : Str)) = false := by decide) (hg : Gl X "isinstance" := by rfl)
    (hs : starEach (.Name n p2 :: [c]) X.env = (false, eval (.Name n p2) X.env) :: starEach [c] X.env := by rfl) (hs2 : starEach (c :: []) X.env = (false, eval c X.env) :: starEach [] X.env := by rfl) (hpl : (backTo pos (starEach [c] X.env)).any (·.1) = false := by rfl) :
    PE (X.suite a ((a, oe) :: pn)) (.Call (.Name "isinstance" p) [.Name n p2, c] [] pos) (tE (Γ.at_ a i C ds o) W (mXis xk i C T)) := by
  cases q : xk C T with
  | none =>
    refine PE.absurd fun σ H Q ⟨env, S, f, rs, re, h⟩ => ?_
    unfold mXis at h
    split at h
    · rw [q] at h; exact h
    · exact h
  | some b =>
    obtain ⟨T1, hk⟩ := hX C b q
    refine PE.imp (pe_callB (X := X.suite a ((a, oe) :: pn)) (call_isErr (fs := []) (by rw [hK]; exact T1) hz hf) hg hm (by decide +kernel) (pa_cons (pe_var (i := i) hN hv hd hcd) (pa_cons hc pa_nil hs2) hs) (by decide) (by decide) hs hpl) fun σ H Q ⟨env, S, f, rs, re, h⟩ => ?_
    unfold mXis at h
    split at h
    · rename_i hi
      rw [q] at h
      refine ⟨_, re.2.2 a i C ds o rfl hi, ?_, T.v Γ, T.u Γ, b, rfl, T.cls, by rw [hK]; exact hk, h f H _ .refl rs Rp.ofBl⟩
      rcases rs.xc a i C ds o rfl with ⟨_, e⟩ | ⟨dd, fvs, e1, e2, r⟩
      · exact .inl e
      · exact .inr ⟨dd, fvs, e1, e2⟩
    · exact h.elim
end
end Lk

set_option Elab.async false
set_option linter.all false
set_option autoImplicit false
set_option maxRecDepth 100000
set_option maxHeartbeats 4000000
/-! Written dicts, globals' values, the law's own end. -/
namespace Lk
open PySem PySem.Spec PyProof.Rows L2
section
variable {Γ : G} {W : WX} {X : Cx} {f : List Addr} {H : Hp} {S : Store} {pos : Pos}
end
/-- the script: ints that are read alone -/
theorem script_rp {Γ : G} {H : Hp} {a : Addr} {ns : List Int} (hO : Only H) (hS : SqL Γ.K H a (ns.map V.int)) : Rp Γ [] H (.rol (ns.map D.int)) (.ref a) := by
  simp only [Rp]
  refine ⟨a, _, rfl, ⟨hS, ?_⟩, ?_⟩
  · rcases hS with (h | ⟨o, h⟩) | h
    · rcases hO a with z | ⟨o, xs, z⟩
      · rw [z] at h; cases h
      · rw [z] at h; cases h
    · exact .inl ⟨o, h⟩
    · exact .inr h
  · have key : ∀ ns : List Int, RpL Γ [] H (ns.map D.int) (ns.map V.int) := by
      intro ns
      induction ns with
      | nil => simp only [List.map_nil, RpL]
      | cons n ns ih =>
        simp only [List.map_cons, RpL]
        exact ⟨_, _, rfl, Rp.ofInt, ih⟩
    exact key ns
/-- the law's promise, from what its mirror says of every script -/
theorem law_sp {Γ : G} {m : List D → Store → R D} {H : Hp} {a : Addr} {ns : List Int} (hx : Γ.xc = none) (hO : Only H) (hS : SqL Γ.K H a (ns.map V.int)) {S' : Store} (hm : m [.rol (ns.map D.int)] [] = .ok (.bl true) S') :
    spOf Γ 1 m [.ref a] H (fun v _ => v = .bl true) (fun _ _ _ => False) := by
  refine ⟨rfl, [], [], [.rol (ns.map D.int)], ⟨rfl, List.nodup_nil, fun n o e => by simp at e, fun a i C ds o e => by rw [hx] at e; cases e⟩, ?_, ?_⟩
  · simp only [RpL]
    exact ⟨_, [], rfl, script_rp hO hS, rfl⟩
  · rw [hm]
    exact fun f' H' b _ _ r => r.bl
theorem cx_none {P : Program} {w : World} (H : Hp) (s : Shared) (e : Value) (s' : Shared) (h : L2.CX P w [] H s (fun _ _ _ => False) e s') : False := by
  obtain ⟨_, _, _, _, _, _, _, _, _, _, _, _, z⟩ := h
  exact z.elim
end Lk

set_option Elab.async false
set_option linter.all false
set_option autoImplicit false
set_option maxRecDepth 100000
set_option maxHeartbeats 4000000
/-! What the head says, as questions that the kernel answers. -/
namespace Lk
open PySem PySem.Spec PyProof.Rows L2
section
variable {K : PySem.W.Frag}
theorem oexB_ok {C : Addr} (h : oexB K C = true) : OexC K C := by
  obtain ⟨h1, h⟩ := b2 h
  obtain ⟨h2, h⟩ := b2 h
  obtain ⟨h3, h⟩ := b2 h
  obtain ⟨h4, h5⟩ := b2 h
  refine ⟨?_, of_decide_eq_true h2, of_decide_eq_true h3, of_decide_eq_true h4, h5⟩
  split at h1
  · rename_i dd cd sl ho
    split at h1
    · rename_i C' bm k0 k1 k2 k3 n k5 hm hs
      simp only [Bool.and_eq_true, beq_iff_eq, Bool.not_eq_true'] at h1
      obtain ⟨e1, e2, e3, e4, e5⟩ := h1
      subst e1
      subst e2
      obtain ⟨nm, bs, mro, ns, qn, hd, sn, sub, ab, col, del⟩ := cd
      dsimp only at hm e3 e5
      subst hm
      subst e3
      subst e5
      obtain ⟨sl⟩ := sl
      dsimp only at hs
      subst hs
      exact ⟨nm, qn, ns, bs, bm, sn, sub, ab, col, dd, k0, k1, k2, k3, k5, ho, e4⟩
    · cases h1
  · cases h1
theorem insB_ok {C : Addr} (h : insB K C = true) : C8.InsC K C := by
  obtain ⟨h1, h⟩ := b2 h
  obtain ⟨h2, h⟩ := b2 h
  obtain ⟨h3, h⟩ := b2 h
  obtain ⟨h4, h⟩ := b2 h
  obtain ⟨h5, h⟩ := b2 h
  obtain ⟨h6, h⟩ := b2 h
  obtain ⟨h7, h⟩ := b2 h
  obtain ⟨h8, h9⟩ := b2 h
  exact ⟨⟨h1, h2, h3, of_decide_eq_true h4⟩, of_decide_eq_true h5, of_decide_eq_true h6, of_decide_eq_true h7, of_decide_eq_true h8, of_decide_eq_true h9⟩
theorem noB_ok {C : Addr} {x : Str} (h : noB K C x = true) : PySem.W.findIn K (.ref C) x = some none := of_decide_eq_true h
theorem isB_ok {Γ : G} {cs : List Str} {T : CK} (h : isB Γ cs T = true) : IsF Γ cs T := by
  obtain ⟨h1, h2⟩ := b2 h
  exact ⟨fun a ha => of_decide_eq_true (List.all_eq_true.mp h1 a ha), fun C hC => of_decide_eq_true (List.all_eq_true.mp h2 C hC)⟩
theorem nfB_ok {Γ : G} {cs : List Str} {C : Str} (h : nfB Γ cs C = true) : ∀ a : CK, okK cs a = true → PySem.W.notFirst Γ.K (Γ.c C) (a.u Γ) = true := by
  obtain ⟨h1, h2⟩ := b2 h
  intro a ha
  cases a with
  | bi n => exact List.all_eq_true.mp h1 n (List.contains_iff_mem.mp ha)
  | own E => exact List.all_eq_true.mp h2 E (List.contains_iff_mem.mp ha)
theorem excB_ok {C : Addr} (h : excB K C = true) : L2.ExcC K C := by
  obtain ⟨h1, h⟩ := b2 h
  obtain ⟨h2, h⟩ := b2 h
  obtain ⟨h3, h⟩ := b2 h
  obtain ⟨h4, h⟩ := b2 h
  obtain ⟨h5, h⟩ := b2 h
  obtain ⟨h6, h⟩ := b2 h
  obtain ⟨h7, h8⟩ := b2 h
  exact ⟨of_decide_eq_true h1, of_decide_eq_true h2, of_decide_eq_true h3, h4, of_decide_eq_true h5, of_decide_eq_true h6, of_decide_eq_true h7, of_decide_eq_true h8⟩
theorem biB_ok {h : Heap} {mg : Str → Option Value} (X : K.In h) (Gs : h.Ns mainGlobals mg) {x : Str} {id : String} (c : biB K x id = true) : mg x = some (.builtin id) := PySem.W.mg_of X Gs (He.eqO_ok c)
end
/-! ### the questions, asked at the head's end -/
theorem obsLG_eq {n : Nat} {fa : Qs} {fn : List He.DefD} {g : Addr → Option Obj} {s : Shared} (h : ∀ a, g a = s.heap.get? a) : obsLG n fa fn g = (hookL n fa fn).obs s := by
  have e : g = s.heap.get? := funext h
  rw [e] <;> rfl
section
variable {fa : Qs} {fn : List He.DefD} {K : PySem.W.Frag}
theorem SaysL.fact (c : SaysL fa fn K) (i : Nat) {q : PySem.W.Frag → Bool} (h : fa[i]? = some q := by rfl) : q K = true := by
  have c1 := (b2 (show ((fa.all fun q => q K) && fn.all fun d => d.ok K) = true from congrArg (fun z : He.AlD => z.1) c)).1
  exact List.all_eq_true.mp c1 q (List.mem_of_getElem? h)
theorem SaysL.def_ (c : SaysL fa fn K) (i : Nat) {d : He.DefD} (h : fn[i]? = some d := by rfl) : ∃ fd, FunD K d.name d.qual d.params d.body d.scope (d.dvs K) (d.kws K) (He.fAd K d.at_) fd := by
  have c2 := (b2 (show ((fa.all fun q => q K) && fn.all fun d => d.ok K) = true from congrArg (fun z : He.AlD => z.1) c)).2
  have e : fn.map (fun d => He.fnW K d.at_) = fn.map He.DefD.val := congrArg (fun z : He.AlD => z.2) c
  have e2 : (fn.map fun d => He.fnW K d.at_)[i]? = (fn.map He.DefD.val)[i]? := by rw [e]
  rw [List.getElem?_map, List.getElem?_map, h] at e2
  exact He.DefD.funD (Option.some.inj e2) (List.all_eq_true.mp c2 d (List.mem_of_getElem? h))
end
end Lk

set_option Elab.async false
set_option linter.all false
set_option autoImplicit false
set_option maxRecDepth 100000
set_option maxHeartbeats 4000000
namespace Lk
open PySem PySem.Spec PyProof.Rows L2
section
variable {Γ : G} {W : WX} {X : Cx} {f : List Addr} {S : Store} {H : Hp} {e : Expr} {es : List Expr} {p pos apos cpos : Pos} {mr : MA} {mo : ME} {o : Expr} {name : Str}
theorem all_cons {α : Type} {p : α → Prop} {a : α} {l : List α} (h : p a) (r : ∀ b ∈ l, p b) : ∀ b ∈ a :: l, p b := fun b hb => by
  rcases List.mem_cons.mp hb with e | e
  · subst e; exact h
  · exact r b e
theorem q_callG {id : String} {x : Str} {r : List V → Hp → VK → Prop} {g : List D → Store → R D} (hc : CallR X (.builtin id) r) (hg' : ArOk Γ r g) (hm : X.mg x = some (.builtin id)) (ha : PA X (e :: es) (tA Γ W mr)) (hg : Gl X x := by rfl) (hdb : (x == ("__debug__" : Str)) = false := by decide)
    (he : starEach (e :: es) X.env = (false, eval e X.env) :: starEach es X.env := by rfl) (hpl : (backTo pos (starEach es X.env)).any (·.1) = false := by rfl) : PE X (.Call (.Name x p) (e :: es) [] pos) (tE Γ W (mB g mr)) := PE.imp (pe_callBfun hc hg hm ha hdb he hpl) fun σ H Q => many hg'
theorem q_bm {id : String} {r : V → List V → Hp → VK → Prop} {g : D → List D → Store → R D} (hK : X.K = Γ.K) (hg : MtOk Γ r g) (pa : PlainAttrs "list") (slot : Slot "list" name id) (hty : typeOf (.builtin id) = pure (.type "method_descriptor")) (hm : MtR X id r) (ho : PE X o (tE Γ W mo)) (ha : PA X (e :: es) (tA Γ W mr))
    (hbase : attributeBase o name X.env (eval o X.env) = eval o X.env := by rfl)
    (hfew : ((backTo cpos (starEach (e :: es) X.env)).all (fun x => !x.1) && (backToKw cpos (keywordEach [] X.env)).all (fun x => x.1.isSome)
      && decide ((e :: es).length + ([] : List Keyword).length + (if ([] : List Keyword).isEmpty then 0 else 1) < 30)) = true := by rfl)
    (hline : (apos.endLine == cpos.line) = true := by rfl) (hs : starEach (e :: es) X.env = (false, eval e X.env) :: starEach es X.env := by rfl) (hplain : (backTo cpos (starEach es X.env)).any (·.1) = false := by rfl) :
    PE X (.Call (.Attribute o name apos) (e :: es) [] cpos) (tE Γ W (mBM g mo mr)) := PE.imp (pe_bm pa slot hty hm ho ha hbase hfew hline hs hplain) fun σ H Q h => bm_imp hK hg h
/-! ### str of an int -/
theorem ns_of {K : PySem.W.Frag} {h : Heap} {N : Addr} {mg : Str → Option Value} {n : Str} {v : Value} (X : K.In h) (G : h.Ns N mg) (e : PySem.W.nsIn K N n = some (some v)) : mg n = some v := by
  obtain ⟨o, es, ep, ho, hd, _, hf⟩ := G
  unfold PySem.W.nsIn at e
  split at e
  · rename_i c d es' n' sl q
    have := X _ _ q
    rw [ho] at this
    cases this
    cases hd
    split at e
    · rename_i en he
      cases e
      rw [← hf]
      unfold nsFind findBy
      rw [← Array.find?_toList, he]
      first | rfl | simp
    · split at e <;> cases e
  · cases e
/-! ### != of two instances of one class with an own == and no own != -/
theorem ownNeB_ok {K : PySem.W.Frag} {C f : Addr} (h : ownNeB K C f = true) : OwnNe K C f := by
  obtain ⟨h1, h2⟩ := b2 h
  refine ⟨?_, by
    split at h2
    · rename_i o ho; exact ⟨o, ho, beq_iff_eq.mp h2⟩
    · cases h2⟩
  split at h1
  · rename_i dd cd sl ho
    split at h1
    · rename_i C' k0 k1 k2 k3 n k5 hm hs
      simp only [Bool.and_eq_true, beq_iff_eq, Bool.not_eq_true'] at h1
      obtain ⟨e1, e2, e3, e4, e5⟩ := h1
      subst e1
      obtain ⟨nm, bs, mro, ns, qn, hd, sn, sub, ab, col, del⟩ := cd
      dsimp only at hm e2 e3 e4 e5
      subst hm
      subst e2
      obtain ⟨sl⟩ := sl
      dsimp only at hs
      subst hs
      exact ⟨nm, qn, ns, bs, hd, sn, sub, ab, col, dd, k0, k1, k2, k3, k5, n, ho, e3, of_decide_eq_true e4, of_decide_eq_true e5⟩
    · cases h1
  · cases h1
def rOwnNe (Γ : G) (oe : Str → Option (List D → Store → R D)) : R2 := fun x y H Q => ∃ C m a b dx fs dy gs, oe C = some m ∧ x = .ref a ∧ H a = some (.ins (Γ.c C) dx fs) ∧ y = .ref b ∧ H b = some (.ins (Γ.c C) dy gs) ∧ spOf Γ 2 m [x, y] H (fun v H' => ∃ b, v = .bl b ∧ Q (.bl (!b)) H') (fun _ _ _ => False)
theorem or_ownNe {k : Nat} {oe : Str → Option (List D → Store → R D)} (hK : X.K = Γ.K) (hr : Room (k + 1) X.A) (ho : ∀ C m, oe C = some m → NeC Γ X.prog X.w X.mg X.base k C m) : OpR X (compareOp .NotEq) (rOwnNe Γ oe) := by
  intro pins s σ H x y v u Q I rx ry h
  obtain ⟨C, m, a, b, dx, fs, dy, gs, hC, ex, hh, ey, hh2, hsp⟩ := h
  subst ex
  subst ey
  obtain rfl : v = Value.ref a := rx
  obtain rfl : u = Value.ref b := ry
  obtain ⟨g, fd, ps, on, F, hb⟩ := (ho C m hC).ne
  obtain ⟨nm, q, N, bs, hd, sn, sub, ab, col, dd, k0, k1, k2, k3, k5, n, hl, n1, n2, n3⟩ := on.cls
  obtain ⟨mA, J, _⟩ := ins_get I.hok hh
  obtain ⟨mB, J2, _⟩ := ins_get I.hok hh2
  have KI : Γ.K.In s.heap := by rw [← hK]; exact I.kIn
  obtain ⟨of, hf1, hf2⟩ := on.fn
  have hns := Heap.Ns.of_isNs (PySem.W.isNs_of_in KI n1)
  have he : s.heap.nsMap N "__eq__" = some (.ref g) := ns_of KI hns n2
  have hne : s.heap.nsMap N "__ne__" = none := PySem.W.nsMap_none_of_in KI n1 n3
  have OE : s.heap.OwnEqNoNe a (Γ.c C) g "object" [.type "object"] :=
    ⟨_, of, nm, q, N, bs, hd, sn, sub, ab, col, dd, k0, k1, k2, k3, k5, n, _, _, J.obj, rfl, KI _ _ hl, hns, he, KI _ _ hf1, hf2, PySem.F.cmp_object.mro, PySem.F.cmp_object.eq.lookup, hne⟩
  have I0 := I
  obtain ⟨hh0, g0, d0, t0, os0⟩ := s
  refine compareOp_ne_ownEq PySem.F.cmp_object OE J2.obj rfl (by have := hr.un; omega) ?_
  have r : Vals [V.ref a, V.ref b] [.ref a, .ref b] := .cons rfl (.cons rfl .nil)
  have hle : ([Value.ref a, .ref b] : List Value).length = ps.length := by
    have := F.len _ _ _ _ hsp
    exact this
  have bb := hb ⟨hh0, g0, d0, t0, os0⟩ [.ref a, .ref b] KI (by rw [List.append_nil]; exact hle)
  rw [List.append_nil] at bb
  have e0 : Env0 X.prog X.w Γ.K X.mg X.base X.A.in1 X.stack ⟨hh0, g0, d0, t0, os0⟩ H := by rw [← hK]; exact I.env0.in1
  refine wpAny_call (codeAny_mono (F.run X.A.in1 X.stack ⟨hh0, g0, d0, t0, os0⟩ H ⟨[.ref a, .ref b], []⟩ [.ref a, .ref b] [V.ref a, V.ref b] (fun v H' => ∃ b, v = .bl b ∧ Q (.bl (!b)) H') (fun _ _ _ => False) hr.in1 e0 bb r hsp) fun r s' hq => ?_)
  cases r with
  | error e =>
    obtain ⟨_, _, _, _, _, _, _, _, _, _, _, _, z⟩ := hq
    exact z.elim
  | ok fl =>
    cases fl with
    | ret u =>
      obtain ⟨v, H', I', rz, c, ec, qz⟩ := I.after hq
      subst ec
      obtain rfl : u = Value.bool c := rz
      exact ⟨c, rfl, .bl (!c), H', I', rfl, qz⟩
    | next => exact False.elim hq
    | brk => exact False.elim hq
    | cont => exact False.elim hq
def rNeX (Γ : G) (oe : Str → Option (List D → Store → R D)) : R2 := fun x y H Q => rNeD Γ.K x y H Q ∨ rOwnNe Γ oe x y H Q
theorem or_ne {k : Nat} {oe : Str → Option (List D → Store → R D)} (hK : X.K = Γ.K) (hr : Room (k + 1) X.A) (ho : ∀ C m, oe C = some m → NeC Γ X.prog X.w X.mg X.base k C m) : OpR X (compareOp .NotEq) (rNeX Γ oe) := OpR.or (by rw [← hK]; exact op_neD hr.units) (or_ownNe hK hr ho)
theorem ok_neX {oe : Str → Option (List D → Store → R D)} : OpOk Γ (rNeX Γ oe) (gNeX oe) := fun W σ f S H x y v u Q rs rx ry h => by
  unfold gNeX at h
  split at h
  · rename_i C xs C' ys
    split at h
    · rename_i ec
      subst ec
      split at h
      · rename_i m hm
        have rx0 := rx
        have ry0 := ry
        simp only [Rp] at rx ry
        obtain ⟨a, dx, fvs, e, hh, _⟩ := rx
        obtain ⟨b, dy, gvs, e2, hh2, _⟩ := ry
        refine .inr ⟨C, m, a, b, dx, fvs, dy, gvs, hm, e, hh, e2, hh2, rfl, f, S, [.ins C xs, .ins C ys], rs, ?_, ?_⟩
        · simp only [RpL]
          exact ⟨v, [u], rfl, rx0, u, [], rfl, ry0, rfl⟩
        · revert h
          cases m [.ins C xs, .ins C ys] S with
          | ok d S' =>
            cases d with
            | bl b =>
              intro h f' H' v' u' rs' r'
              exact ⟨b, r'.bl, h f' H' _ u' rs' Rp.ofBl⟩
            | _ => exact fun h => h.elim
          | _ => exact fun h => h.elim
      · exact h.elim
    · exact h.elim
  · exact .inl (ok_ne W σ f S H x y v u Q rs rx ry h)
end
end Lk

set_option Elab.async false
set_option linter.all false
set_option autoImplicit false
set_option maxRecDepth 100000
set_option maxHeartbeats 4000000
namespace Lk
open PySem PySem.Spec PyProof.Rows L2
/-- the end: from the mirror's answer on every script to the law's walk -/
theorem walk_fin {l : PySem.W.OpenLaw} {n k : Nat} {q : Program} {loose : List Str} {XP : (Str → Option Value) → Heap → Prop} {YP : World → Heap → Prop} {d : DefRec} {x : Str} {m : List D → Store → R D}
    (hn : l.most = some n) (hn2 : n ≤ sizeLine) (hdf : d.params.defaults = []) (hr : Room k callerA)
    (hm : ∀ ns : List Int, ns.length ≤ n → ∃ S', m [.rol (ns.map D.int)] [] = .ok (.bl true) S')
    (F : ∀ (w : World) (mg : Str → Option Value) (fa : Addr) (h : Heap), YP w h → h.Ns mainGlobals mg → mg d.name = some (.ref fa) →
      ∃ (Γ : G) (fd : FuncData), Γ.xc = none ∧ Γ.K.In h ∧ (∀ (s : Shared) (u : Value), BindsTo s fd ⟨[u], []⟩ [(x, u)]) ∧ ∀ base : Heap, Γ.K.In base → base.Ns mainGlobals mg → FnOk l.prog w Γ.K mg base (L2.CX l.prog w) k fa fd [x] (spOf Γ 1 m)) :
    PySem.W.WalkO q loose XP YP l.row.toRowW d [] (fun f vs => PySem.call f vs) := by
  refine Att.attach_call hn hdf fun w s₀ s₁ mg mb fa o pm cd doc a vs ns G Y ho hd hcd hmg hobj hints hlen hg => ?_
  obtain ⟨Γ, fd, hx, KX, hb, hF⟩ := F w mg fa _ Y G.T.g hmg
  refine law_call KX G.T.g G.T.b G.T.builtins G.T.nolimit hg hobj hints (Nat.le_trans hlen hn2) hr hF hb (fun H hO hS => ?_) fun H e s' z => cx_none _ _ _ _ z
  obtain ⟨S', e⟩ := hm ns hlen
  exact law_sp hx hO hS e
end Lk

set_option Elab.async false
set_option linter.all false
set_option autoImplicit false
set_option maxRecDepth 100000
set_option maxHeartbeats 4000000
/-! a dict of at most one entry, compared with itself -/
namespace Lk
open PySem PySem.Spec PyProof.Rows L2
section
variable {K : Type} [DecidableEq K] {prog : Program} {w : World} {knd : KeyKind prog w K} {A : Around} {E : Value → Shared → Prop} {s : Shared}
theorem eqBool_self {v : Value} (hv : (v == v) = true) {Q : Bool → Shared → Prop} (h : Q true s) : wpAny (model prog w) A (eqBool v v) Q E s := by
  unfold eqBool
  try with_reducible refine wpAny_holding ?_
  rw [if_pos hv]
  exact wpAny_bind (wpAny_rule (wpAny_pure h))
theorem samePairs_self {id : String} {a : Addr} {o : Obj} {es : Array DictEntry} {ep : Nat} (ho : s.heap.get? a = some o) (hd : o.data = .dict es ep) (hk : KeysOf knd es) (hs : es.size ≤ 1) (hv : ∀ e ∈ es, (e.val == e.val) = true) (ha : (a == sysModules) = false) {Q : Bool → Shared → Prop} (h : Q true s) :
    wpAny (model prog w) A (Builtin.Dict.samePairs id a a) Q E s := by
  unfold Builtin.Dict.samePairs Builtin.Dict.showsAll
  rw [ha]
  simp only [Bool.false_eq_true, if_false]
  refine wpAny_bind (wpAny_pure ?_)
  refine wpAny_bind (wpAny_pure ?_)
  refine wpAny_bind (wpAny_dictEntries ho hd ?_)
  refine wpAny_bind (wpAny_dictEntries ho hd ?_)
  rw [show (es.size != es.size) = false from by simp]
  simp only [Bool.false_eq_true, if_false]
  try refine wpAny_bind (wpAny_pure ?_)
  refine wpAny_bind (wpAny_dictEpoch ho hd ?_)
  refine wpAny_bind (SeqAt.wpAny_forIn_span 0 es.size _ (fun i c s' => c = (none, ()) ∧ s' = s) _ (fun i c s' _ hi hc => ?_) (fun c s' hc => ?_) _ ⟨rfl, rfl⟩)
  · obtain ⟨rfl, rfl⟩ := hc
    have e0 : i = 0 := by omega
    subst e0
    have hm : es[0] ∈ es := Array.getElem_mem hi
    have hat : es[0]? = some es[0] := Array.getElem?_eq_getElem hi
    obtain ⟨k, hkey, hhash⟩ := hk es[0] hm
    refine wpAny_bind (wpAny_dictEntries ho hd ?_)
    rw [hat]
    refine wpAny_bind (wpAny_holding ?_)
    rw [hhash]
    refine wpAny_bind (wpAny_dictFind_of hkey ho hd hk ?_)
    have hf : (es.findIdx? fun e => knd.is k e.key) = some 0 := by
      obtain ⟨l⟩ := es
      cases l with
      | nil => simp at hi
      | cons x r =>
        rw [Array.findIdx?_eq_some_iff_getElem]
        exact ⟨hi, hkey, fun j hj => absurd hj (by omega)⟩
    rw [hf]
    refine wpAny_bind (wpAny_dictEntries ho hd ?_)
    rw [hat]
    refine wpAny_holding (eqBool_self (hv _ hm) ?_)
    simp only [Bool.not_true, Bool.false_eq_true, if_false]
    refine wpAny_bind (wpAny_dictEpoch ho hd ?_)
    simp only [bne_self_eq_false, Bool.false_eq_true, if_false]
    exact wpAny_pure ⟨rfl, rfl⟩
  · obtain ⟨rfl, rfl⟩ := hc
    exact wpAny_pure h
theorem sub_dict_dict : isSubtype (.type "dict") (.type "dict") = pure true := by rw [isSubtype_type]; kernel_rfl
theorem dictEq_self {a : Addr} {o : Obj} {es : Array DictEntry} {ep : Nat} (ho : s.heap.get? a = some o) (hx : o.ExactDict) (hd : o.data = .dict es ep) (hk : KeysOf knd es) (hs : es.size ≤ 1) (hv : ∀ e ∈ es, (e.val == e.val) = true) (ha : (a == sysModules) = false) {Q : Fin → Shared → Prop} (h : Q (.done (.ret (.bool true))) s) :
    wpAny (model prog w) A (Builtin.«dict.__eq__» ⟨[.ref a, .ref a], []⟩) Q E s := by
  obtain ⟨hp, g, d, tk, os⟩ := s
  have f3 := sub_dict_dict
  have ht : typeOf (.ref a) = typeOf (.ref a) := rfl
  obtain ⟨c, dd, dt, sl⟩ := o
  obtain ⟨h1, h2, h3⟩ := hx
  dsimp only at h1 h2 h3 hd
  subst h1
  wp_walk using (samePairs_self (w := w) (knd := knd) ho hd hk hs hv ha), wpAny_loadPart' ho, wpAny_typeOf_ref ho
  exact h
theorem dictCmp_self {a : Addr} {o : Obj} {es : Array DictEntry} {ep : Nat} (hu : A.units < cLine) (ho : s.heap.get? a = some o) (hx : o.ExactDict) (hd : o.data = .dict es ep) (hk : KeysOf knd es) (hs : es.size ≤ 1) (ha : (a == sysModules) = false) {Q : Value → Shared → Prop} (h : Q (.bool true) s) :
    wpAny (model prog w) A (compareOp .Eq (.ref a) (.ref a)) Q E s := by
  have hT : s.TypeIs (.ref a) "dict" := by
    obtain ⟨c, dd, dt, sl⟩ := o
    obtain ⟨h1, h2, h3⟩ := hx
    dsimp only at h1
    subst h1
    exact ⟨_, ho, rfl⟩
  have hB := dictEq_self (Q := fun fin s' => match fin with | .done f => (wants (fun v s' => v ≠ .notImplemented ∧ Q v s') E) (.ok f) s' | .again c' => c'.quiet = true ∧ codeAny (model prog w) A c' (wants (fun v s' => v ≠ .notImplemented ∧ Q v s') E) s') (A := A.in1) (E := fun e s' => (wants (fun v s' => v ≠ .notImplemented ∧ Q v s') E) (.error e) s') (w := w) (knd := knd) ho hx hd hk hs (fun e _ => by simp) ha ⟨fun z => (nomatch z), h⟩
  show wpAny (model prog w) A (richCompare .Eq (.ref a) (.ref a)) Q E s
  exact wpAny_richCompare_same_room hT hT PySem.F.slot_dict_eq (wpAny_call (codeAny_call_builtin PySem.F.slot_dict_eq.plain PySem.F.entry_dict_eq (PySem.F.slot_dict_eq.check _ _ _ _ _ _ _ _ hT (PySem.F.args_dict_eq_2 _ _) hB))) hu
end
section
variable {Γ : G} {X : Cx}
def rDictSelf : R2 := fun x y H Q => ∃ a kvs, x = .ref a ∧ y = .ref a ∧ H a = some (.dK kvs) ∧ kvs.length ≤ 1 ∧ Q (.bl true) H
theorem or_dictSelf (hu : X.A.units < cLine) : OpR X (compareOp .Eq) rDictSelf := by
  intro pins s σ H x y v u Q I rx ry h
  obtain ⟨a, kvs, ex, ey, hh, hl, q⟩ := h
  subst ex
  subst ey
  obtain rfl : v = Value.ref a := rx
  obtain rfl : u = Value.ref a := ry
  obtain ⟨_, hy, vs, hkv, o, es, ep, ho, hx, hd, hk, hp, _⟩ := (show ObjOk X.prog X.w H s.heap a (.dK kvs) from I.hok a _ hh)
  have hs : es.size ≤ 1 := by
    have h1 := hp.length
    have h2 : vs.length = kvs.length := by first | exact hkv.length.symm | exact hkv.length
    rw [← Array.length_toList]
    omega
  exact dictCmp_self hu ho hx hd hk hs hy ⟨.bl true, H, I, rfl, q⟩
def rEqZ (Γ : G) (cs : List Str) (oe : Str → Option (List D → Store → R D)) : R2 := fun x y H Q => rEqX Γ cs oe x y H Q ∨ rDictSelf x y H Q
theorem or_eqZ {k : Nat} {cs : List Str} {oe : Str → Option (List D → Store → R D)} (hK : X.K = Γ.K) (hr : Room k X.A) (ho : ∀ C m, oe C = some m → EqC Γ X.prog X.w X.mg X.base cs k C m) : OpR X (compareOp .Eq) (rEqZ Γ cs oe) := OpR.or (or_eq hK hr ho) (or_dictSelf hr.units0)
theorem ok_eqZ {cs : List Str} {oe : Str → Option (List D → Store → R D)} (hI : ∀ C ∈ cs, C8.InsC Γ.K (Γ.c C)) : OpOk Γ (rEqZ Γ cs oe) (gEqZ cs oe) := fun W σ f S H x y v u Q rs rx ry h => by
  unfold gEqZ at h
  split at h
  · rename_i n m
    split at h
    · rename_i kvs hn
      split at h
      · rename_i c
        obtain ⟨c1, c2⟩ := c
        subst c1
        obtain ⟨b, hb, us, hh, ek, _⟩ := rs.ob _ _ hn
        have hb2 : v = .ref b := by
          simp only [Rp] at rx
          obtain ⟨a, e1, e2⟩ := rx
          rw [hb] at e1
          cases e1
          exact e2
        have hb3 : u = .ref b := by
          simp only [Rp] at ry
          obtain ⟨a, e1, e2⟩ := ry
          rw [hb] at e1
          cases e1
          exact e2
        refine .inr ⟨b, us, hb2, hb3, hh, ?_, h f H _ .refl rs Rp.ofBl⟩
        have := congrArg List.length ek
        simp only [List.length_map] at this
        omega
      · exact h.elim
    · exact .inl (ok_eq hI W σ f S H _ _ v u Q rs rx ry h)
  · exact .inl (ok_eq hI W σ f S H _ _ v u Q rs rx ry h)
end
end Lk

set_option Elab.async false
set_option linter.all false
set_option autoImplicit false
set_option maxRecDepth 100000
set_option maxHeartbeats 4000000
/-! constants of the module; chains; in, of data; enumerate of a list -/
namespace Lk
open PySem PySem.Spec PyProof.Rows L2
section
variable {Γ : G} {W : WX} {X : Cx} {f : List Addr} {S : Store} {H : Hp} {a b c d e : Expr} {es : List Expr} {p pos : Pos} {ma mb mc md : ME}
theorem q_gint {x : Str} {i : Int} (hm : ∃ t, X.mg x = some (.int i t)) (hg : Gl X x := by rfl) (hd : (x == ("__debug__" : Str)) = false := by decide) : PE X (.Name x pos) (tE Γ W (mC (.int i))) := by
  obtain ⟨t, hm⟩ := hm
  exact PE.imp (pe_glob (v := .int i) hg hm ⟨t, rfl⟩ hd) fun σ H Q ⟨env, S, f, rs, re, h⟩ => h f H _ .refl rs Rp.ofInt
/-! ### chains -/
theorem link_core {r : R2} {g : D → D → Store → R D} (hg : OpOk Γ r g) {σ : L2.St} {env : Env} {x : D} {v : V} {tb : TE} {k : D → ME} {T : V → Hp → Prop} {Q : VK}
    (hb : ∀ {σ : L2.St} {H : Hp} {Q : VK}, tE Γ W mb σ H Q → tb σ H Q) (rs : RelS Γ f S H) (re : RelE Γ f H env σ) (rx : Rp Γ f H x v) (h : Wp Γ W σ f H (Rp Γ) Q (mLink g x mb k env S))
    (hk : ∀ (f1 : List Addr) (S1 : Store) (H1 : Hp) (y : D) (u : V), RelS Γ f1 S1 H1 → RelE Γ f1 H1 env σ → Rp Γ f1 H1 y u → Wp Γ W σ f1 H1 (Rp Γ) Q (k y env S1) → T u H1) :
    tb σ H fun u H1 => r v u H1 fun z H2 => ∃ t, z = .bl t ∧ (if t = true then T u H2 else Q (.bl false) H2) := by
  refine hb ⟨env, S, f, rs, re, Wp.bindL h fun y S1 f1 H1 u u1 rs1 r1 h1 => ?_⟩
  refine hg W σ f1 S1 H1 x y v u _ rs1 (rx.up u1) r1 (Wp.bindL h1 fun z S2 f2 H2 w u2 rs2 r2 h2 => ?_)
  cases z with
  | bl t =>
    refine ⟨t, r2.bl, ?_⟩
    have h2 : Wp Γ W σ f2 H2 (Rp Γ) Q (if t = true then k y env S2 else .ok (.bl false) S2) := h2
    cases t with
    | true => exact hk f2 S2 H2 y u rs2 ((re.up u1).up u2) (r1.up u2) h2
    | false => exact h2 f2 H2 _ .refl rs2 Rp.ofBl
  | _ => exact h2.elim
theorem q_chain {op op' : CmpOp} {r r' : R2} {g g' : D → D → Store → R D} (ho : OpR X (compareOp op) r) (hg : OpOk Γ r g) (ho' : OpR X (compareOp op') r') (hg' : OpOk Γ r' g') (ha : PE X a (tE Γ W ma)) (hb : PE X b (tE Γ W mb)) (hc : PE X c (tE Γ W mc))
    (hm : lastMarks [op, op'] [b, c] = false := by with_unfolding_all rfl) : PE X (.Compare a [op, op'] [b, c] pos) (tE Γ W (mCh2 g g' ma mb mc)) := PE.imp (pe_chain ho ho' ha hb hc hm) fun σ H Q ⟨env, S, f, rs, re, h⟩ => by
  refine ⟨env, S, f, rs, re, Wp.bindL h fun x S1 f1 H1 v u1 rs1 r1 h1 => ?_⟩
  refine link_core (tb := tE Γ W mb) hg (fun z => z) rs1 (re.up u1) r1 h1 fun f2 S2 H2 y u rs2 re2 r2 h2 => ?_
  exact ⟨env, S2, f2, rs2, re2, Wp.bindL h2 fun z S3 f3 H3 w u3 rs3 r3 h3 => hg' W σ f3 S3 H3 y z u w Q rs3 (r2.up u3) r3 h3⟩
/-- a op1 b op2 c op3 d -/
def tChain3 (r r' r'' : R2) (ta tb tc td : TE) : TE := fun σ H Q => ta σ H fun x H1 => tb σ H1 fun y H2 => r x y H2 fun z H3 => ∃ k, z = .bl k ∧
  (if k = true then tc σ H3 fun y' H4 => r' y y' H4 fun z' H5 => ∃ k', z' = .bl k' ∧ (if k' = true then td σ H5 fun w' H6 => r'' y' w' H6 Q else Q (.bl false) H5) else Q (.bl false) H3)
theorem pe_chain3 {op op' op'' : CmpOp} {r r' r'' : R2} {ta tb tc td : TE} (ho : OpR X (compareOp op) r) (ho' : OpR X (compareOp op') r') (ho'' : OpR X (compareOp op'') r'') (ha : PE X a ta) (hb : PE X b tb) (hc : PE X c tc) (hd : PE X d td)
    (hm : lastMarks [op, op', op''] [b, c, d] = false := by with_unfolding_all rfl) : PE X (.Compare a [op, op', op''] [b, c, d] pos) (tChain3 r r' r'' ta tb tc td) := by
  refine ⟨fun pins s σ H Q I h => ?_⟩
  refine Compare_chain (thn (ha.run pins s σ H _ I h) fun v s1 ⟨x, H1, I1, r1, q1⟩ => chain_link (thn (hb.run pins s1 σ H1 _ I1 q1) fun u s2 ⟨y, H2, I2, r2, q2⟩ =>
    thn (ho pins s2 σ H2 x y v u _ I2 r1 r2 q2) fun d s3 ⟨z, H3, I3, r3, k, e, q3⟩ => ?_)) hm
  subst e
  cases r3
  refine wpAny_truthy_bool ?_
  cases k with
  | false => exact ite_ff ⟨.bl false, H3, I3, rfl, q3⟩
  | true =>
    refine ite_tt (chain_link (thn (hc.run pins s3 σ H3 _ I3 q3) fun u' s4 ⟨y', H4, I4, r4, q4⟩ => thn (ho' pins s4 σ H4 y y' u u' _ I4 r2 r4 q4) fun d s5 ⟨z', H5, I5, r5, k', e', q5⟩ => ?_))
    subst e'
    cases r5
    refine wpAny_truthy_bool ?_
    cases k' with
    | false => exact ite_ff ⟨.bl false, H5, I5, rfl, q5⟩
    | true => exact ite_tt (chain_last (thn (hd.run pins s5 σ H5 _ I5 q5) fun w' s6 ⟨z', H6, I6, r6, q6⟩ => ho'' pins s6 σ H6 y' z' u' w' Q I6 r4 r6 q6))
theorem q_chain3 {op op' op'' : CmpOp} {r r' r'' : R2} {g g' g'' : D → D → Store → R D} (ho : OpR X (compareOp op) r) (hg : OpOk Γ r g) (ho' : OpR X (compareOp op') r') (hg' : OpOk Γ r' g') (ho'' : OpR X (compareOp op'') r'') (hg'' : OpOk Γ r'' g'')
    (ha : PE X a (tE Γ W ma)) (hb : PE X b (tE Γ W mb)) (hc : PE X c (tE Γ W mc)) (hd : PE X d (tE Γ W md))
    (hm : lastMarks [op, op', op''] [b, c, d] = false := by with_unfolding_all rfl) : PE X (.Compare a [op, op', op''] [b, c, d] pos) (tE Γ W (mCh3 g g' g'' ma mb mc md)) := PE.imp (pe_chain3 ho ho' ho'' ha hb hc hd hm) fun σ H Q ⟨env, S, f, rs, re, h⟩ => by
  refine ⟨env, S, f, rs, re, Wp.bindL h fun x S1 f1 H1 v u1 rs1 r1 h1 => ?_⟩
  refine link_core (tb := tE Γ W mb) hg (fun z => z) rs1 (re.up u1) r1 h1 fun f2 S2 H2 y u rs2 re2 r2 h2 => ?_
  refine link_core (tb := tE Γ W mc) hg' (fun z => z) rs2 re2 r2 h2 fun f3 S3 H3 y' u' rs3 re3 r3 h3 => ?_
  exact ⟨env, S3, f3, rs3, re3, Wp.bindL h3 fun z S4 f4 H4 w u4 rs4 r4 h4 => hg'' W σ f4 S4 H4 y' z u' w Q rs4 (r3.up u4) r4 h4⟩
theorem PT.ofTest {t : TE} {whole : Expr} {m : ME} (h : PT X whole (tTest t)) (hi : ∀ σ H Q, tE Γ W m σ H Q → t σ H Q) : PT X whole (tT Γ W (mTest m)) := PT.imp h fun σ H Q ⟨env, S, f, rs, re, h⟩ =>
  hi _ _ _ ⟨env, S, f, rs, re, Wp.bindL h fun x S1 f1 H1 v u1 rs1 r1 h1 => asBL rs1 r1 h1⟩
theorem chain_imp {r r' : R2} {g g' : D → D → Store → R D} (hg : OpOk Γ r g) (hg' : OpOk Γ r' g') : ∀ σ H Q, tE Γ W (mCh2 g g' ma mb mc) σ H Q → tChain r r' (tE Γ W ma) (tE Γ W mb) (tE Γ W mc) σ H Q := fun σ H Q ⟨env, S, f, rs, re, h⟩ => by
  refine ⟨env, S, f, rs, re, Wp.bindL h fun x S1 f1 H1 v u1 rs1 r1 h1 => ?_⟩
  refine link_core (tb := tE Γ W mb) hg (fun z => z) rs1 (re.up u1) r1 h1 fun f2 S2 H2 y u rs2 re2 r2 h2 => ?_
  exact ⟨env, S2, f2, rs2, re2, Wp.bindL h2 fun z S3 f3 H3 w u3 rs3 r3 h3 => hg' W σ f3 S3 H3 y z u w Q rs3 (r2.up u3) r3 h3⟩
theorem qt_chain {op op' : CmpOp} {r r' : R2} {g g' : D → D → Store → R D} (ho : OpR X (compareOp op) r) (hg : OpOk Γ r g) (ho' : OpR X (compareOp op') r') (hg' : OpOk Γ r' g') (ha : PE X a (tE Γ W ma)) (hb : PE X b (tE Γ W mb)) (hc : PE X c (tE Γ W mc))
    (hm : lastMarks [op, op'] [b, c] = false := by with_unfolding_all rfl) : PT X (.Compare a [op, op'] [b, c] pos) (tT Γ W (mTest (mCh2 g g' ma mb mc))) := PT.ofTest (pt_chain ho ho' ha hb hc hm) (chain_imp hg hg')
/-! ### in, of data in a list -/
def gInD (neg : Bool) (x y : D) (S : Store) : R D := match pyD S 12 x, pyD S 12 y with
  | some d, some (.list ds) => if SeqAt.shaped d = true ∧ SeqAt.shaped (.list ds) = true then .ok (.bl (if neg then !ds.any fun z => PyData.eqv z d else ds.any fun z => PyData.eqv z d)) S else .bad
  | _, _ => .bad
def rInN (K : PySem.W.Frag) (neg : Bool) : R2 := if neg then rNotInD K else rInD K
theorem ok_inD {neg : Bool} : OpOk Γ (rInN Γ.K neg) (gInD neg) := fun W σ f S H x y v u Q rs rx ry h => by
  unfold gInD at h
  split at h
  · rename_i d ds hd hds
    split at h
    · rename_i c
      have h1 := pyD_ok rs _ _ _ _ hd rx
      have h2 := pyD_ok rs _ _ _ _ hds ry
      cases neg with
      | true => exact ⟨d, ds, h1, h2, c.1, c.2, h f H _ .refl rs Rp.ofBl⟩
      | false => exact ⟨d, ds, h1, h2, c.1, c.2, h f H _ .refl rs Rp.ofBl⟩
    · exact h.elim
  · exact h.elim
def rInT (K : PySem.W.Frag) (neg : Bool) : R2 := fun x y H Q => ∃ d ds, Dp K H x d ∧ Dp K H y (.tuple ds) ∧ SeqAt.shaped d = true ∧ SeqAt.shaped (.tuple ds) = true ∧ Q (.bl (if neg then !ds.any fun z => PyData.eqv z d else ds.any fun z => PyData.eqv z d)) H
theorem op_inT (hu : X.A.units + 65 < cLine) : OpR X (compareOp .In) (rInT X.K false) := fun pins s σ H x y v u Q I rx ry ⟨d, ds, hd, he, sd, se, q⟩ => by
  obtain ⟨a1, r1⟩ := Dp.reads I d x v hd rx
  obtain ⟨a2, r2⟩ := Dp.reads I (.tuple ds) y u he ry
  exact SeqAt.in_tuple_reads r2 r1 (SeqAt.canLay_of_shaped se) (SeqAt.canLay_of_shaped sd) (room_in_shaped sd hu) ⟨.bl _, H, I, rfl, q⟩
theorem op_notInT (hu : X.A.units + 65 < cLine) : OpR X (compareOp .NotIn) (rInT X.K true) := fun pins s σ H x y v u Q I rx ry ⟨d, ds, hd, he, sd, se, q⟩ => by
  obtain ⟨a1, r1⟩ := Dp.reads I d x v hd rx
  obtain ⟨a2, r2⟩ := Dp.reads I (.tuple ds) y u he ry
  exact SeqAt.notIn_tuple_reads r2 r1 (SeqAt.canLay_of_shaped se) (SeqAt.canLay_of_shaped sd) (room_in_shaped sd hu) ⟨.bl _, H, I, rfl, q⟩
def gInT (neg : Bool) (x y : D) (S : Store) : R D := match pyD S 12 x, pyD S 12 y with
  | some d, some (.tuple ds) => if SeqAt.shaped d = true ∧ SeqAt.shaped (.tuple ds) = true then .ok (.bl (if neg then !ds.any fun z => PyData.eqv z d else ds.any fun z => PyData.eqv z d)) S else .bad
  | _, _ => .bad
theorem ok_inT {neg : Bool} : OpOk Γ (rInT Γ.K neg) (gInT neg) := fun W σ f S H x y v u Q rs rx ry h => by
  unfold gInT at h
  split at h
  · rename_i d ds hd hds
    split at h
    · rename_i c
      exact ⟨d, ds, pyD_ok rs _ _ _ _ hd rx, pyD_ok rs _ _ _ _ hds ry, c.1, c.2, h f H _ .refl rs Rp.ofBl⟩
    · exact h.elim
  · exact h.elim
def gInZ (neg : Bool) (x y : D) (S : Store) : R D := match gIn neg x y S with
  | .bad => (match gInD neg x y S with
    | .bad => gInT neg x y S
    | r => r)
  | r => r
def rInZ (K : PySem.W.Frag) (neg : Bool) : R2 := fun x y H Q => rIn K neg x y H Q ∨ (rInN K neg x y H Q ∨ rInT K neg x y H Q)
theorem ok_inZ {neg : Bool} : OpOk Γ (rInZ Γ.K neg) (gInZ neg) := fun W σ f S H x y v u Q rs rx ry h => by
  unfold gInZ at h
  split at h
  · split at h
    · exact .inr (.inr (ok_inT W σ f S H x y v u Q rs rx ry h))
    · exact .inr (.inl (ok_inD W σ f S H x y v u Q rs rx ry h))
  · exact .inl (ok_in W σ f S H x y v u Q rs rx ry h)
theorem or_inZ {k : Nat} (hK : X.K = Γ.K) (hr : Room k X.A) : OpR X (compareOp .In) (rInZ Γ.K false) := by
  rw [← hK]
  exact OpR.or op_in_seq (OpR.or (op_inD (by have := hr.un; omega)) (op_inT (by have := hr.un; omega)))
theorem or_notInZ {k : Nat} (hK : X.K = Γ.K) (hr : Room k X.A) : OpR X (compareOp .NotIn) (rInZ Γ.K true) := by
  rw [← hK]
  exact OpR.or op_notIn_seq (OpR.or (op_notInD (by have := hr.un; omega)) (op_notInT (by have := hr.un; omega)))
/-! ### enumerate of a list -/
theorem enumD_get {xs : List D} {i : Nat} {d : D} (h : (enumD xs)[i]? = some d) : ∃ x, xs[i]? = some x ∧ d = .tup [.int (i : Nat), x] := by
  unfold enumD at h
  rw [List.getElem?_map, List.getElem?_zipIdx] at h
  cases q : xs[i]? with
  | none => rw [q] at h; cases h
  | some x =>
    rw [q] at h
    refine ⟨x, rfl, ?_⟩
    have h : D.tup [.int ((0 + i : Nat) : Int), x] = d := by simpa using h
    rw [← h]
    simp
theorem enumD_len (xs : List D) : (enumD xs).length = xs.length := by simp [enumD]
def iEnu (m : ME) : MI := fun env S => (m env S).bind srcE
theorem pair_rp {i : Nat} {x : D} {v : V} {T : Addr} (hT : H T = none) (r : Rp Γ f H x v) : Rp Γ f (upd H T (.tup [.int (i : Nat), v])) (.tup [.int (i : Nat), x]) (.ref T) := by
  refine Rp.tupI (SqT.of upd_same) ?_
  simp only [RpL]
  exact ⟨_, _, rfl, Rp.ofInt, _, _, rfl, r.up (.new hT), rfl⟩
theorem sv_enuR {a : Addr} {vs : List V} {ds : List D} (h : SqR Γ.K H a vs) (r : RpL Γ f H ds vs) : Sv Γ f H ⟨enumD ds, fun _ => True⟩ (Ite Γ.K a) where
  go := fun f1 S H1 i d rs ok e => by
    obtain ⟨x, hx, ed⟩ := enumD_get e
    subst ed
    obtain ⟨v, h1, h2⟩ := RpL.get (r.up ok.2) hx
    have q := (ok.2.keep.sqR h).1
    refine ⟨⟨vs, v, q, h1⟩, fun y H' hy => ?_⟩
    obtain ⟨T, z, ev, hT, eH, hz⟩ := hy
    subst ev
    subst eH
    have e2 := hz vs q
    rw [h1] at e2
    cases e2
    exact ⟨.new hT, rs.newT hT, pair_rp hT h2⟩
  stop := fun f1 S H1 rs ok => ⟨vs, (ok.2.keep.sqR h).1, by rw [← r.length]; exact Nat.le_of_eq (enumD_len ds).symm⟩
theorem sv_enuL {a : Addr} {n : Nat} {ds : List D} (ha : f[n]? = some a) : Sv Γ f H ⟨enumD ds, fun S => S[n]? = some (.lst ds)⟩ (Ite Γ.K a) where
  go := fun f1 S H1 i d rs ok e => by
    obtain ⟨b, hb, vs, h0, r⟩ := rs.ob n _ ok.1
    rw [ok.2.at ha] at hb
    cases hb
    obtain ⟨x, hx, ed⟩ := enumD_get e
    subst ed
    obtain ⟨v, h1, h2⟩ := RpL.get r hx
    refine ⟨⟨vs, v, SqL.of h0, h1⟩, fun y H' hy => ?_⟩
    obtain ⟨T, z, ev, hT, eH, hz⟩ := hy
    subst ev
    subst eH
    have e2 := hz vs (SqL.of h0)
    rw [h1] at e2
    cases e2
    exact ⟨.new hT, rs.newT hT, pair_rp hT h2⟩
  stop := fun f1 S H1 rs ok => by
    obtain ⟨b, hb, vs, h0, r⟩ := rs.ob n _ ok.1
    rw [ok.2.at ha] at hb
    cases hb
    exact ⟨vs, SqL.of h0, by rw [← r.length]; exact Nat.le_of_eq (enumD_len ds).symm⟩
theorem qi_enu {elts : List Expr} {kk : Nat} {tpos : Pos} {m : ME} (hK : X.K = Γ.K) (hm : X.mg "enumerate" = none) (h : PE X e (tE Γ W m)) (hg : Gl X "enumerate" := by rfl) (hs : starEach [e] X.env = (false, eval e X.env) :: starEach [] X.env := by rfl) :
    PI X (.Tuple elts kk tpos) (.Call (.Name "enumerate" p) [e] [] pos) (tI Γ W (iEnu m)) := PI.imp (pi_enum hg hm (pa_cons h pa_nil hs) hs) fun σ H R ⟨env, S, f, rs, re, h⟩ => by
  show tE Γ W m σ H _
  refine ⟨env, S, f, rs, re, Wp.bindL h fun d S1 f1 H1 v u1 rs1 r1 h1 => ?_⟩
  cases d with
  | rol ds =>
    simp only [Rp] at r1
    obtain ⟨a, vs, ev, hs, r⟩ := r1
    subst ev
    refine ⟨a, vs, rfl, by rw [hK]; exact hs.1, ?_⟩
    rw [hK]
    exact h1 f1 H1 _ .refl rs1 (sv_enuR hs r)
  | ref n =>
    simp only [Rp] at r1
    obtain ⟨a, ha, ev⟩ := r1
    subst ev
    have h1 : Wp Γ W σ f1 H1 (Sv Γ) R (match S1[n]? with
      | some (.lst xs) => .ok ⟨enumD xs, fun S => S[n]? = some (.lst xs)⟩ S1
      | _ => .bad) := h1
    split at h1
    · rename_i xs hn
      obtain ⟨b, hb, vs, hh, r⟩ := rs1.ob n _ hn
      rw [ha] at hb
      cases hb
      refine ⟨a, vs, rfl, by rw [hK]; exact SqL.of hh, ?_⟩
      rw [hK]
      exact h1 f1 H1 _ .refl rs1 (sv_enuL ha)
    · exact h1.elim
  | _ => exact h1.elim
end
end Lk

set_option Elab.async false
set_option linter.all false
set_option autoImplicit false
set_option maxRecDepth 100000
set_option maxHeartbeats 4000000
/-! enumerate of a tuple -/
namespace Lk
open PySem PySem.Spec PyProof.Rows L2
/-- enumerate(v), its class called on v alone -/
theorem new_enum {v : Value} {o : Obj} {Fo : Heap → Prop} (B : Begins v o Fo) : Meets (Builtin.«enumerate.__new__» ⟨[.type "enumerate", v], []⟩) (fun _ R s => Fo s.heap ∧
    R (.ok (.ret (.ref (s.heap.push o).objs.size))) { s with heap := (s.heap.push o).push { cls := .type "enumerate", data := .fields #[.none, .bool false, .ref s.heap.objs.size, rawInt 0, .none, .none] } }) := .of_wp fun prog w A R st hyp => by
  obtain ⟨hp, gs, dr, tk, os⟩ := st
  obtain ⟨f1, out⟩ := hyp
  have sb := sub_enumerate
  have itr : ∀ {A' : Around} {E : Value → Shared → Prop} {Q : Value → Shared → Prop}, Q (.ref hp.objs.size) ⟨hp.push o, gs, dr, tk, os⟩ → wpAny (model prog w) A' (pyIter v) Q E ⟨hp, gs, dr, tk, os⟩ := fun z => B.iter prog w _ _ ⟨hp, gs, dr, tk, os⟩ _ f1 z
  wp_walk using itr
  refine wpAny_stack_any fun stk => wpAny_pure ?_
  split
  · rename_i cv _ _ _ _ _
    cases (cv == Value.type "enumerate") <;> (wp_walk using itr; exact ⟨_, rfl, out⟩)
  · wp_walk using itr
    exact ⟨_, rfl, out⟩
section
variable {prog : Program} {w : World} {A : Around} {E : Value → Shared → Prop} {s : Shared}
theorem call_enum {v : Value} {o : Obj} {Fo : Heap → Prop} {Q : Value → Shared → Prop} (B : Begins v o Fo) (f1 : Fo s.heap)
    (k : ∀ h', IsEnum h' (s.heap.objs.size + 1) s.heap.objs.size 0 .none → h'.get? s.heap.objs.size = some o → (∀ b ob, s.heap.get? b = some ob → h'.get? b = some ob) → Q (.ref (s.heap.objs.size + 1)) { s with heap := h' }) :
    wpAny (model prog w) A (call (.type "enumerate") [v]) Q E s := by
  refine callType_new F.called_enumerate (by decide) (F.typeCall_enumerate_1 _) (F.newCall_enumerate_1 _) (fun ob => F.args_object_init_2 ob _) F.entry_enumerate_new (new_enum B) ⟨f1, ?_⟩
  have z1 : (s.heap.push o).objs.size = s.heap.objs.size + 1 := Heap.size_push ..
  show _ ∧ _
  rw [z1]
  have en : IsEnum ((s.heap.push o).push { cls := .type "enumerate", data := .fields #[.none, .bool false, .ref s.heap.objs.size, rawInt 0, .none, .none] }) (s.heap.objs.size + 1) s.heap.objs.size 0 .none := by
    have z2 := Heap.get?_push_size (s.heap.push o) (o := { cls := .type "enumerate", data := .fields #[.none, .bool false, .ref s.heap.objs.size, rawInt 0, .none, .none] }) rfl
    rw [z1] at z2
    exact z2
  exact ⟨⟨_, en, rfl⟩, k _ en (Heap.get?_push_of_some _ (Heap.get?_push_size _ B.free)) fun b ob x => Heap.get?_push_of_some _ (Heap.get?_push_of_some _ x)⟩
end
/-- the tuple at a, each item in a new pair -/
def ItE (K : PySem.W.Frag) (a : Addr) : It :=
  ⟨fun i H => ∃ (xs : List V) (x : V), SqT K H a xs ∧ xs[i]? = some x, fun i H v H' => ∃ T x, v = .ref T ∧ H T = none ∧ H' = upd H T (.tup [.int (i : Nat), x]) ∧ ∀ xs, SqT K H a xs → xs[i]? = some x, fun i H => ∃ xs : List V, SqT K H a xs ∧ xs.length = i⟩
theorem apart {h : Heap} {e it a : Addr} {its : Array Value} {k : Int} {old : Value} {i : Nat} (he : IsEnum h e it k old) (hi : h.IsTupleIter it a i) (ht : h.IsTuple a its) : a ≠ it ∧ e ∉ [it, a] := by
  obtain ⟨o1, g1, c1, _⟩ := hi
  obtain ⟨o2, g2, c2, _⟩ := ht
  refine ⟨fun z => ?_, fun z => ?_⟩
  · subst z
    rw [g1] at g2
    cases g2
    rw [c1] at c2
    exact absurd c2 (by decide)
  · have z : e = it ∨ e = a := by simpa using z
    rcases z with z | z
    · subst z
      rw [he] at g1
      cases g1
      exact absurd (Value.type.inj c1) (by decide)
    · subst z
      rw [he] at g2
      cases g2
      exact absurd (Value.type.inj c2) (by decide)
theorem turn_enumT {P : Program} {w : World} {K : PySem.W.Frag} {elts : List Expr} {kk : Nat} {tpos : Pos} (a e it : Addr) :
    Turn P w K (.Tuple elts kk tpos) (ItE K a) [e, it] e (fun i h => (∃ old, IsEnum h e it ((i : Nat) : Int) old) ∧ h.IsTupleIter it a i ∧ e ≠ it) where
  mem := List.mem_cons_self
  obj := fun i h st b hb => by
    obtain ⟨⟨old, e1⟩, ⟨o, g1, _, d1⟩, _⟩ := st
    have cs : b = e ∨ b = it := by simpa using hb
    rcases cs with z | z
    · subst z; exact ⟨_, e1, fun v q => nomatch q⟩
    · subst z; exact ⟨o, g1, fun v q => by rw [d1] at q; cases q⟩
  keep := fun i h h' st k => by
    obtain ⟨⟨old, e1⟩, ⟨o, g1, r1⟩, n1⟩ := st
    exact ⟨⟨old, k e (by simp) _ e1⟩, ⟨o, k it (by simp) _ g1, r1⟩, n1⟩
  item := by
    intro X hP hw hK hc i pins s σ H E I hf st hg
    subst hP hw hK
    obtain ⟨⟨old, e1⟩, hit, n1⟩ := st
    obtain ⟨xs, x, hq, hx⟩ := hg
    obtain ⟨its, rv, p, _⟩ := I.tuple hq
    obtain ⟨u, hu, ru⟩ := rv.get hx
    have p : s.heap.IsTuple a its.toArray := p
    obtain ⟨nt, ne⟩ := apart e1 hit p
    have len1 : i < its.toArray.size := by
      rcases Nat.lt_or_ge i its.length with z | z
      · simpa using z
      · rw [List.getElem?_eq_none z] at hu; cases hu
    refine wpAny_pyNext_enum_itemD (Draws.tuple (A := X.A.in1) (I.ok.hd hc) it a nt its.toArray) e1 ⟨hit, p⟩ len1 n1 ne fun y h1 tk hy eo st1 hT _ kp => ?_
    have ey : u = y := by
      have z : its[i]? = some y := by simpa using hy
      rw [hu] at z
      exact Option.some.inj z
    subst ey
    refine ⟨_, rfl, wpAny_letOwnedTupleGo_enum (s := { s with heap := h1, toks := tk + 1 }) eo fun h2 e2 sb => ?_⟩
    have le1 : e < s.heap.objs.size := Heap.lt_size e1
    have li1 : it < s.heap.objs.size := by obtain ⟨_, z, _⟩ := hit; exact Heap.lt_size z
    have hT2 : h2.get? s.heap.objs.size = some { cls := .type "tuple", data := .seq #[.int i tk, u] } := (sb.2 _ (Nat.ne_of_gt le1)).trans hT
    have new : ObjOk X.prog X.w (upd H s.heap.objs.size (.tup [.int (i : Nat), x])) h2 s.heap.objs.size (.tup [.int (i : Nat), x]) :=
      ⟨(by decide : 2 ≤ sizeLine), [.int i tk, u], .cons ⟨_, rfl⟩ (.cons ru .nil), ⟨_, hT2, rfl, _, rfl⟩⟩
    have old1 : ∀ (b : Addr) (ob : Obj), b ∉ [e, it] → s.heap.get? b = some ob → h2.get? b = some ob := fun b ob nb z => (sb.2 b fun q => nb (by simp [q])).trans (kp b ob (fun q => nb (by simp [q])) (fun q => nb (by simp [q])) z)
    have I1 : Inv X pins σ (upd H s.heap.objs.size (.tup [.int (i : Nat), x])) { s with heap := h2, toks := tk + 1 } := I.turnedNew (ch := [e, it]) old1 hf (Nat.le_refl _) new
    have it2 : h2.IsTupleIter it a (i + 1) := by
      obtain ⟨o, z, r⟩ := st1.1
      exact ⟨o, (sb.2 it (Ne.symm n1)).trans z, r⟩
    have ei : ((i + 1 : Nat) : Int) = (i : Int) + 1 := by omega
    refine ⟨.ref s.heap.objs.size, _, I1, rfl, ⟨_, x, rfl, I.hok.fresh (Nat.le_refl _), rfl, fun ys hy => by rw [I.tuple_inj hy hq]; exact hx⟩, ⟨⟨u, by rw [ei]; exact e2⟩, it2, n1⟩, fun b hb => ?_⟩
    have lt : b < s.heap.objs.size := by
      have cs : b = e ∨ b = it := by simpa using hb
      rcases cs with z | z <;> (subst z; assumption)
    rw [upd_ne (Nat.ne_of_lt lt)]
    exact (hf b hb).1
  done := by
    intro X hP hw hK hc i pins s σ H E I hf st hg
    subst hP hw hK
    obtain ⟨⟨old, e1⟩, hit, n1⟩ := st
    obtain ⟨xs, hq, hx⟩ := hg
    obtain ⟨its, rv, p, _⟩ := I.tuple hq
    have p : s.heap.IsTuple a its.toArray := p
    obtain ⟨nt, ne⟩ := apart e1 hit p
    have lv := rv.length
    have ei : i = its.toArray.size := by simp; omega
    subst ei
    obtain ⟨f0, f1, f2, f3, f4, f5⟩ := hf it (by simp)
    exact wpAny_pyNext_enum_endD (Draws.tuple (A := X.A.in1) (I.ok.hd hc) it a nt its.toArray) e1 ⟨hit, p⟩ fun h1 eb => ⟨rfl, I.turned (t' := s.toks) (fun b ob hb z => eb b ob hb z) f0 f1 f3 f4 f5⟩
  self := fun A i s Q E st h => by
    obtain ⟨⟨_, e1⟩, _⟩ := st
    exact wpAny_pyIter_enum e1 h
end Lk

set_option Elab.async false
set_option linter.all false
set_option autoImplicit false
set_option maxRecDepth 100000
set_option maxHeartbeats 4000000
namespace Lk
open PySem PySem.Spec PyProof.Rows L2
section
variable {Γ : G} {W : WX} {X : Cx} {f : List Addr} {S : Store} {H : Hp} {e : Expr} {p pos : Pos}
theorem takes0 : Takes X Wno := fun u s' ⟨_, _, _, _, _, _, _, _, _, _, _, _, _, _, _, _, z⟩ => z.elim
/-! ### tables of classes -/
def tabX (l : List (Str × CK × Bool)) : Str → CK → Option Bool := fun C T => (l.find? fun q => decide (q.1 = C ∧ q.2.1 = T)).map (·.2.2)
theorem tabX_ok {P : Str → CK → Bool → Prop} {l : List (Str × CK × Bool)} (h : ∀ q ∈ l, P q.1 q.2.1 q.2.2) {C : Str} {T : CK} {b : Bool} (e : tabX l C T = some b) : P C T b := by
  unfold tabX at e
  obtain ⟨q, hq, eb⟩ := Option.map_eq_some_iff.mp e
  have m := List.mem_of_find?_eq_some hq
  have c := List.find?_some hq
  obtain ⟨c1, c2⟩ := of_decide_eq_true c
  have := h q m
  rw [c1, c2, eb] at this
  exact this
def tabS (l : List (Str × Str × Bool)) (h : Str) : Str → Option Bool := fun C => (l.find? fun q => decide (q.1 = C ∧ q.2.1 = h)).map (·.2.2)
theorem tabS_ok {P : Str → Str → Bool → Prop} {l : List (Str × Str × Bool)} (h : ∀ q ∈ l, P q.1 q.2.1 q.2.2) {C n : Str} {b : Bool} (e : tabS l n C = some b) : P C n b := by
  unfold tabS at e
  obtain ⟨q, hq, eb⟩ := Option.map_eq_some_iff.mp e
  have m := List.mem_of_find?_eq_some hq
  have c := List.find?_some hq
  obtain ⟨c1, c2⟩ := of_decide_eq_true c
  have := h q m
  rw [c1, c2, eb] at this
  exact this
theorem kitB_ok {Γ : G} {C : Str} {T : CK} {b : Bool} (h : kitB Γ C T b = true) : PySem.W.kitOne Γ.K (.ref (Γ.c C)) (T.u Γ) = some b := of_decide_eq_true h
/-! ### == of data alone -/
/-! ### enumerate of a list or a tuple -/
def iEnT (K : PySem.W.Frag) (ta : TA) : TI := fun σ H Q => ta σ H fun vs H1 => ∃ a xs, vs = [.ref a] ∧ SqT K H1 a xs ∧ Q (ItE K a) H1
theorem pi_enumT {ta : TA} {tpos : Pos} {elts : List Expr} {kk : Nat} (hg : Gl X "enumerate") (hm : X.mg "enumerate" = none) (ha : PA X [e] ta) (hs : starEach [e] X.env = [(false, eval e X.env)] := by rfl) :
    PI X (.Tuple elts kk tpos) (.Call (.Name "enumerate" p) [e] [] pos) (iEnT X.K ta) := by
  refine ⟨fun pins s σ H Q I h => Call_ (ld_blt I hg hm boot_enumerate (PyProof.Rows.callWith_type1 (thn (ha.run pos pins s σ H _ I h) fun us s1 ⟨vs, H1, I1, r1, q1⟩ => ?_) hs rfl))⟩
  obtain ⟨a, xs, ex, hq, q⟩ := q1
  subst ex
  cases r1 with
  | cons r rr =>
    cases rr
    cases r
    obtain ⟨its, rv, tp, _⟩ := I1.tuple hq
    refine call_enum (begins_tuple a its.toArray) tp fun h' en hit old => wpAny_pyIter_enum en ?_
    have I2 : Inv X pins σ H1 { s1 with heap := h' } := I1.kept (t' := s1.toks) old
    have free : ∀ b ∈ [s1.heap.objs.size + 1, s1.heap.objs.size], FpOk X pins H1 b := fun b hb => by
      have le : s1.heap.objs.size ≤ b := by
        have : b = s1.heap.objs.size + 1 ∨ b = s1.heap.objs.size := by simpa using hb
        omega
      exact I1.fpOk le (I1.hok.fresh le)
    exact ⟨s1.heap.objs.size + 1, _, _, _, H1, rfl, I2, turn_enumT a (s1.heap.objs.size + 1) s1.heap.objs.size, ⟨⟨.none, en⟩, ⟨_, hit, rfl, rfl⟩, Nat.succ_ne_self _⟩, free, q⟩
theorem sv_enuT {a : Addr} {vs : List V} {ds : List D} (h : SqT Γ.K H a vs) (r : RpL Γ f H ds vs) : Sv Γ f H ⟨enumD ds, fun _ => True⟩ (ItE Γ.K a) where
  go := fun f1 S H1 i d rs ok e => by
    obtain ⟨x, hx, ed⟩ := enumD_get e
    subst ed
    obtain ⟨v, h1, h2⟩ := RpL.get (r.up ok.2) hx
    have q := ok.2.keep.sqT h
    refine ⟨⟨vs, v, q, h1⟩, fun y H' hy => ?_⟩
    obtain ⟨T, z, ev, hT, eH, hz⟩ := hy
    subst ev
    subst eH
    have e2 := hz vs q
    rw [h1] at e2
    cases e2
    exact ⟨.new hT, rs.newT hT, pair_rp hT h2⟩
  stop := fun f1 S H1 rs ok => ⟨vs, ok.2.keep.sqT h, by rw [← r.length]; exact (enumD_len ds).symm⟩
theorem qi_enuZ {elts : List Expr} {kk : Nat} {tpos : Pos} {m : ME} (hK : X.K = Γ.K) (hm : X.mg "enumerate" = none) (h : PE X e (tE Γ W m)) (hg : Gl X "enumerate" := by rfl) (hs : starEach [e] X.env = (false, eval e X.env) :: starEach [] X.env := by rfl) :
    PI X (.Tuple elts kk tpos) (.Call (.Name "enumerate" p) [e] [] pos) (tI Γ W (iEnuZ m)) := PI.imp (PI.or (qi_enu hK hm h hg hs) (pi_enumT hg hm (pa_cons h pa_nil hs) hs)) fun σ H Q ⟨env, S, f, rs, re, h⟩ => by
  unfold iEnuZ at h
  cases q : m env S with
  | bad => rw [q] at h; exact h.elim
  | ex C ds S1 =>
    rw [q] at h
    refine .inl ⟨env, S, f, rs, re, ?_⟩
    unfold iEnu
    rw [q]
    exact h
  | ok d S1 =>
    rw [q] at h
    cases d with
    | tup ds =>
      refine .inr ?_
      show tE Γ W m σ H _
      refine ⟨env, S, f, rs, re, ?_⟩
      rw [q]
      intro f1 H1 v u1 rs1 r1
      simp only [Rp] at r1
      obtain ⟨a, vs, ev, sq, r⟩ := r1
      subst ev
      refine ⟨a, vs, rfl, by rw [hK]; exact sq, ?_⟩
      rw [hK]
      exact h f1 H1 _ u1 rs1 (sv_enuT sq r)
    | _ =>
      refine .inl ⟨env, S, f, rs, re, ?_⟩
      unfold iEnu
      rw [q]
      exact h
end
end Lk

set_option Elab.async false
set_option linter.all false
set_option autoImplicit false
set_option maxRecDepth 100000
set_option maxHeartbeats 4000000
namespace Lk
open PySem PySem.Spec PyProof.Rows L2
section
variable {Γ : G} {W : WX} {X : Cx} {f : List Addr} {S : Store} {H : Hp} {a b e : Expr} {p p0 p1 p2 p3 pos : Pos} {ma mb me : ME}
/-! ### list(range(..)) -/
def rgD (i j : Int) : List D := (List.range (j - i).toNat).map fun (k : Nat) => D.int (i + (k : Nat))
theorem rgD_rp {i j : Int} : RpL Γ f H (rgD i j) (rgV i j) := by
  unfold rgD rgV
  generalize (List.range (j - i).toNat) = l
  induction l with
  | nil => simp only [List.map_nil, RpL]
  | cons k l ih =>
    simp only [List.map_cons, RpL]
    exact ⟨_, _, rfl, Rp.ofInt, ih⟩
def lstRg (i j : Int) (S : Store) : R D := if okRg i j then .ok (.ref S.length) (S ++ [.lst (rgD i j)]) else .bad
def mListRg1 (m : ME) : ME := fun env S => (m env S).bind fun x S1 => match x with
  | .int j => lstRg 0 j S1
  | _ => .bad
theorem lstRg_ok {σ : L2.St} {i j : Int} {Q : VK} (rs : RelS Γ f S H) (h : Wp Γ W σ f H (Rp Γ) Q (lstRg i j S)) : RgOk i j ∧ ∀ q, H q = none → Q (.ref q) (upd H q (.lst (rgV i j))) := by
  unfold lstRg at h
  split at h
  · rename_i c
    refine ⟨c, fun q hq => h (f ++ [q]) _ _ (.alloc hq) (rs.alloc (b := .lst (rgD i j)) hq ⟨rgV i j, upd_same, rgD_rp⟩) (Rp.refI (by rw [← rs.len]; simp))⟩
  · exact h.elim
theorem q_listRg1 (hc : X.calm = true) (hm : X.mg "list" = none) (hm2 : X.mg "range" = none) (ha : PE X a (tE Γ W ma)) (hg : Gl X "list" := by rfl) (hg2 : Gl X "range" := by rfl) (na : starEach [.Call (.Name "range" p) [a] [] p0] X.env = (false, eval (.Call (.Name "range" p) [a] [] p0) X.env) :: starEach [] X.env := by rfl) (na2 : starEach [a] X.env = (false, eval a X.env) :: starEach [] X.env := by rfl) :
    PE X (.Call (.Name "list" p1) [.Call (.Name "range" p) [a] [] p0] [] pos) (tE Γ W (mListRg1 ma)) := PE.imp (pe_listRg hc hg hm (prg_1 hg2 hm2 ha na2) na) fun σ H Q ⟨env, S, f, rs, re, h⟩ => by
  refine ⟨env, S, f, rs, re, Wp.bindL h fun x S1 f1 H1 v u1 rs1 r1 h1 => ?_⟩
  cases x with
  | int j => exact ⟨j, r1.int, lstRg_ok rs1 h1⟩
  | _ => exact h1.elim
/-! ### xs[::-1] -/
theorem RpL.rev : ∀ {ds : List D} {vs : List V}, RpL Γ f H ds vs → RpL Γ f H ds.reverse vs.reverse := by
  intro ds
  induction ds with
  | nil =>
    intro vs r
    simp only [RpL] at r
    subst r
    simp only [List.reverse_nil, RpL]
  | cons d ds ih =>
    intro vs r
    simp only [RpL] at r
    obtain ⟨v, vr, e, r1, r2⟩ := r
    subst e
    rw [List.reverse_cons, List.reverse_cons]
    exact (ih r2).append (by simp only [RpL]; exact ⟨v, [], rfl, r1, rfl⟩)
def gRev (d : D) (S : Store) : R D := match d with
  | .rol ds => .ok (.ref S.length) (S ++ [.lst ds.reverse])
  | .ref n => (match S[n]? with
    | some (.lst ds) => .ok (.ref S.length) (S ++ [.lst ds.reverse])
    | _ => .bad)
  | _ => .bad
end
end Lk

set_option Elab.async false
set_option linter.all false
set_option autoImplicit false
set_option maxRecDepth 100000
set_option maxHeartbeats 4000000
/-! zip of two, each a list or a tuple -/
namespace Lk
open PySem PySem.Spec PyProof.Rows L2
/-- κ: a tuple -/
def SqK (κ : Bool) (K : PySem.W.Frag) (H : Hp) (a : Addr) (xs : List V) : Prop := if κ then SqT K H a xs else SqL K H a xs
def ItAt (κ : Bool) (h : Heap) (it a : Addr) (i : Nat) : Prop := if κ then h.IsTupleIter it a i else h.IsListIter it a i
section
variable {prog : Program} {w : World} {A : Around} {κ : Bool} {h h' : Heap} {it a : Addr} {i : Nat} {its : Array Value}
theorem ItAt.obj (x : ItAt κ h it a i) : ∃ o, h.get? it = some o ∧ ∀ v, o.data ≠ .cell v := by
  cases κ with
  | true =>
    obtain ⟨o, g, _, d⟩ := (show h.IsTupleIter it a i from x)
    exact ⟨o, g, fun v z => by rw [d] at z; cases z⟩
  | false =>
    obtain ⟨o, g, _, d⟩ := (show h.IsListIter it a i from x)
    exact ⟨o, g, fun v z => by rw [d] at z; cases z⟩
theorem ItAt.to (x : ItAt κ h it a i) (k : ∀ o, h.get? it = some o → h'.get? it = some o) : ItAt κ h' it a i := by
  cases κ with
  | true =>
    obtain ⟨o, g, r⟩ := (show h.IsTupleIter it a i from x)
    exact ⟨o, k o g, r⟩
  | false =>
    obtain ⟨o, g, r⟩ := (show h.IsListIter it a i from x)
    exact ⟨o, k o g, r⟩
end
section
variable {X : Cx} {pins : List (Addr × Obj)} {σ : L2.St} {H : Hp} {s : Shared} {κ : Bool} {a : Addr} {xs ys : List V}
end
section
variable {Γ : G} {W : WX} {X : Cx} {f : List Addr} {S : Store} {H : Hp} {e e2 : Expr} {p pos : Pos}
/-- a value stands for a sequence whose items are these, as long as g holds -/
def SeqV (Γ : G) (f : List Addr) (H0 : Hp) (v : V) (xs : List D) (g : Store → Prop) : Prop := ∃ κ a, v = .ref a ∧ ∀ (f' : List Addr) (S : Store) (H : Hp), RelS Γ f' S H → g S → Up Γ f H0 f' H → ∃ vs, SqK κ Γ.K H a vs ∧ RpL Γ f' H xs vs
theorem seqV_of {d : D} {v : V} {xs : List D} {g : Store → Prop} (rs : RelS Γ f S H) (r : Rp Γ f H d v) (h : seqOf d S = some (xs, g)) : SeqV Γ f H v xs g ∧ g S := by
  cases d with
  | tup ds =>
    cases h
    obtain ⟨a, vs, ev, sq, rr⟩ := r.tup
    exact ⟨⟨true, a, ev, fun f' S' H' _ _ u => ⟨vs, u.keep.sqT sq, rr.up u⟩⟩, trivial⟩
  | rol ds =>
    cases h
    obtain ⟨a, vs, ev, sq, rr⟩ := r.rol
    exact ⟨⟨false, a, ev, fun f' S' H' _ _ u => ⟨vs, (u.keep.sqR sq).1, rr.up u⟩⟩, trivial⟩
  | ref n =>
    simp only [Rp] at r
    obtain ⟨a, ha, ev⟩ := r
    have h : (match S[n]? with
      | some (.lst xs) => some (xs, fun S : Store => S[n]? = some (Ob.lst xs))
      | _ => none) = some (xs, g) := h
    split at h
    · rename_i ys hn
      cases h
      refine ⟨⟨false, a, ev, fun f' S' H' rs' hg u => ?_⟩, hn⟩
      obtain ⟨b, hb, vs, hh, rr⟩ := rs'.ob n _ hg
      rw [u.at ha] at hb
      cases hb
      exact ⟨vs, SqL.of hh, rr⟩
    · cases h
  | _ => cases h
theorem SeqV.up {f' : List Addr} {H' : Hp} {v : V} {xs : List D} {g : Store → Prop} (h : SeqV Γ f H v xs g) (u : Up Γ f H f' H') : SeqV Γ f' H' v xs g := by
  obtain ⟨κ, a, ev, k⟩ := h
  exact ⟨κ, a, ev, fun f2 S2 H2 rs hg u2 => k f2 S2 H2 rs hg (u.trans u2)⟩
end
end Lk

set_option Elab.async false
set_option linter.all false
set_option autoImplicit false
set_option maxRecDepth 100000
set_option maxHeartbeats 4000000
/-! more methods of lists: index, count, pop, extend -/
namespace Lk
open PySem PySem.Spec PyProof.Rows L2
section
variable {Γ : G} {W : WX} {X : Cx} {f : List Addr} {S : Store} {H : Hp} {o : Expr} {apos cpos : Pos} {mo : ME} {name : Str}
/-! ### methods without arguments -/
end
end Lk

set_option Elab.async false
set_option linter.all false
set_option autoImplicit false
set_option maxRecDepth 100000
set_option maxHeartbeats 4000000
/-! + - * and the sign turned, by a class's own methods -/
namespace Lk
open PySem PySem.Spec PyProof.Rows L2
section
variable {prog : Program} {w : World} {A : Around} {E : Value → Shared → Prop} {s : Shared} {K : PySem.W.Frag} {x C L f f0 dx : Addr} {h₀ : Heap} {m : Str → Option Value} {od : Option Obj}
open PySem.W in
end
/-! ### the operators of own classes -/
def insR (o : Option (List D → Store → R D)) (l : List D) (S : Store) : R D := match o with
  | some m => (match m l S with
    | .ok d S' => .ok d S'
    | _ => .bad)
  | none => .bad
def gBinX (ot rt : OTab) (g : D → D → Store → R D) (x y : D) (S : Store) : R D := match x, y with
  | .ins C xs, .ins C' ys => if C = C' then insR (ot C) [.ins C xs, .ins C' ys] S else .bad
  | .ins C xs, .int i => insR (ot C) [.ins C xs, .int i] S
  | .int i, .ins C ys => insR (rt C) [.ins C ys, .int i] S
  | x, y => g x y S
section
variable {Γ : G} {W : WX} {X : Cx} {f : List Addr} {H : Hp} {S : Store}
end
end Lk

set_option Elab.async false
set_option linter.all false
set_option autoImplicit false
set_option maxRecDepth 100000
set_option maxHeartbeats 4000000
/-! a call in an except suite: the error that is caught stays where it is -/
namespace Lk
open PySem PySem.Spec PyProof.Rows L2
section
variable {Γ : G} {W : WX} {X : Cx} {f : List Addr} {H : Hp} {S : Store} {a : Expr} {es : List Expr} {mr : MA} {p pos : Pos} {x : Str} {fA : Addr} {fd : FuncData} {ps : List Str} {k n : Nat} {m : List D → Store → R D} {e0 : Addr} {i : Nat} {E : Str} {ds : List D} {o : Option Addr}
end
end Lk

set_option Elab.async false
set_option linter.all false
set_option autoImplicit false
set_option maxRecDepth 100000
set_option maxHeartbeats 4000000
/-! x is True, x is not False .., of a flag, an int or None -/
namespace Lk
open PySem PySem.Spec PyProof.Rows L2
section
variable {Γ : G} {W : WX} {X : Cx} {f : List Addr} {H : Hp} {S : Store}
end
end Lk

set_option Elab.async false
set_option linter.all false
set_option autoImplicit false
set_option maxRecDepth 100000
set_option maxHeartbeats 4000000
/-! zip of three, each a list or a tuple -/
namespace Lk
open PySem PySem.Spec PyProof.Rows L2
section
variable {Γ : G} {W : WX} {X : Cx} {f : List Addr} {S : Store} {H : Hp} {e e2 e3 : Expr} {p pos : Pos}
end
end Lk

set_option Elab.async false
set_option linter.all false
set_option autoImplicit false
set_option maxRecDepth 100000
set_option maxHeartbeats 4000000
/-! math.lcm of two -/
namespace Lk
open PySem PySem.Spec PyProof.Rows L2
section
variable {X : Cx} {Γ : G}
end
end Lk

set_option Elab.async false
set_option linter.all false
set_option autoImplicit false
set_option maxRecDepth 100000
set_option maxHeartbeats 4000000
/-! sum of a list whose items have a + of their own -/
namespace Lk
open PySem PySem.Spec PyProof.Rows L2
section
variable {X : Cx} {Γ : G} {pins : List (Addr × Obj)} {σ : L2.St} {H : Hp} {s : Shared} {A1 : Around} {k : Nat} {E : Value → Shared → Prop} {Q : VK}
end
end Lk

set_option Elab.async false
set_option linter.all false
set_option autoImplicit false
set_option maxRecDepth 100000
set_option maxHeartbeats 4000000
/-! the loop of sum -/
namespace Lk
open PySem PySem.Spec PyProof.Rows L2
section
variable {X : Cx} {Γ : G} {pins : List (Addr × Obj)} {σ : L2.St} {H : Hp} {s : Shared} {A1 : Around} {k : Nat} {Q : VK}
end
end Lk

set_option Elab.async false
set_option linter.all false
set_option autoImplicit false
set_option maxRecDepth 100000
set_option maxHeartbeats 4000000
/-! the mirror of such a sum -/
namespace Lk
open PySem PySem.Spec PyProof.Rows L2
section
variable {Γ : G} {W : WX} {σ : L2.St} {Q : VK}
end
end Lk

set_option Elab.async false
set_option linter.all false
set_option autoImplicit false
set_option maxRecDepth 100000
set_option maxHeartbeats 4000000
/-! comprehensions of two fors -/
namespace Lk
open PySem PySem.Spec PyProof.Rows L2
section
variable {Γ : G} {W : WX} {X : Cx} {f : List Addr} {H : Hp} {S : Store}
end
end Lk

set_option Elab.async false
set_option linter.all false
set_option autoImplicit false
set_option maxRecDepth 100000
set_option maxHeartbeats 4000000
/-! dicts: read, in, get, setdefault, written -/
namespace Lk
open PySem PySem.Spec PyProof.Rows L2
def lkD (kvs : List (Key × D)) (k : Key) : Option D := (kvs.find? fun kv => decide (kv.1 = k)).map (·.2)
def putD (kvs : List (Key × D)) (k : Key) (d : D) : List (Key × D) := if (kvs.any fun kv => decide (kv.1 = k)) = true then kvs.map (fun kv => if kv.1 = k then (kv.1, d) else kv) else kvs ++ [(k, d)]
section
variable {Γ : G} {W : WX} {X : Cx} {f : List Addr} {H : Hp} {S : Store}
theorem RpL.snoc : ∀ {ds : List D} {vs : List V} {d : D} {v : V}, RpL Γ f H ds vs → Rp Γ f H d v → RpL Γ f H (ds ++ [d]) (vs ++ [v]) := fun r q => r.append (by simp only [RpL]; exact ⟨_, [], rfl, q, rfl⟩)
/-! ### d[k] -/
/-! ### k in d -/
/-! ### d.get, d.setdefault -/
/-! ### d[k] = v -/
end
end Lk

set_option Elab.async false
set_option linter.all false
set_option autoImplicit false
set_option maxRecDepth 100000
set_option maxHeartbeats 4000000
/-! list(d.values()) -/
namespace Lk
open PySem PySem.Spec PyProof.Rows L2
section
variable {Γ : G} {W : WX} {X : Cx} {f : List Addr} {H : Hp} {S : Store} {e : Expr} {te : TE} {p apos cpos pos : Pos}
end
end Lk

set_option Elab.async false
set_option linter.all false
set_option autoImplicit false
set_option maxRecDepth 100000
set_option maxHeartbeats 4000000
/-! a, b = c, d; tuple(range(..)) -/
namespace Lk
open PySem PySem.Spec PyProof.Rows L2
section
variable {Γ : G} {W : WX} {X : Cx} {f : List Addr} {S : Store} {H : Hp} {a b e : Expr} {p p0 p1 p2 p3 pos : Pos} {ma mb me : ME}
def tupRg (i j : Int) (S : Store) : R D := if okRg i j then .ok (.tup (rgD i j)) S else .bad
def mTupRg1 (m : ME) : ME := fun env S => (m env S).bind fun x S1 => match x with
  | .int j => tupRg 0 j S1
  | _ => .bad
theorem tupRg_ok {σ : L2.St} {i j : Int} {Q : VK} (rs : RelS Γ f S H) (h : Wp Γ W σ f H (Rp Γ) Q (tupRg i j S)) : RgOk i j ∧ ∀ q, H q = none → Q (.ref q) (upd H q (.tup (rgV i j))) := by
  unfold tupRg at h
  split at h
  · rename_i c
    exact ⟨c, fun q hq => h f _ _ (.new hq) (rs.newT hq) (Rp.tupI (.inl (.inl upd_same)) rgD_rp)⟩
  · exact h.elim
theorem q_tupRg1 (hc : X.calm = true) (hm : X.mg "tuple" = none) (hm2 : X.mg "range" = none) (ha : PE X a (tE Γ W ma)) (hg : Gl X "tuple" := by rfl) (hg2 : Gl X "range" := by rfl) (na : starEach [.Call (.Name "range" p) [a] [] p0] X.env = (false, eval (.Call (.Name "range" p) [a] [] p0) X.env) :: starEach [] X.env := by rfl) (na2 : starEach [a] X.env = (false, eval a X.env) :: starEach [] X.env := by rfl) :
    PE X (.Call (.Name "tuple" p1) [.Call (.Name "range" p) [a] [] p0] [] pos) (tE Γ W (mTupRg1 ma)) := PE.imp (pe_tupRg hc hg hm (prg_1 hg2 hm2 ha na2) na) fun σ H Q ⟨env, S, f, rs, re, h⟩ => by
  refine ⟨env, S, f, rs, re, Wp.bindL h fun x S1 f1 H1 v u1 rs1 r1 h1 => ?_⟩
  cases x with
  | int j => exact ⟨j, r1.int, tupRg_ok rs1 h1⟩
  | _ => exact h1.elim
end
end Lk

set_option Elab.async false
set_option linter.all false
set_option autoImplicit false
set_option maxRecDepth 100000
set_option maxHeartbeats 4000000
/-! xs.pop(i) -/
namespace Lk
open PySem PySem.Spec PyProof.Rows L2
section
variable {Γ : G} {W : WX} {X : Cx} {f : List Addr} {S : Store} {H : Hp}
theorem RpL.erase : ∀ {ds : List D} {vs : List V} (k : Nat), RpL Γ f H ds vs → RpL Γ f H (ds.eraseIdx k) (vs.eraseIdx k)
  | [], _, k, r => by
    simp only [RpL] at r
    subst r
    simp only [List.eraseIdx_nil, RpL]
  | d :: ds, _, k, r => by
    simp only [RpL] at r
    obtain ⟨v, vr, e, r1, r2⟩ := r
    subst e
    cases k with
    | zero => simpa only [List.eraseIdx_cons_zero] using r2
    | succ k =>
      simp only [List.eraseIdx_cons_succ, RpL]
      exact ⟨v, _, rfl, r1, RpL.erase k r2⟩
def gPopAt : D → List D → Store → R D
  | .ref n, [.int i], S => (match S[n]? with
    | some (.lst ds) => if -(2 ^ 62) ≤ i ∧ i < 2 ^ 62 then (match seqIndex? i ds.length with
      | some k => (match ds[k]? with
        | some y => .ok y (S.set n (.lst (ds.eraseIdx k)))
        | none => .bad)
      | none => .bad) else .bad
    | _ => .bad)
  | _, _, _ => .bad
theorem ok_popAt : MtOk Γ rPopAt gPopAt := fun W σ f S H d v xs vs Q rs rv r h => by
  unfold gPopAt at h
  split at h
  · rename_i n i
    split at h
    · rename_i ds hn
      split at h
      · rename_i c
        split at h
        · rename_i k hk
          split at h
          · rename_i y hy
            obtain ⟨a, us, ha, ev, hh, r1⟩ := rs.lst hn rv
            obtain ⟨u, hu, ru⟩ := RpL.get r1 hy
            obtain ⟨w, ex, rw⟩ := r.one
            have ew := rw.int
            subst ew
            have uc : Up Γ f H f (upd H a (.lst (us.eraseIdx k))) := .chg hh trivial
            refine ⟨a, us, i, k, u, ev, ex, hh, by omega, by omega, by rw [← r1.length]; exact hk, hu, ?_⟩
            exact h f _ _ uc (rs.set ha (.chg hh trivial) ⟨_, upd_same, (r1.erase k).up uc⟩) (ru.up uc)
          · exact h.elim
        · exact h.elim
      · exact h.elim
    · exact h.elim
  · exact h.elim
end
end Lk

set_option Elab.async false
set_option linter.all false
set_option autoImplicit false
set_option maxRecDepth 100000
set_option maxHeartbeats 4000000
/-! try .. except C, without a name -/
namespace Lk
open PySem PySem.Spec PyProof.Rows L2
section
variable {Γ : G} {W : WX} {X : Cx} {C : Str} {body suite : List Stmt} {b₀ : Stmt} {np pos pos' : Pos} {mb ms : MS} {sb : Str → Option Bool}
end
end Lk

set_option Elab.async false
set_option linter.all false
set_option autoImplicit false
set_option maxRecDepth 100000
set_option maxHeartbeats 4000000
/-! != by an own ==, whatever stands on the right -/
namespace Lk
open PySem PySem.Spec PyProof.Rows L2 PySem.W
section
variable {prog : Program} {w : World} {A : Around} {E : Value → Shared → Prop} {h : Heap} {g : Array GenState} {d : Drawn} {t : Nat} {os : OsState} {C x f : Addr} {B : String} {bm : List Value} {b : Value}
end
section
variable {prog : Program} {w : World} {A : Around} {E : Value → Shared → Prop} {s : Shared} {K : PySem.W.Frag} {C x : Addr} {b : Value} {tb : Value} {ox : Obj} {od : Option Obj}
end
section
variable {Γ : G} {W : WX} {X : Cx} {f : List Addr} {S : Store} {H : Hp} {cs : List Str}
end
end Lk

set_option Elab.async false
set_option linter.all false
set_option autoImplicit false
set_option maxRecDepth 100000
set_option maxHeartbeats 4000000
/-! a def that raises nothing, called where an error is handled -/
namespace Lk
open PySem PySem.Spec PyProof.Rows L2
section
variable {Γ : G} {W : WX} {X : Cx} {a : Expr} {es : List Expr} {mr : MA} {p pos : Pos} {x : Str} {fA : Addr} {fd : FuncData} {ps : List Str} {k n : Nat} {m : List D → Store → R D} {e0 : Addr} {i : Nat} {E : Str} {ds : List D} {o : Option Addr}
end
end Lk

/-! a comprehension in a comprehension -/
namespace Lk
open PySem PySem.Spec L2
end Lk

set_option Elab.async false
set_option linter.all false
set_option autoImplicit false
set_option maxRecDepth 100000
set_option maxHeartbeats 4000000
/-! dicts whose keys are tuples, of whatever depth: read, comprehensions -/
namespace Lk
open PySem PySem.Spec PyProof.Rows L2
def lkN (kvs : List (D × D)) (k : NestedKey) : Option D := (kvs.find? fun kv => decide (nkey kv.1 = some k)).map (·.2)
def putN (kvs : List (D × D)) (k : NestedKey) (y z : D) : List (D × D) := if (lkN kvs k).isSome = true then kvs.map (fun kv => if nkey kv.1 = some k then (kv.1, z) else kv) else kvs ++ [(y, z)]
/-- a tuple as a key -/
def tkey (d : D) : Option NestedKey := match d with
  | .tup ds => (match nkey (.tup ds) with
    | some k => if k.depth ≤ 8 then some k else none
    | none => none)
  | _ => none
section
variable {Γ : G} {W : WX} {X : Cx} {f f' : List Addr} {H : Hp} {S : Store} {pins : List (Addr × Obj)} {σ : L2.St} {s : Shared}
theorem tkey_ok {d : D} {k : NestedKey} (h : tkey d = some k) : nkey d = some k ∧ k.depth ≤ 8 ∧ ∃ ds, d = .tup ds := by
  unfold tkey at h
  split at h
  · rename_i ds
    split at h
    · rename_i k' hk
      split at h
      · rename_i c
        cases h
        exact ⟨hk, c, ds, rfl⟩
      · cases h
    · cases h
  · cases h
theorem tkey_is (I : Inv X pins σ H s) (hK : X.K = Γ.K) {d : D} {v : V} {u : Value} {k : NestedKey} (r : Rp Γ f H d v) (rv : RelV v u) (h : tkey d = some k) : ∃ b, v = .ref b ∧ u = .ref b ∧ (nestedKind X.prog X.w).is s.heap k b := by
  obtain ⟨h1, h2, ds, rfl⟩ := tkey_ok h
  have is := nk_is I hK r rv h1
  simp only [Rp] at r
  obtain ⟨a, vs, e, _⟩ := r
  subst e
  cases (show u = Value.ref a from rv)
  exact ⟨a, rfl, rfl, is, h2⟩
theorem DtR.is (I : Inv X pins σ H s) (hK : X.K = Γ.K) {w : World} : ∀ {kvs : List (D × D)} {xs : List (NestedKey × Addr × Value)}, RpL Γ f H (kvs.map (·.1)) (xs.map fun x => .ref x.2.1) → ((kvs.map fun kv => nkey kv.1) = xs.map fun x => some x.1) → (∀ x ∈ xs, x.1.depth ≤ 8) → ∀ x ∈ xs, (nestedKind X.prog X.w).is s.heap x.1 x.2.1
  | [], [], _, _, _, x, hx => by cases hx
  | [], _ :: _, _, e, _, _, _ => by simp at e
  | _ :: _, [], _, e, _, _, _ => by simp at e
  | kv :: kvs, y :: ys, r, e, hd, x, hx => by
    simp only [List.map_cons, RpL] at r
    obtain ⟨v, vr, e0, r1, r2⟩ := r
    simp only [List.cons.injEq] at e0
    obtain ⟨rfl, rfl⟩ := e0
    simp only [List.map_cons, List.cons.injEq] at e
    rcases List.mem_cons.mp hx with rfl | hx
    · exact ⟨nk_is I hK r1 (u := .ref x.2.1) rfl e.1, hd x List.mem_cons_self⟩
    · exact DtR.is (w := w) I hK r2 e.2 (fun z hz => hd z (List.mem_cons_of_mem _ hz)) x hx
theorem dt_at (I : Inv X pins σ H s) (hK : X.K = Γ.K) (hw : Γ.w = some X.w) {n : Nat} {kvs : List (D × D)} {v : V} (rs : RelS Γ f S H) (hn : S[n]? = some (.dt kvs)) (r : Rp Γ f H (.ref n) v) :
    ∃ a xs us, v = .ref a ∧ f[n]? = some a ∧ H a = some (DtO X.w a xs) ∧ DtR Γ f H kvs X.w xs us ∧ s.heap.DictOfH (nestedKind X.prog X.w) a xs ∧ xs.length ≤ sizeLine ∧ (a == sysModules) = false := by
  obtain ⟨a, ha, e⟩ := r.ref
  obtain ⟨b, hb, w, xs, us, hh, dr⟩ := rs.ob n _ hn
  rw [ha] at hb
  cases hb
  have ew := dr.w
  rw [hw] at ew
  cases ew
  obtain ⟨⟨⟨h1, h2⟩, o, es, ep, h3, h4, h5, h6, h7⟩, _⟩ := (show ObjOk X.prog X.w H s.heap a (DtO X.w a xs) from I.hok a _ hh)
  exact ⟨a, xs, us, e, ha, hh, dr, ⟨o, es, ep, h3, h4, h5, h6, DtR.is (w := X.w) I hK dr.ks dr.nk dr.dp, h7⟩, h1, h2⟩
theorem dt_lk {k : NestedKey} : ∀ {kvs : List (D × D)} {xs : List (NestedKey × Addr × Value)} {us : List V}, RpL Γ f H (kvs.map (·.2)) us → Vals us (xs.map (·.2.2)) → ((kvs.map fun kv => nkey kv.1) = xs.map fun x => some x.1) →
    (lkN kvs k = none ∧ atKey xs k = none) ∨ ∃ d v p, lkN kvs k = some d ∧ atKey xs k = some p ∧ Rp Γ f H d v ∧ RelV v p.2
  | [], [], _, _, _, _ => .inl ⟨rfl, rfl⟩
  | [], _ :: _, _, _, _, e => by simp at e
  | _ :: _, [], _, _, _, e => by simp at e
  | kv :: kvs, x :: xs, us, r, rv, e => by
    simp only [List.map_cons, RpL] at r
    obtain ⟨v, vr, e0, r1, r2⟩ := r
    subst e0
    simp only [List.map_cons] at rv
    cases rv with
    | cons a b =>
      simp only [List.map_cons, List.cons.injEq] at e
      by_cases c : x.1 = k
      · exact .inr ⟨kv.2, v, x.2, by simp [lkN, e.1, c], by simp [atKey, c], r1, a⟩
      · rcases dt_lk (k := k) r2 b e.2 with ⟨h1, h2⟩ | ⟨d', v', p', h1, h2, h3⟩
        · exact .inl ⟨by simpa [lkN, e.1, c] using h1, by simpa [atKey, c] using h2⟩
        · exact .inr ⟨d', v', p', by simpa [lkN, e.1, c] using h1, by simpa [atKey, c] using h2, h3⟩
/-! ### d[k] -/
def gIxN (x y : D) (S : Store) : R D := match x, tkey y with
  | .ref n, some k => (match S[n]? with
    | some (.dt kvs) => (match lkN kvs k with
      | some d => .ok d S
      | none => .bad)
    | _ => .bad)
  | _, _ => .bad
def rIxN (Γ : G) : R2 := fun x y H Q => ∃ f S n kvs dy k d, RelS Γ f S H ∧ Rp Γ f H (.ref n) x ∧ Rp Γ f H dy y ∧ S[n]? = some (.dt kvs) ∧ tkey dy = some k ∧ lkN kvs k = some d ∧ ∀ v, Rp Γ f H d v → Q v H
theorem ok_ixN : OpOk Γ (rIxN Γ) gIxN := fun W σ f S H x y v u Q rs rx ry h => by
  unfold gIxN at h
  split at h
  · rename_i n k hk
    split at h
    · rename_i kvs hn
      split at h
      · rename_i d hd
        exact ⟨f, S, n, kvs, y, k, d, rs, rx, ry, hn, hk, hd, fun v r => h f H v .refl rs r⟩
      · exact h.elim
    · exact h.elim
  · exact h.elim
theorem ix_N {k : Nat} (hK : X.K = Γ.K) (hw : Γ.w = some X.w) (hr : Room k X.A) : IxR X (rIxN Γ) := by
  have hu : X.A.units + 9 < cLine := by have := hr.un; omega
  intro value slice pins s σ H x y v u Q I rx ry h hs
  obtain ⟨f, S, n, kvs, dy, k, d, rs, r1, r2, hn, hk, hd, q⟩ := h
  obtain ⟨a, xs, us, ex, ha, hh, dr, dd, _, _⟩ := dt_at I hK hw rs hn r1
  subst ex
  obtain rfl : v = Value.ref a := rx
  obtain ⟨b, _, eu, is⟩ := tkey_is I hK r2 ry hk
  subst eu
  rcases dt_lk (k := k) dr.vs dr.rv dr.nk with ⟨z, _⟩ | ⟨d', v', p, h1, h2, h3, h4⟩
  · rw [hd] at z; cases z
  · rw [hd] at h1
    cases h1
    refine tail_any dd.typeIs PySem.F.slot_dict_getitem.lookup (wpAny_getItem_heap (knd := nestedKind X.prog X.w) (show X.A.in1.units + 8 < cLine by show X.A.units + 1 + 8 < cLine; omega) is dd h2 ?_) hs
    exact ⟨v', H, I.tok _, h4, q v' h3⟩
end
end Lk

set_option Elab.async false
set_option linter.all false
set_option autoImplicit false
set_option maxRecDepth 100000
set_option maxHeartbeats 4000000
namespace Lk
open PySem PySem.Spec PyProof.Rows L2
section
variable {Γ : G} {W : WX} {X : Cx} {f f' : List Addr} {H : Hp} {S : Store} {pins : List (Addr × Obj)} {σ : L2.St} {s : Shared}
theorem DtR.mapv {w : World} {k : NestedKey} {dz : D} {z : V} {r : Value} (r2 : Rp Γ f H dz z) (rv2 : RelV z r) : ∀ {kvs : List (D × D)} {xs : List (NestedKey × Addr × Value)} {us : List V}, DtR Γ f H kvs w xs us → ∃ us', DtR Γ f H (kvs.map fun kv => if nkey kv.1 = some k then (kv.1, dz) else kv) w (xs.map (putAt k r)) us'
  | [], [], us, d => ⟨us, d⟩
  | [], _ :: _, us, d => by have := d.len; simp at this
  | _ :: _, [], us, d => by have := d.len; simp at this
  | kv :: kvs, x :: xs, us, d => by
    obtain ⟨dw, dks, dvs, drv, dnk, ddp⟩ := d
    simp only [List.map_cons, RpL] at dks dvs
    obtain ⟨v1, vr1, e1, k1, k2⟩ := dks
    obtain ⟨v2, vr2, e2, q1, q2⟩ := dvs
    subst e2
    simp only [List.cons.injEq] at e1
    obtain ⟨rfl, rfl⟩ := e1
    simp only [List.map_cons, List.cons.injEq] at dnk
    cases drv with
    | cons a b =>
      obtain ⟨us', i1, i2, i3, i4, i5, i6⟩ := DtR.mapv r2 rv2 ⟨dw, k2, q2, b, dnk.2, fun y hy => ddp y (List.mem_cons_of_mem _ hy)⟩
      by_cases c : x.1 = k
      · have c1 : nkey kv.1 = some k := by rw [dnk.1, c]
        refine ⟨z :: us', dw, ?_, ?_, ?_, ?_, ?_⟩
        · simp only [List.map_cons, c1, if_true, putAt, c, RpL]
          exact ⟨_, _, rfl, k1, i2⟩
        · simp only [List.map_cons, c1, if_true, RpL]
          exact ⟨_, _, rfl, r2, i3⟩
        · simp only [List.map_cons, putAt, c, if_true]
          exact .cons rv2 i4
        · simp only [List.map_cons, c1, if_true, putAt, c, i5]
        · intro y hy
          rw [List.map_cons] at hy
          rcases List.mem_cons.mp hy with rfl | hy
          · simp only [putAt, c, if_true]
            have := ddp x List.mem_cons_self
            rwa [c] at this
          · exact i6 y hy
      · have c1 : ¬ nkey kv.1 = some k := by rw [dnk.1]; simpa using c
        refine ⟨v2 :: us', dw, ?_, ?_, ?_, ?_, ?_⟩
        · simp only [List.map_cons, c1, if_false, putAt, c, RpL]
          exact ⟨_, _, rfl, k1, i2⟩
        · simp only [List.map_cons, c1, if_false, RpL]
          exact ⟨_, _, rfl, q1, i3⟩
        · simp only [List.map_cons, putAt, c, if_false]
          exact .cons a i4
        · simp only [List.map_cons, c1, if_false, putAt, c, i5]
          rw [dnk.1]
        · intro y hy
          rw [List.map_cons] at hy
          rcases List.mem_cons.mp hy with rfl | hy
          · simp only [putAt, c, if_false]
            exact ddp x List.mem_cons_self
          · exact i6 y hy
theorem vals_snoc : ∀ {us : List V} {ws : List Value} {v : V} {r : Value}, Vals us ws → RelV v r → Vals (us ++ [v]) (ws ++ [r])
  | [], _, _, _, .nil, h => .cons h .nil
  | _ :: _, _, _, _, .cons a b, h => .cons a (vals_snoc b h)
theorem DtR.put {w : World} {k : NestedKey} {dy dz : D} {z : V} {b : Addr} {r : Value} (r1 : Rp Γ f H dy (.ref b)) (hk : tkey dy = some k) (r2 : Rp Γ f H dz z) (rv2 : RelV z r) {kvs : List (D × D)} {xs : List (NestedKey × Addr × Value)} {us : List V} (d : DtR Γ f H kvs w xs us) : ∃ us', DtR Γ f H (putN kvs k dy dz) w (storedH xs k b r) us' := by
  obtain ⟨h1, h2, _⟩ := tkey_ok hk
  rcases dt_lk (k := k) d.vs d.rv d.nk with ⟨a1, a2⟩ | ⟨d', v', p, a1, a2, _⟩
  · unfold putN
    rw [a1, storedH_new a2]
    simp only [Option.isSome_none, Bool.false_eq_true, if_false]
    refine ⟨us ++ [z], d.w, ?_, ?_, ?_, ?_, ?_⟩
    · simp only [List.map_append, List.map_cons, List.map_nil]
      exact d.ks.snoc r1
    · simp only [List.map_append, List.map_cons, List.map_nil]
      exact d.vs.snoc r2
    · simp only [List.map_append, List.map_cons, List.map_nil]
      exact vals_snoc d.rv rv2
    · simp only [List.map_append, List.map_cons, List.map_nil, d.nk, h1]
    · intro x hx
      rcases List.mem_append.mp hx with hx | hx
      · exact d.dp x hx
      · rw [List.mem_singleton.mp hx]
        exact h2
  · unfold putN
    rw [a1, storedH_old a2]
    simp only [Option.isSome_some, if_true]
    exact DtR.mapv r2 rv2 d
theorem storedH_len {K : Type} [DecidableEq K] {xs : List (K × Addr × Value)} {k : K} {a : Addr} {v : Value} : (storedH xs k a v).length ≤ xs.length + 1 := by
  unfold storedH
  split <;> simp
theorem dtO_ok {P : Program} {w : World} {H' : Hp} {h : Heap} {a : Addr} {xs : List (NestedKey × Addr × Value)} (z : xs.length ≤ sizeLine) (y : (a == sysModules) = false) (d : h.DictOfH (nestedKind P w) a xs) : ObjOk P w H' h a (DtO w a xs) := by
  obtain ⟨o, es, ep, h1, h2, h3, h4, _, h5⟩ := d
  refine ⟨⟨⟨z, y⟩, o, es, ep, h1, h2, h3, h4, h5⟩, ⟨o, h1⟩, fun ha hb p k => ?_⟩
  obtain ⟨q, o, es, ep, h1, h2, h3, h4, h5⟩ := p
  exact ⟨q, o, es, ep, k o h1, h2, h3, h4, h5⟩
/-- d[k] = v, at the heap's level: as a comprehension and as a statement write it -/
theorem dt_new (I : Inv X pins σ H s) {a b : Addr} {n : Nat} {kvs : List (D × D)} {xs : List (NestedKey × Addr × Value)} {us : List V} {k : NestedKey} {dy dz : D} {z : V} {r : Value} {h' : Heap} {t' : Nat} (rs : RelS Γ f S H) (ha : f[n]? = some a) (hh : H a = some (DtO X.w a xs)) (dr : DtR Γ f H kvs X.w xs us) (zl : kvs.length < sizeLine) (y : (a == sysModules) = false)
    (r1 : Rp Γ f H dy (.ref b)) (hk : tkey dy = some k) (r2 : Rp Γ f H dz z) (rv2 : RelV z r) (dd : h'.DictOfH (nestedKind X.prog X.w) a (storedH xs k b r)) (hs : Heap.SameBut a s.heap h') :
    ∃ H', Inv X pins σ H' { s with heap := h', toks := t' } ∧ RelS Γ f (S.set n (.dt (putN kvs k dy dz))) H' ∧ Up Γ f H f H' := by
  have hl : (storedH xs k b r).length ≤ sizeLine := by
    have := storedH_len (xs := xs) (k := k) (a := b) (v := r)
    have := dr.len
    omega
  have he : ∃ q, h'.get? a = some q := let ⟨q, _, _, hq, _⟩ := dd; ⟨q, hq⟩
  have kp : Keep Γ H (upd H a (DtO X.w a (storedH xs k b r))) := .chg hh trivial
  have uc : Up Γ f H f (upd H a (DtO X.w a (storedH xs k b r))) := ⟨⟨[], by simp⟩, kp⟩
  obtain ⟨us', d'⟩ := DtR.put r1 hk r2 rv2 dr
  refine ⟨_, d_write I (by rw [hh]; exact True.intro) hs he (dtO_ok hl y dd), rs.set ha kp ⟨X.w, _, us', upd_same, ⟨d'.w, d'.ks.up uc, d'.vs.up uc, d'.rv, d'.nk, d'.dp⟩⟩, uc⟩
theorem dt_setD (I : Inv X pins σ H s) (hK : X.K = Γ.K) (hw : Γ.w = some X.w) (hu : X.A.units + 8 < cLine) {n : Nat} {a : Addr} {kvs : List (D × D)} {k : NestedKey} {dy dz : D} {y z : V} {u r : Value} {Q : Unit → Shared → Prop} {E : Value → Shared → Prop} (rs : RelS Γ f S H) (hn : S[n]? = some (.dt kvs)) (ha : f[n]? = some a) (zl : kvs.length < sizeLine)
    (r1 : Rp Γ f H dy y) (ru : RelV y u) (hk : tkey dy = some k) (r2 : Rp Γ f H dz z) (rv2 : RelV z r) (h : ∀ s' H', Inv X pins σ H' s' → RelS Γ f (S.set n (.dt (putN kvs k dy dz))) H' → Up Γ f H f H' → Q () s') : wpAny (model X.prog X.w) X.A (dictSet a u r) Q E s := by
  obtain ⟨a', xs, us, e, ha', hh, dr, dd, hz, hy⟩ := dt_at I hK hw rs hn (Rp.refI ha)
  cases e
  obtain ⟨b, ey, eu, is⟩ := tkey_is I hK r1 ru hk
  subst ey
  subst eu
  refine wpAny_dictSet_heap (knd := nestedKind X.prog X.w) (hsz := hz) hu is dd fun h' dd' hs => ?_
  obtain ⟨H', I', rs', u'⟩ := dt_new (t' := s.toks + (nestedKind X.prog X.w).draws k) I rs ha hh dr zl hy r1 hk r2 rv2 dd' hs
  exact h _ H' I' rs' u'
/-! ### {k: v for .. in ..} -/
def tDcN (Γ : G) (w : World) (wi : TI) (g : TG) (tt : TT) (tk tv : TE) (vs : List Nat) : TE := fun σ H Q => wi σ H fun J H1 => ∀ D, H1 D = none → ∃ Wv : Nat → Nat → Hp → Prop, (∃ m, Wv 0 m (upd H1 D (DtO w D []))) ∧ ∀ i m H, Wv i m H →
  (J.stop i H ∧ Q (.ref D) H) ∨ (J.go i H ∧ ∃ Nx : Hp → Prop, (∀ H', Nx H' → ∃ m', m' < m ∧ Wv (i + 1) m' H') ∧ ∀ x H', J.yld i H x H' → g x (wipe σ vs) H' fun σ2 H2 => wipe σ2 vs = wipe σ vs ∧ tt σ2 H2 fun b H3 =>
    if b = true then tk σ2 H3 fun y H4 => tv σ2 H4 fun z H5 => ∃ f S n kvs dy dz k, RelS Γ f S H5 ∧ S[n]? = some (.dt kvs) ∧ f[n]? = some D ∧ kvs.length < sizeLine ∧ Rp Γ f H5 dy y ∧ tkey dy = some k ∧ Rp Γ f H5 dz z ∧ ∀ H6, RelS Γ f (S.set n (.dt (putN kvs k dy dz))) H6 → Up Γ f H5 f H6 → Nx H6 else Nx H3)
theorem dcN_core {Q : VK} {kx vx tg iter : Expr} {ifs : List Expr} {scope : Scope} {own : List (Str × Nat)} {pos pos' : Pos} {wi : TI} {g : TG} {tt : TT} {tk tv : TE} {use : Option (Value → Sem Unit)} {Qf : Value → Shared → Prop}
    (hK : X.K = Γ.K) (hw : Γ.w = some X.w) (hu : X.A.units + 8 < cLine) (hc : X.calm = true) (hN : X.N.Nodup) (I : Inv X pins σ H s) (hi : PI X tg iter wi) (ok : BlkOk X.N X.env.scope scope own)
    (hg : ∀ (s : Shared) (H : Hp) (C : Addr) (cl : List (Str × Addr)) (fp : List Addr), PG (X.blk s H scope (compEnvC scope cl C X.env) fp) tg g) (ht : ∀ (s : Shared) (H : Hp) (C : Addr) (cl : List (Str × Addr)) (fp : List Addr), PTs (X.blk s H scope (compEnvC scope cl C X.env) fp) ifs tt)
    (hk : ∀ (s : Shared) (H : Hp) (C : Addr) (cl : List (Str × Addr)) (fp : List Addr), PE (X.blk s H scope (compEnvC scope cl C X.env) fp) kx tk)
    (he : ∀ (s : Shared) (H : Hp) (C : Addr) (cl : List (Str × Addr)) (fp : List Addr), PE (X.blk s H scope (compEnvC scope cl C X.env) fp) vx tv) (hs : ∀ x, foldedSetIterable iter X.env x = pure x)
    (h : tDcN Γ X.w wi g tt tk tv (own.map (·.2)) σ H Q)
    (hRR : ∀ D C s' m H', Inv X pins σ H' s' → Q (.ref D) H' → s'.heap.Ns C m → FpOk X pins H' C → compPost (model X.prog X.w) X.A X.xe use Qf (.ref D) C (.ok .next) s') :
    wpAny (model X.prog X.w) X.A (comprehension (.DictComp kx vx [⟨tg, iter, ifs, 0⟩] scope pos) scope X.env pos' newDict false (eval iter X.env) use) Qf X.xe s := by
  have hfree : ∀ y ∈ scope.names, y.2 = .free → ∃ c, X.env.cells.lookup y.1 = some c := fun y hy e => by
    rcases ok.free y hy e with k | k
    · exact I.ok.has _ (.inl k)
    · exact I.ok.has _ (.inr k)
  refine wpAny_comprehension_free (use := use) rfl hs (closure_ok hfree) ok.kind (fun y hy e => by rw [ok.uniq y hy, e])
    (thn (hi.run pins s σ H _ I h) fun xv s1 hx => thn hx fun itv s2 h2 => ?_)
  obtain ⟨it, fp, tn, J, H2, e, I2, T, st2, f2, q⟩ := h2
  subst e
  refine wpAny_newObj_type (newEnv_comp ?_)
  generalize hD : s2.heap.objs.size = D
  have hDn : H2 D = none := I2.hok.fresh (Nat.le_of_eq hD)
  obtain ⟨W, ⟨m0, w0⟩, turn⟩ := q D hDn
  -- the new dict
  generalize hs3 : ({ s2 with heap := s2.heap.push { cls := .type "dict", data := .dict #[] } } : Shared) = s3
  have I3 : Inv X pins σ (upd H2 D (DtO X.w D [])) s3 := by
    rw [← hs3]
    refine I2.laid (t' := s2.toks) (fun b o e => Heap.get?_push_of_some _ e) (Nat.le_of_eq hD) ?_
    rw [← hD]
    exact dtO_ok (Nat.zero_le _) (beq_eq_false_iff_ne.mpr (Ne.symm (Nat.ne_of_lt I2.big))) (Heap.DictOfH.new s2.heap)
  have h3 : s3.heap = s2.heap.push { cls := .type "dict", data := .dict #[] } := by rw [← hs3]
  have sz : ∀ b ∈ fp, b < s2.heap.objs.size := fun b hb => by
    obtain ⟨o, e, _⟩ := T.obj _ _ st2 b hb
    exact Heap.lt_size e
  have f3 : ∀ b ∈ fp, FpOk X pins (upd H2 D (DtO X.w D [])) b ∧ b < s3.heap.objs.size := fun b hb => by
    have hlt := sz b hb
    refine ⟨⟨?_, (f2 b hb).2⟩, by rw [h3, Heap.size_push]; exact Nat.lt_succ_of_lt hlt⟩
    rw [upd_ne (by rw [← hD]; exact Nat.ne_of_lt hlt)]
    exact (f2 b hb).1
  have st3 : tn 0 s3.heap := T.keep _ _ _ st2 fun b _ o e => by rw [h3]; exact Heap.get?_push_of_some _ e
  have I4 := block_start I3 ok hN f3
  have pg := hg s3 (upd H2 D (DtO X.w D [])) s3.heap.objs.size (cellsFrom (s3.heap.objs.size + 1) scope.names (cloFrom X.env.cells scope.names [])) fp
  have pt := ht s3 (upd H2 D (DtO X.w D [])) s3.heap.objs.size (cellsFrom (s3.heap.objs.size + 1) scope.names (cloFrom X.env.cells scope.names [])) fp
  have pk := hk s3 (upd H2 D (DtO X.w D [])) s3.heap.objs.size (cellsFrom (s3.heap.objs.size + 1) scope.names (cloFrom X.env.cells scope.names [])) fp
  have pe := he s3 (upd H2 D (DtO X.w D [])) s3.heap.objs.size (cellsFrom (s3.heap.objs.size + 1) scope.names (cloFrom X.env.cells scope.names [])) fp
  show codeAny _ _ (.compStart (.DictComp kx vx [⟨tg, iter, ifs, 0⟩] scope pos) 0 (.ref it) (.ref D) (compEnvC scope (cellsFrom (s3.heap.objs.size + 1) scope.names (cloFrom X.env.cells scope.names [])) s3.heap.objs.size X.env)) (compPost (model X.prog X.w) X.A X.xe use Qf (.ref D) s3.heap.objs.size) { s3 with heap := pushCells (s3.heap.push { cls := .type "dict", data := .dict #[] }) scope.names }
  have nfp : ∀ b ∈ fp, (upd H2 D (DtO X.w D [])) b = none := fun b hb => (f3 b hb).1.1
  generalize hce : compEnvC scope (cellsFrom (s3.heap.objs.size + 1) scope.names (cloFrom X.env.cells scope.names [])) s3.heap.objs.size X.env = ce at I4 pg pt pk pe ⊢
  have cL : ce.locals = s3.heap.objs.size := by subst hce; rfl
  generalize hH3 : upd H2 D (DtO X.w D []) = H3 at I3 I4 pg pt pk pe w0 nfp f3
  generalize hs4 : ({ s3 with heap := pushCells (s3.heap.push { cls := .type "dict", data := .dict #[] }) scope.names } : Shared) = s4 at I4 ⊢
  have st4 : tn 0 s4.heap := T.keep _ _ _ st3 fun b _ o e => by rw [← hs4]; exact pushCells_keeps _ _ _ _ (Heap.get?_push_of_some _ e)
  have stat : ∀ {σ' : L2.St} {H' : Hp} {s' : Shared}, Inv (X.blk s3 H3 scope ce fp) [] σ' H' s' → (∀ b ∈ fp, H' b = none) → ∀ b ∈ fp, FpOk (X.blk s3 H3 scope ce fp) [] H' b := fun {σ' H' s'} I' hn b hb =>
    ⟨hn b hb, (I'.ok.exf b hb).1, I'.ok.exfs b hb, .inl hb, fun x c e => (I'.ok.exf b hb).2 x c e, fun p hp => absurd (show p ∈ ([] : List (Addr × Obj)) ++ [] from hp) (by simp)⟩
  have loop : codeAny (model X.prog X.w) X.A (.compLoop (.DictComp kx vx [⟨tg, iter, ifs, 0⟩] scope pos) 0 (.ref it) (.ref D) ce) (compPost (model X.prog X.w) X.A X.xe use Qf (.ref D) s3.heap.objs.size) s4 := by
    refine compLoop_anyD (fun n s' => ∃ i H', Inv (X.blk s3 H3 scope ce fp) [] (wipe σ (own.map (·.2))) H' s' ∧ tn i s'.heap ∧ (∀ b ∈ fp, H' b = none) ∧ W i n H') ?_ m0 ⟨0, H3, I4, st4, nfp, w0⟩
    rintro n s5 ⟨i, H5, I5, st5, n5, w5⟩
    rcases turn i n H5 w5 with ⟨stop, qq⟩ | ⟨go, Nx, hNx, step⟩
    · have td := T.done (X.blk s3 H3 scope ce fp) rfl rfl rfl hc i [] s5 _ H5 (fun _ _ => False) I5 (stat I5 n5) st5 stop
      refine thnF td fun r s6 ⟨hr, I6⟩ => ?_
      subst hr
      -- back in the def's context
      have I7 : Inv X pins σ H5 s6 := I3.call' (ch := fp) I6.os I6.base I6.hok I6.bare fun b hb => ⟨(f3 b hb).1.2.2.2.1, (f3 b hb).1.2.1, (f3 b hb).1.2.2.2.2.1, (f3 b hb).1.2.2.2.2.2⟩
      have nC : H5 s3.heap.objs.size = none := by
        have z : H5 ce.locals = none := I6.free
        rw [cL] at z
        exact z
      obtain ⟨m, hn, _⟩ := I6.loc
      have hn : s6.heap.Ns ce.locals m := hn
      rw [cL] at hn
      exact hRR D s3.heap.objs.size s6 m H5 I7 qq hn (I3.fpOk (Nat.le_refl _) nC)
    · have ti := T.item (X.blk s3 H3 scope ce fp) rfl rfl rfl hc i [] s5 _ H5 (fun _ _ => False) I5 (stat I5 n5) st5 go
      refine thnF ti fun r s6 ⟨u, hr, h6⟩ => ?_
      subst hr
      refine thnF h6 fun _ s7 ⟨x, H7, I7, r7, y7, st7, n7⟩ => ?_
      have I7' := I7.pinned (stat I7 n7) (T.obj _ _ st7)
      refine thnF (pg.run _ s7 _ H7 x u _ I7' r7 (step x H7 y7)) fun _ s8 ⟨σ8, H8, I8, hw8, q8⟩ => ?_
      refine thnF (pt.run _ s8 σ8 H8 _ I8 q8) fun b s9 ⟨H9, I9, q9⟩ => ?_
      -- the turn's end
      have fin : ∀ {s' : Shared} {H' : Hp}, Inv (X.blk s3 H3 scope ce fp) ([] ++ pinsAt fp s7.heap) σ8 H' s' → Nx H' → ∃ m, m < n ∧ ∃ i H', Inv (X.blk s3 H3 scope ce fp) [] (wipe σ (own.map (·.2))) H' s' ∧ tn i s'.heap ∧ (∀ b ∈ fp, H' b = none) ∧ W i m H' := fun {s' H'} I' nx => by
        obtain ⟨m', hm, w'⟩ := hNx H' nx
        have pin' : ∀ b ∈ fp, ∀ o, s7.heap.get? b = some o → s'.heap.get? b = some o ∧ H' b = none := fun b hb o e =>
          let z := I'.pin (b, o) (List.mem_append_right _ (List.mem_append_right _ (mem_pinsAt hb e)))
          ⟨z.1, z.2.1⟩
        have hl : (wipe σ (own.map (·.2))).length = σ8.length := by rw [← hw8, wipe_length]
        refine ⟨m', hm, i + 1, H', (I'.unpinned (pins := [])).weak hl (fun j v e => ?_), T.keep _ _ _ st7 fun b hb o e => (pin' b hb o e).1, fun b hb => ?_, w'⟩
        · rw [← hw8] at e
          exact (wipe_some e).1
        · obtain ⟨o, e, _⟩ := T.obj _ _ st7 b hb
          exact (pin' b hb o e).2
      cases b with
      | false =>
        simp only [Bool.false_eq_true, if_false] at q9 ⊢
        exact fin I9 q9
      | true =>
        simp only [if_true] at q9 ⊢
        refine thnF (pk.run _ s9 σ8 H9 _ I9 q9) fun z s10 ⟨yk, H10, I10, r10, q10⟩ => ?_
        refine thnF (pe.run _ s10 σ8 H10 _ I10 q10) fun z2 s11 ⟨yv, H11, I11, r11, f', S', n', kvs, dy, dz, k, rs', hn', hf', zl, ry, hky, rz, nx⟩ => ?_
        exact dt_setD (X := X.blk s3 H3 scope ce fp) I11 hK hw hu rs' hn' hf' zl ry r10 hky rz r11 fun s12 H12 I12 rs12 u12 => fin I12 (nx H12 rs12 u12)
  exact codeAny_compStart_dict loop (T.self X.A 0 _ _ _ st4 loop)
end
end Lk

set_option Elab.async false
set_option linter.all false
set_option autoImplicit false
set_option maxRecDepth 100000
set_option maxHeartbeats 4000000
namespace Lk
open PySem PySem.Spec PyProof.Rows L2
noncomputable def dcGo (gd : Store → Prop) (g : Tg) (mt : MT) (mk mv : ME) (env : Env) (p : Nat) : List D → Store → R D
  | [], S => open Classical in if gd S then .ok (.ref p) S else .bad
  | d :: ds, S => open Classical in if gd S then (match g.put d env with
    | some e1 => (match mt e1 S with
      | .ok true S2 => (match mk e1 S2 with
        | .ok y S3 => (match mv e1 S3 with
          | .ok z S4 => (match tkey y, S4[p]? with
            | some k, some (.dt kvs) => if kvs.length < lim then dcGo gd g mt mk mv env p ds (S4.set p (.dt (putN kvs k y z))) else .bad
            | _, _ => .bad)
          | _ => .bad)
        | _ => .bad)
      | .ok false S2 => dcGo gd g mt mk mv env p ds S2
      | _ => .bad)
    | _ => .bad) else .bad
noncomputable def mDcN (mi : MI) (g : Tg) (mt : MT) (mk mv : ME) (vs : List Nat) : ME := fun env S => (mi env S).bind fun s S1 => dcGo s.gd g mt mk mv (wipeE env vs) S1.length s.items (S1 ++ [.dt []])
section
variable {Γ : G} {W : WX} {X : Cx} {f : List Addr} {H : Hp} {S : Store}
theorem wipe_wipe {σ : L2.St} : ∀ us : List Nat, L2.wipe (L2.wipe σ us) us = L2.wipe σ us := by
  intro us
  have aux : ∀ (us ws : List Nat), (∀ i ∈ us, i ∈ ws) → L2.wipe (L2.wipe σ ws) us = L2.wipe σ ws := by
    intro us
    induction us with
    | nil => intro ws _; rfl
    | cons u us ih =>
      intro ws hs
      simp only [L2.wipe]
      rw [ih ws fun i hi => hs i (List.mem_cons_of_mem _ hi)]
      have hu := hs u List.mem_cons_self
      have hw : ∀ us : List Nat, u ∈ us → (L2.wipe σ us).set u none = L2.wipe σ us := by
        intro us
        induction us with
        | nil => intro h; simp at h
        | cons w us ih2 =>
          intro h
          simp only [L2.wipe]
          by_cases e : w = u
          · subst e
            rw [List.set_set]
          · rw [List.set_comm _ _ e, ih2 (by simpa [Ne.symm e] using h)]
      exact hw ws hu
  exact aux us us fun _ h => h
theorem dcN_core' (hx : Γ.xc = none) {w : World} (hw : Γ.w = some w) {J : It} {s : Src} {g : Tg} {mt : MT} {mk mv : ME} {vs : List Nat} {env : Env} {σ : L2.St} {Q : VK} (hg : ∀ i ∈ g.slots, i ∈ vs) (sv : Sv Γ f H s J) (rs : RelS Γ f S H) (re : RelE Γ f H env σ)
    (h : Wp Γ W σ f H (Rp Γ) Q (dcGo s.gd g mt mk mv (wipeE env vs) S.length s.items (S ++ [.dt []]))) (W0 : WX) : ∀ Da, H Da = none → ∃ Wv : Nat → Nat → Hp → Prop, (∃ m, Wv 0 m (upd H Da (DtO w Da []))) ∧ ∀ i m H, Wv i m H →
      (J.stop i H ∧ Q (.ref Da) H) ∨ (J.go i H ∧ ∃ Nx : Hp → Prop, (∀ H', Nx H' → ∃ m', m' < m ∧ Wv (i + 1) m' H') ∧ ∀ x H', J.yld i H x H' → g.raw Γ.K x (L2.wipe σ vs) H' fun σ2 H2 => L2.wipe σ2 vs = L2.wipe σ vs ∧ tT Γ W0 mt σ2 H2 fun b H3 =>
        if b = true then tE Γ W0 mk σ2 H3 fun y H4 => tE Γ W0 mv σ2 H4 fun z H5 => ∃ f S n kvs dy dz k, RelS Γ f S H5 ∧ S[n]? = some (.dt kvs) ∧ f[n]? = some Da ∧ kvs.length < sizeLine ∧ Rp Γ f H5 dy y ∧ tkey dy = some k ∧ Rp Γ f H5 dz z ∧ ∀ H6, RelS Γ f (S.set n (.dt (putN kvs k dy dz))) H6 → Up Γ f H5 f H6 → Nx H6 else Nx H3) := by
  intro Da hDa
  have hr0 : RelS Γ (f ++ [Da]) (S ++ [.dt []]) (upd H Da (DtO w Da [])) := rs.alloc (b := .dt []) hDa ⟨w, [], [], upd_same, hw, by simp only [List.map_nil, RpL], by simp only [List.map_nil, RpL], .nil, rfl, by simp⟩
  have h0 : Wp Γ W σ (f ++ [Da]) (upd H Da (DtO w Da [])) (Rp Γ) Q (dcGo s.gd g mt mk mv (wipeE env vs) S.length (s.items.drop 0) (S ++ [.dt []])) := Wp.mono (.alloc hDa) h
  refine ⟨fun i m H' => i ≤ s.items.length ∧ m = s.items.length - i ∧ ∃ S' f', RelS Γ f' S' H' ∧ f'[S.length]? = some Da ∧ Up Γ f H f' H' ∧ Wp Γ W σ f' H' (Rp Γ) Q (dcGo s.gd g mt mk mv (wipeE env vs) S.length (s.items.drop i) S'),
    ⟨_, Nat.zero_le _, rfl, S ++ [.dt []], f ++ [Da], hr0, by rw [← rs.len]; simp, .alloc hDa, h0⟩, ?_⟩
  rintro i m H1 ⟨hi, hm, S1, f1, rs1, hf1, u1, h1⟩
  cases hd : s.items.drop i with
  | nil =>
    rw [hd] at h1
    unfold dcGo at h1
    split at h1
    · rename_i gd
      have e : i = s.items.length := by
        have := List.drop_eq_nil_iff.mp hd
        omega
      refine .inl ⟨?_, h1 f1 H1 _ .refl rs1 (Rp.refI hf1)⟩
      rw [e]
      exact sv.stop f1 S1 H1 rs1 ⟨gd, u1⟩
    · exact h1.elim
  | cons d ds =>
    rw [hd] at h1
    have hlt : i < s.items.length := by
      have := congrArg List.length hd
      rw [List.length_drop, List.length_cons] at this
      omega
    have hdd : s.items[i]? = some d ∧ s.items.drop (i + 1) = ds := by
      rw [List.drop_eq_getElem_cons hlt] at hd
      injection hd with e1 e2
      exact ⟨by rw [List.getElem?_eq_getElem hlt, e1], e2⟩
    unfold dcGo at h1
    split at h1
    · rename_i gd
      obtain ⟨jg, jy⟩ := sv.go f1 S1 H1 i d rs1 ⟨gd, u1⟩ hdd.1
      refine .inr ⟨jg, fun H' => i + 1 ≤ s.items.length ∧ ∃ S' f', RelS Γ f' S' H' ∧ f'[S.length]? = some Da ∧ Up Γ f H f' H' ∧ Wp Γ W σ f' H' (Rp Γ) Q (dcGo s.gd g mt mk mv (wipeE env vs) S.length (s.items.drop (i + 1)) S'), ?_, ?_⟩
      · rintro H' ⟨h1, h2⟩
        exact ⟨_, by rw [hm]; omega, h1, rfl, h2⟩
      · intro x H' hy
        obtain ⟨u2, rs2, rp⟩ := jy x H' hy
        have re2 : RelE Γ f1 H' (wipeE env vs) (L2.wipe σ vs) := (re.up (u1.trans u2)).wipe hx vs
        rw [hdd.2]
        revert h1
        cases hput : g.put d (wipeE env vs) with
        | none => exact fun h1 => h1.elim
        | some e1 =>
          intro h1
          refine put_ok hg hput re2 rp rfl fun σ3 re3 hw3 => ⟨hw3.trans (wipe_wipe vs), ?_⟩
          refine ⟨e1, S1, f1, rs2, re3, ?_⟩
          revert h1
          dsimp only
          cases mt e1 S1 with
          | ok b S2 =>
            cases b with
            | true =>
              intro h1 f3 H3 b u3 rs3 eb
              subst eb
              refine ⟨e1, S2, f3, rs3, re3.up u3, ?_⟩
              revert h1
              dsimp only
              cases mk e1 S2 with
              | ok y S4 =>
                intro h1 f5 H5 v u5 rs5 r5
                refine ⟨e1, S4, f5, rs5, (re3.up u3).up u5, ?_⟩
                revert h1
                dsimp only
                cases mv e1 S4 with
                | ok z S6 =>
                  intro h1 f7 H7 v7 u7 rs7 r7
                  revert h1
                  dsimp only
                  split
                  · rename_i k kvs hk hacc
                    split
                    · rename_i hl
                      intro h1
                      have ua := u2.trans (u3.trans (u5.trans u7))
                      have ha := ua.at hf1
                      refine ⟨f7, S6, S.length, kvs, y, z, k, rs7, hacc, ha, by rw [lim_eq]; exact hl, r5.up u7, hk, r7, fun H8 rs8 u8 => ⟨hlt, _, f7, rs8, ha, u1.trans (ua.trans u8), Wp.mono (ua.trans u8) h1⟩⟩
                    · exact fun h1 => h1.elim
                  · exact fun h1 => h1.elim
                | ex C ds' S6 => exact fun h1 => h1.elim
                | bad => exact fun h1 => h1.elim
              | ex C ds' S4 => exact fun h1 => h1.elim
              | bad => exact fun h1 => h1.elim
            | false =>
              intro h1 f3 H3 b u3 rs3 eb
              subst eb
              exact ⟨hlt, S2, f3, rs3, (u2.trans u3).at hf1, u1.trans (u2.trans u3), Wp.mono (u2.trans u3) h1⟩
          | ex C ds' S2 => exact fun h1 => h1.elim
          | bad => exact fun h1 => h1.elim
    · exact h1.elim
theorem q_dcN (hx : Γ.xc = none) (hK : X.K = Γ.K) (hw : Γ.w = some X.w) {k : Nat} (hr : Room k X.A) {kx vx tg iter : Expr} {ifs : List Expr} {scope : Scope} {own : List (Str × Nat)} {pos : Pos} {mi : MI} {g : Tg} {mt : MT} {mk mv : ME} (hc : X.calm = true) (hN : X.N.Nodup) (hi : PI X tg iter (tI Γ W mi)) (ok : BlkOk X.N X.env.scope scope own)
    (hg : ∀ (s : Shared) (H : Hp) (C : Addr) (cl : List (Str × Addr)) (fp : List Addr), PG (X.blk s H scope (compEnvC scope cl C X.env) fp) tg (g.raw Γ.K)) (ht : ∀ (s : Shared) (H : Hp) (C : Addr) (cl : List (Str × Addr)) (fp : List Addr), PTs (X.blk s H scope (compEnvC scope cl C X.env) fp) ifs (tT Γ Wno mt))
    (hk : ∀ (s : Shared) (H : Hp) (C : Addr) (cl : List (Str × Addr)) (fp : List Addr), PE (X.blk s H scope (compEnvC scope cl C X.env) fp) kx (tE Γ Wno mk))
    (he : ∀ (s : Shared) (H : Hp) (C : Addr) (cl : List (Str × Addr)) (fp : List Addr), PE (X.blk s H scope (compEnvC scope cl C X.env) fp) vx (tE Γ Wno mv)) (hs : ∀ x, foldedSetIterable iter X.env x = pure x := by intro _; rfl) (hsl : (g.slots.all fun i => (own.map (·.2)).contains i) = true := by rfl) :
    PE X (.DictComp kx vx [⟨tg, iter, ifs, 0⟩] scope pos) (tE Γ W (mDcN mi g mt mk mv (own.map (·.2)))) := by
  refine ⟨fun pins s σ H Q I h => ?_⟩
  rw [arm_eval_DictComp]
  obtain ⟨env, S, f, rs, re, h⟩ := h
  have hu : X.A.units + 8 < cLine := by have := hr.un; omega
  refine dcN_core (Q := Q) (Γ := Γ) hK hw hu hc hN I hi ok hg ht hk he hs ⟨env, S, f, rs, re, Wp.bindL h fun s S1 f1 H1 J u1 rs1 sv h1 => dcN_core' hx hw (fun i hi => List.contains_iff_mem.mp (List.all_eq_true.mp hsl i hi)) sv rs1 (re.up u1) h1 Wno⟩ fun D C s' m H' I' q hn f => ⟨m, hn, fun h'' sb => ?_⟩
  obtain ⟨f0, f1, f2, f3, f4, f5⟩ := f
  exact ⟨.ref D, H', I'.turned (t' := s'.toks) (fun b o hb e => (sb.2 b hb).trans e) f0 f1 f3 f4 f5, rfl, q⟩
end
end Lk

set_option Elab.async false
set_option linter.all false
set_option autoImplicit false
set_option maxRecDepth 100000
set_option maxHeartbeats 4000000
/-! several except clauses, with names and without -/
namespace Lk
open PySem PySem.Spec PyProof.Rows L2
section
variable {X : Cx} {body : List Stmt} {h₀ : ExceptHandler} {hds : List ExceptHandler} {l : List HdT} {pos : Pos} {tb : WX → TS} {Wout : WX}
end
/-! ### the mirror -/
section
variable {Γ : G} {W : WX} {X : Cx} {f : List Addr} {H : Hp}
end
end Lk

set_option Elab.async false
set_option linter.all false
set_option autoImplicit false
set_option maxRecDepth 100000
set_option maxHeartbeats 4000000
/-! a name given a dict comprehension; x += e with ints -/
namespace Lk
open PySem PySem.Spec PyProof.Rows L2
section
variable {Γ : G} {W : WX} {X : Cx}
/-! x op= e, ints -/
end
end Lk

set_option Elab.async false
set_option linter.all false
set_option autoImplicit false
set_option maxRecDepth 100000
set_option maxHeartbeats 4000000
/-! a, b, .. = a list or a tuple of that length -/
namespace Lk
open PySem PySem.Spec PyProof.Rows L2
section
variable {Γ : G} {W : WX} {X : Cx}
def gSeqU (K : PySem.W.Frag) (n : Nat) (t : TGs) : TG := fun v σ H Q => ∃ κ a xs, v = .ref a ∧ SqK κ K H a xs ∧ xs.length = n ∧ t xs σ H Q
theorem pg_seqU {pos : Pos} {es : List Expr} {k : Nat} {t : TGs} {n : Nat} (hc : X.calm = true) (h : PGs X es t)
    (hn : (assignEach es X.env).length = n := by rfl) (hst : (assignEach es X.env).findIdx? (·.1) = none := by rfl) : PG X (.Tuple es k pos) (gSeqU X.K n t) := by
  refine ⟨fun pins s σ H v u Q I r hw => ?_⟩
  obtain ⟨κ, a, xs, e1, hq, hl, hw⟩ := hw
  subst e1
  cases r
  cases κ with
  | true =>
    obtain ⟨its, rv, ht, hz⟩ := I.tuple hq
    refine assign_Tuple_tuple (I.ok.hd hc) ht (by simp [hn, ← hl, rv.length]) hst fun h' hx => ?_
    have I1 : Inv X pins σ H { s with heap := h' } := I.kept (t' := s.toks) fun b o e => hx b o (Nat.ne_of_lt (Heap.lt_size e)) e
    exact h.run pins _ σ H xs _ Q I1 (by simpa using rv) hw
  | false =>
    obtain ⟨its, rv, ht, hz⟩ := I.list hq
    rw [assign_Tuple]
    refine wpAny_bind (wpAny_standAt ?_)
    unfold unpack
    have e2 : (assignEach es X.env).length = its.toArray.size := by rw [hn, ← hl, rv.length]; simp
    rw [e2, hst]
    refine wpAny_bind (wpAny_holding (PySem.W.kun_itemsOf (I.ok.hd hc) ht.isList fun h' hx => ?_))
    have I1 : Inv X pins σ H { s with heap := h' } := I.kept (t' := s.toks) fun b o e => hx b o (Nat.ne_of_lt (Heap.lt_size e)) e
    exact h.run pins _ σ H xs _ Q I1 (by simpa using rv) hw
/-- a, b, .. = any sequence of that length -/
def gUnpackS (n : Nat) (r : MGs) : MG := fun d env S => match seqOf d S with
  | some (ds, _) => if ds.length = n then r ds env S else .bad
  | none => .bad
theorem qg_seqU {es : List Expr} {gs : MGs} {pos : Pos} {k n : Nat} (hK : X.K = Γ.K) (hc : X.calm = true) (h : PGs X es (tGs Γ gs)) (hn : (assignEach es X.env).length = n := by rfl) (hst : (assignEach es X.env).findIdx? (·.1) = none := by rfl) : PG X (.Tuple es k pos) (tG Γ (gUnpackS n gs)) := PG.imp (pg_seqU hc h hn hst) fun v σ H Q ⟨d, env, S, f, rs, re, r, h⟩ => by
  unfold gUnpackS at h
  cases q : seqOf d S with
  | none => rw [q] at h; exact h.elim
  | some z =>
    obtain ⟨ds, g⟩ := z
    rw [q] at h
    have h : (match (if ds.length = n then gs ds env S else .bad) with
      | .ok e S' => ∀ f' σ' H', Up Γ f H f' H' → RelS Γ f' S' H' → RelE Γ f' H' e σ' → Q σ' H'
      | _ => False) := h
    obtain ⟨⟨κ, a, ev, hx⟩, hg⟩ := seqV_of rs r q
    obtain ⟨vs, sq, rr⟩ := hx f S H rs hg .refl
    by_cases hl : ds.length = n
    · rw [if_pos hl] at h
      exact ⟨κ, a, vs, ev, by rw [hK]; exact sq, by rw [← rr.length]; exact hl, ds, env, S, f, rs, re, rr, h⟩
    · rw [if_neg hl] at h
      exact h.elim
end
end Lk

set_option Elab.async false
set_option linter.all false
set_option autoImplicit false
set_option maxRecDepth 100000
set_option maxHeartbeats 4000000
/-! facts about mirrors alone, for every law -/
namespace Lk
open PySem L2
theorem lcGo_n {g : Tg} {mt : MT} {me : ME} {env : Lk.Env} {p : Nat} {S : Store} : lcGo (fun _ => True) g mt me env p [] S = .ok (.ref p) S := by unfold lcGo; exact if_pos trivial
/-- a comprehension whose element is a plain function of the item -/
theorem lc_map {i : Nat} {me : ME} {env : Lk.Env} {S : Store} (h : D → D) : ∀ (ds acc : List D), acc.length + ds.length ≤ lim → (∀ d ∈ ds, ∀ a : List D, me (env.set i (some d)) (S ++ [.lst a]) = .ok (h d) (S ++ [.lst a])) →
    lcGo (fun _ => True) (.nm i) mYes me env S.length ds (S ++ [.lst acc]) = .ok (.ref S.length) (S ++ [.lst (acc ++ ds.map h)])
  | [], acc, hl, hm => by rw [lcGo_n]; simp
  | d :: ds, acc, hl, hm => by
    have hl' : acc.length + (ds.length + 1) ≤ lim := by simpa using hl
    rw [lcGo, if_pos trivial]
    simp only [Tg.put, mYes]
    rw [hm d List.mem_cons_self acc]
    have g : (S ++ [Ob.lst acc])[S.length]? = some (.lst acc) := by simp
    have s : (S ++ [Ob.lst acc]).set S.length (.lst (acc ++ [h d])) = S ++ [.lst (acc ++ [h d])] := by simp
    simp only [g]
    rw [if_pos (by omega), s, lc_map h ds (acc ++ [h d]) (by simp; omega) fun d' hd a => hm d' (List.mem_cons_of_mem _ hd) a]
    simp
end Lk

set_option Elab.async false
set_option linter.all false
set_option autoImplicit false
set_option maxRecDepth 100000
set_option maxHeartbeats 4000000
/-! a comprehension with a test, over any source -/
namespace Lk
open PySem L2
end Lk

set_option Elab.async false
set_option linter.all false
set_option autoImplicit false
set_option maxRecDepth 100000
set_option maxHeartbeats 4000000
/-! comprehensions whose items are known but for a relation; loops that end early -/
namespace Lk
open PySem L2
theorem F2.get {P : D → D → Prop} : ∀ {ds rs : List D} {k : Nat} {d r : D}, F2 P ds rs → ds[k]? = some d → rs[k]? = some r → P d r
  | d :: ds, r :: rs, 0, _, _, h, h1, h2 => by
    simp at h1 h2
    rw [← h1, ← h2]; exact h.1
  | d :: ds, r :: rs, k + 1, _, _, h, h1, h2 => F2.get h.2 (by simpa using h1) (by simpa using h2)
  | [], [], _, _, _, _, h1, _ => by simp at h1
  | [], _ :: _, _, _, _, h, _, _ => h.elim
  | _ :: _, [], _, _, _, h, _, _ => h.elim
theorem F2.mem {P : D → D → Prop} : ∀ {ds rs : List D}, F2 P ds rs → ∀ r ∈ rs, ∃ d ∈ ds, P d r
  | [], [], _, r, hr => by cases hr
  | d :: ds, r' :: rs, h, r, hr => by
    rcases List.mem_cons.mp hr with z | z
    · exact ⟨d, List.mem_cons_self, by rw [z]; exact h.1⟩
    · obtain ⟨x, hx, p⟩ := F2.mem h.2 r z
      exact ⟨x, List.mem_cons_of_mem _ hx, p⟩
  | [], _ :: _, h, _, _ => h.elim
  | _ :: _, [], h, _, _ => h.elim
theorem lc_gen {gd : Store → Prop} {g : Tg} {me : ME} {env : Lk.Env} {S : Store} (P : D → D → Prop) (hgd : ∀ T, gd (S ++ T)) : ∀ (ds acc : List D), acc.length + ds.length ≤ lim →
    (∀ d ∈ ds, ∀ a : List D, ∃ e1 r, g.put d env = some e1 ∧ me e1 (S ++ [.lst a]) = .ok r (S ++ [.lst a]) ∧ P d r) →
    ∃ rs, lcGo gd g mYes me env S.length ds (S ++ [.lst acc]) = .ok (.ref S.length) (S ++ [.lst (acc ++ rs)]) ∧ F2 P ds rs
  | [], acc, hl, hm => ⟨[], by rw [lcGo, if_pos (hgd _)]; simp, trivial⟩
  | d :: ds, acc, hl, hm => by
    have hl' : acc.length + (ds.length + 1) ≤ lim := by simpa using hl
    obtain ⟨e1, r, hp, he, pr⟩ := hm d List.mem_cons_self acc
    obtain ⟨rs, e2, f2⟩ := lc_gen P hgd ds (acc ++ [r]) (by simp; omega) fun d' hd a => hm d' (List.mem_cons_of_mem _ hd) a
    refine ⟨r :: rs, ?_, pr, f2⟩
    rw [lcGo, if_pos (hgd _), hp]
    simp only [mYes]
    rw [he]
    have g : (S ++ [Ob.lst acc])[S.length]? = some (.lst acc) := by simp
    have s : (S ++ [Ob.lst acc]).set S.length (.lst (acc ++ [r])) = S ++ [.lst (acc ++ [r])] := by simp
    simp only [g]
    rw [if_pos (by omega), s, e2]
    simp
end Lk

set_option Elab.async false
set_option linter.all false
set_option autoImplicit false
set_option maxRecDepth 100000
set_option maxHeartbeats 4000000
/-! what a mirror's result is asked: a calculus of weakest demands -/
namespace Lk
open PySem L2
section
variable {α β : Type} {Q : α → Store → Prop} {X : XP} {P : Po}
theorem w_ex {C : Str} {ds : List D} {S : Store} : Wr (.ex C ds S) Q X = X C ds S := wr_def
theorem w_bad : Wr (.bad : R α) Q X = False := wr_def
theorem Wr.mono {Q' : α → Store → Prop} {X' : XP} {r : R α} (h : Wr r Q X) (hq : ∀ a S, Q a S → Q' a S) (hx : ∀ C ds S, X C ds S → X' C ds S) : Wr r Q' X' := by
  cases r with
  | ok a S => exact ⟨hq _ _ h.out⟩
  | ex C ds S => exact ⟨hx _ _ _ h.out⟩
  | bad => exact ⟨h.out⟩
theorem Wr.to {Q' : α → Store → Prop} {X' : XP} {r : R α} (h : Wr r Q noX) (hq : ∀ a S, Q a S → Q' a S) : Wr r Q' X' := h.mono hq fun _ _ _ h => h.elim
theorem Wr.get {r : R α} (h : Wr r Q noX) : ∃ a S, r = .ok a S ∧ Q a S := by
  cases r with
  | ok a S => exact ⟨a, S, rfl, h.out⟩
  | ex C ds S => exact (show False from h.out).elim
  | bad => exact (show False from h.out).elim
theorem Ws.mono {P' : Po} {r : RS} (h : Ws r P) (h1 : ∀ e S, P.nx e S → P'.nx e S) (h2 : ∀ d S, P.rt d S → P'.rt d S) (h3 : ∀ e S, P.bk e S → P'.bk e S) (h4 : ∀ e S, P.ct e S → P'.ct e S) (h5 : ∀ C ds e S, P.ex C ds e S → P'.ex C ds e S) : Ws r P' := by
  cases r with
  | nx e S => exact ⟨h1 _ _ h.out⟩
  | rt d S => exact ⟨h2 _ _ h.out⟩
  | bk e S => exact ⟨h3 _ _ h.out⟩
  | ct e S => exact ⟨h4 _ _ h.out⟩
  | ex C ds e S => exact ⟨h5 _ _ _ _ h.out⟩
  | bad => exact ⟨h.out⟩
theorem ws_seq {a b : MS} {env : Env} {S : Store} (h : Ws (a env S) ⟨fun e S' => Ws (b e S') P, P.rt, P.bk, P.ct, P.ex⟩) : Ws (mSeq a b env S) P := by
  unfold mSeq
  cases q : a env S with
  | nx e S1 => rw [q] at h; exact h.out
  | rt e S1 => rw [q] at h; exact ⟨h.out⟩
  | bk e S1 => rw [q] at h; exact ⟨h.out⟩
  | ct e S1 => rw [q] at h; exact ⟨h.out⟩
  | ex C ds e S1 => rw [q] at h; exact ⟨h.out⟩
  | bad => rw [q] at h; exact ⟨h.out⟩
end
section
variable {Q : D → Store → Prop} {X : XP} {P : Po}
theorem w_def {n : Nat} {m : MS} {ds : List D} {S : Store} (h : Ws (m (ds.map some ++ List.replicate (n - ds.length) none) S) ⟨fun _ S' => Wr (gc S .non S') Q X, fun d S' => Wr (gc S d S') Q X, fun _ _ => False, fun _ _ => False, fun C xs _ S' => Wr (gcX S C xs S') Q X⟩) : Wr (mDef n m ds S) Q X := by
  unfold mDef
  cases q : m (ds.map some ++ List.replicate (n - ds.length) none) S with
  | nx e S1 => rw [q] at h; exact h.out
  | rt e S1 => rw [q] at h; exact h.out
  | bk e S1 => rw [q] at h; exact (show False from h.out).elim
  | ct e S1 => rw [q] at h; exact (show False from h.out).elim
  | ex C ds e S1 => rw [q] at h; exact h.out
  | bad => rw [q] at h; exact (show False from h.out).elim
theorem w_gc {d : D} {S S' : Store} (h1 : Q d S') (h2 : d.cl S.length = true → S'.take S.length = S → Q d S) : Wr (gc S d S') Q X := by
  unfold gc
  split
  · rename_i c
    exact ⟨h2 c.1 c.2⟩
  · exact ⟨h1⟩
theorem w_gc_len {d : D} {S S' : Store} (hl : S'.length = S.length) (h : Q d S') : Wr (gc S d S') Q X := w_gc h fun _ e => by
  rw [← hl, List.take_length] at e
  rw [← e]
  exact h
theorem w_gc_take {d : D} {S S' : Store} (hc : d.cl S.length = true) (ht : S'.take S.length = S) (h : Q d S) : Wr (gc S d S') Q X := by
  unfold gc
  rw [if_pos ⟨hc, ht⟩]
  exact ⟨h⟩
theorem w_gc_new {p : Nat} {S S' : Store} (hp : S.length ≤ p) (h : Q (.ref p) S') : Wr (gc S (.ref p) S') Q X := w_gc h fun hc _ => by
  simp only [D.cl, decide_eq_true_eq] at hc
  omega
theorem w_gcX_self {C : Str} {ds : List D} {S : Store} : Wr (gcX S C ds S) Q X = X C ds S := by rw [gcX_self]; exact wr_def
/-- loops -/
theorem w_forR {gd : Store → Prop} {g : MG} {mb : MS} (I : List D → Env → Store → Prop) (fin : ∀ env S, I [] env S → gd S ∧ P.nx env S) :
    ∀ (ds : List D), (∀ d ds' env S, (∃ pre, ds = pre ++ d :: ds') → I (d :: ds') env S → gd S ∧ Wr (g d env S) (fun e1 S1 => Ws (mb e1 S1) ⟨I ds', P.rt, P.nx, I ds', P.ex⟩) noX) → ∀ (env : Env) (S : Store), I ds env S → Ws (forGo gd g mb ds env S) P
  | [], step, env, S, h => by
    obtain ⟨h1, h2⟩ := fin env S h
    rw [forGo, if_pos h1]
    exact ⟨h2⟩
  | d :: ds, step, env, S, h => by
    obtain ⟨h1, h2⟩ := step d ds env S ⟨[], rfl⟩ h
    rw [forGo, if_pos h1]
    obtain ⟨e1, S1, q, h3⟩ := h2.get
    rw [q]
    dsimp only
    have ih := w_forR I fin ds fun d' ds' env S ⟨pre, e⟩ => step d' ds' env S ⟨d :: pre, by rw [e]; rfl⟩
    cases q2 : mb e1 S1 with
    | nx e2 S2 => rw [q2] at h3; exact ih e2 S2 h3.out
    | ct e2 S2 => rw [q2] at h3; exact ih e2 S2 h3.out
    | bk e2 S2 => rw [q2] at h3; exact ⟨h3.out⟩
    | rt d S2 => rw [q2] at h3; exact ⟨h3.out⟩
    | ex C xs e2 S2 => rw [q2] at h3; exact ⟨h3.out⟩
    | bad => rw [q2] at h3; exact ⟨h3.out⟩
theorem w_for {gd : Store → Prop} {g : MG} {mb : MS} {ds : List D} {env : Env} {S : Store} (I : Nat → Env → Store → Prop) (h0 : I 0 env S)
    (step : ∀ k d env S, ds[k]? = some d → I k env S → gd S ∧ Wr (g d env S) (fun e1 S1 => Ws (mb e1 S1) ⟨I (k + 1), P.rt, P.nx, I (k + 1), P.ex⟩) noX)
    (fin : ∀ env S, I ds.length env S → gd S ∧ P.nx env S) : Ws (forGo gd g mb ds env S) P := by
  have key := w_forR (P := P) (gd := gd) (g := g) (mb := mb) (fun l env S => l.length ≤ ds.length ∧ I (ds.length - l.length) env S) (fun env S h => fin env S (by simpa using h.2)) ds (fun d ds' env S ⟨pre, e⟩ h => by
    have hk : ds[ds.length - (d :: ds').length]? = some d := by
      have : ds.length - (d :: ds').length = pre.length := by rw [e]; simp
      rw [this, e]
      simp
    obtain ⟨h1, h2⟩ := step _ d env S hk h.2
    have e2 : ds.length - (d :: ds').length + 1 = ds.length - ds'.length := by
      rw [e]; simp; omega
    have hl : ds'.length ≤ ds.length := by rw [e]; simp; omega
    refine ⟨h1, h2.to fun e1 S1 h3 => h3.mono (fun e S h => ⟨hl, ?_⟩) (fun _ _ h => h) (fun _ _ h => h) (fun e S h => ⟨hl, ?_⟩) (fun _ _ _ _ h => h)⟩
    · rw [← e2]; exact h
    · rw [← e2]; exact h)
  exact key env S ⟨Nat.le_refl _, by simpa using h0⟩
/-- comprehensions -/
theorem w_lcGo {gd : Store → Prop} {g : Tg} {mt : MT} {me : ME} {env : Env} {p : Nat} (J : List D → List D → Store → Prop)
    (fin : ∀ rs S, J [] rs S → S[p]? = some (.lst rs) → gd S ∧ Q (.ref p) S) : ∀ (ds rs : List D) (S : Store), rs.length + ds.length ≤ lim →
    (∀ d ds' rs S, (∃ pre, ds = pre ++ d :: ds') → J (d :: ds') rs S → S[p]? = some (.lst rs) → gd S ∧ ∃ e1, g.put d env = some e1 ∧ Wr (mt e1 S) (fun c S2 => if c = true then Wr (me e1 S2) (fun y S3 => S3[p]? = some (.lst rs) ∧ J ds' (rs ++ [y]) (S3.set p (.lst (rs ++ [y])))) noX else S2[p]? = some (.lst rs) ∧ J ds' rs S2) noX) →
    J ds rs S → S[p]? = some (.lst rs) → Wr (lcGo gd g mt me env p ds S) Q X
  | [], rs, S, hl, step, h, hp => by
    obtain ⟨h1, h2⟩ := fin rs S h hp
    rw [lcGo, if_pos h1]
    exact ⟨h2⟩
  | d :: ds, rs, S, hl, step, h, hp => by
    obtain ⟨h1, e1, he, h2⟩ := step d ds rs S ⟨[], rfl⟩ h hp
    have hl' : rs.length + (ds.length + 1) ≤ lim := by simpa using hl
    have ih := fun rs S (hl : rs.length + ds.length ≤ lim) => w_lcGo J fin ds rs S hl fun d' ds' rs S ⟨pre, e⟩ => step d' ds' rs S ⟨d :: pre, by rw [e]; rfl⟩
    rw [lcGo, if_pos h1, he]
    dsimp only
    obtain ⟨c, S2, q, h3⟩ := h2.get
    rw [q]
    cases c with
    | true =>
      simp only [if_true] at h3
      obtain ⟨y, S3, q2, h4, h5⟩ := h3.get
      dsimp only
      rw [q2]
      dsimp only
      rw [h4]
      dsimp only
      rw [if_pos (by omega)]
      have hp3 : p < S3.length := by
        rcases Nat.lt_or_ge p S3.length with z | z
        · exact z
        · rw [List.getElem?_eq_none z] at h4; cases h4
      exact ih _ _ (by simp; omega) h5 (by simp [hp3])
    | false =>
      simp only [Bool.false_eq_true, if_false] at h3
      dsimp only
      exact ih _ _ (by omega) h3.2 h3.1
/-- .. whose element leaves the store: the results are in a relation to the items -/
theorem w_lcP {gd : Store → Prop} {g : Tg} {me : ME} {env : Env} {S : Store} {ds : List D} (R : D → D → Prop) (hgd : ∀ T, gd (S ++ T)) (hl : ds.length ≤ lim)
    (hm : ∀ d ∈ ds, ∀ a : List D, ∃ e1, g.put d env = some e1 ∧ Wr (me e1 (S ++ [.lst a])) (fun y S' => R d y ∧ S' = S ++ [.lst a]) noX)
    (h : ∀ rs, F2 R ds rs → Q (.ref S.length) (S ++ [.lst rs])) : Wr (lcGo gd g mYes me env S.length ds (S ++ [.lst []])) Q X := by
  obtain ⟨rs, e, f⟩ := lc_gen (gd := gd) (g := g) (me := me) (env := env) (S := S) R hgd ds [] (by simpa using hl) (fun d hd a => by
    obtain ⟨e1, h1, h2⟩ := hm d hd a
    obtain ⟨y, S', h3, h4, rfl⟩ := h2.get
    exact ⟨e1, y, h1, h3, h4⟩)
  rw [e, List.nil_append]
  exact ⟨h rs f⟩
theorem F2.map_eq {f : D → D} : ∀ {ds rs : List D}, F2 (fun d r => r = f d) ds rs → rs = ds.map f
  | [], [], _ => rfl
  | d :: ds, r :: rs, h => by rw [List.map_cons, h.1, F2.map_eq h.2]
  | [], _ :: _, h => h.elim
  | _ :: _, [], h => h.elim
theorem w_lcM {gd : Store → Prop} {g : Tg} {me : ME} {env : Env} {S : Store} {ds : List D} (f : D → D) (hgd : ∀ T, gd (S ++ T)) (hl : ds.length ≤ lim)
    (hm : ∀ d ∈ ds, ∀ a : List D, ∃ e1, g.put d env = some e1 ∧ Wr (me e1 (S ++ [.lst a])) (fun y S' => y = f d ∧ S' = S ++ [.lst a]) noX)
    (h : Q (.ref S.length) (S ++ [.lst (ds.map f)])) : Wr (lcGo gd g mYes me env S.length ds (S ++ [.lst []])) Q X :=
  w_lcP (fun d r => r = f d) hgd hl hm fun rs f2 => by rw [F2.map_eq f2]; exact h
end
/-- try, except as -/
theorem w_try {sb : Str → Option Bool} {i : Nat} {mb : MS} {ms : Str → List D → MS} {env : Env} {S : Store} {P : Po} (h : Ws (mb env S) ⟨P.nx, P.rt, P.bk, P.ct, fun C ds e S1 => ∃ b, sb C = some b ∧ if b = true then Ws (endAs i (ms C ds (e.set i none) S1)) P else P.ex C ds e S1⟩) : Ws (mTryAs sb i mb ms env S) P := by
  unfold mTryAs
  cases q : mb env S with
  | nx e S1 => rw [q] at h; exact ⟨h.out⟩
  | rt d S1 => rw [q] at h; exact ⟨h.out⟩
  | bk e S1 => rw [q] at h; exact ⟨h.out⟩
  | ct e S1 => rw [q] at h; exact ⟨h.out⟩
  | ex C ds e S1 =>
    rw [q] at h
    obtain ⟨b, hb, h⟩ := h.out
    dsimp only
    rw [hb]
    cases b with
    | true => exact h
    | false => exact ⟨h⟩
  | bad => rw [q] at h; exact (show False from h.out).elim
theorem w_endAs {i : Nat} {r : RS} {P : Po} (h : Ws r ⟨fun e S => P.nx (e.set i none) S, P.rt, fun e S => P.bk (e.set i none) S, fun e S => P.ct (e.set i none) S, fun _ _ _ _ => False⟩) : Ws (endAs i r) P := by
  cases r with
  | nx e S => exact ⟨h.out⟩
  | rt d S => exact ⟨h.out⟩
  | bk e S => exact ⟨h.out⟩
  | ct e S => exact ⟨h.out⟩
  | ex C ds e S => exact (show False from h.out).elim
  | bad => exact (show False from h.out).elim
/-! ints are compared as ints, whatever the classes -/
/-! indices written out -/
/-! each construct's demand, by lemmas (never by unfolding: the kernel would evaluate) -/
section
variable {α β : Type} {Q : D → Store → Prop} {QA : List D → Store → Prop} {QB : Bool → Store → Prop} {QE : Env → Store → Prop} {QS : Src → Store → Prop} {X : XP} {P : Po} {env : Env} {S : Store} {d x y : D}
theorem dBools_map : ∀ {bs : List Bool}, dBools (bs.map D.bl) = some bs
  | [] => rfl
  | b :: bs => by simp [dBools, dBools_map]
theorem dInts_map : ∀ {bs : List Int}, dInts (bs.map D.int) = some bs
  | [] => rfl
  | b :: bs => by simp [dInts, dInts_map]
/-! ints -/
/-! sources -/
/-! targets -/
/-! statements -/
end
end Lk
local macro_rules | `(tactic| push_cast [$ts,*]) => `(tactic| simp only [Lk.v_0, Lk.v_s, Lk.v_C, Lk.v_nil, Lk.v_cons, Lk.v_m1, Lk.v_m2, Lk.v_mB, Lk.v_if, Lk.v_asB, Lk.v_test, Lk.v_andT, Lk.v_orT, Lk.v_notT, Lk.v_and, Lk.v_or, Lk.v_not, Lk.v_call, Lk.v_make, Lk.v_tup, Lk.v_lst, Lk.v_fld, Lk.v_ch2, Lk.v_ch3, Lk.v_BM, Lk.v_app, Lk.v_o0, Lk.v_o1, Lk.v_sl, Lk.v_slT, Lk.v_slR, Lk.v_ixT, Lk.v_ixL, Lk.v_ixR, Lk.v_lenR, Lk.v_lenT, Lk.v_lenL, Lk.v_tuT, Lk.v_tuL, Lk.v_tuR, Lk.v_liT, Lk.v_liL, Lk.v_liR, Lk.v_all, Lk.v_any, Lk.v_sum, Lk.v_add, Lk.v_addT, Lk.v_addR, Lk.v_sub, Lk.v_mul, Lk.v_div, Lk.v_mod, Lk.v_neg, Lk.v_cmp, Lk.v_eqZ, Lk.v_eqX, Lk.v_neX, Lk.v_isN, Lk.v_notN, Lk.n_non, Lk.n_int, Lk.n_bl, Lk.n_str, Lk.n_tup, Lk.n_rol, Lk.n_ref, Lk.n_ins, Lk.v_int, Lk.v_intB, Lk.v_abs, Lk.v_max2, Lk.v_min2, Lk.v_gcd, Lk.v_seq, Lk.v_srcT, Lk.v_srcL, Lk.v_srcR, Lk.s_vi, Lk.s_vg, Lk.s_li, Lk.s_lg, Lk.v_rng1, Lk.v_enu, Lk.v_enuT, Lk.v_enuL, Lk.v_enuR, Lk.v_zip, Lk.v_lc, Lk.wi_0, Lk.wi_s, Lk.v_gS, Lk.v_gU, Lk.v_gN, Lk.v_gC, Lk.v_gI, Lk.v_st, Lk.v_xis, Lk.v_xfl, List.getElem?_cons_succ, List.getElem?_cons_zero, Lk.u_set, Lk.u_ret, Lk.u_retN, Lk.u_drop, Lk.u_next, Lk.u_brk, Lk.u_cont, Lk.u_asg, Lk.u_for, Lk.u_while, Lk.u_r1, Lk.u_r0, Lk.w_if, Lk.w_ok, Lk.e_s, Lk.e_0, Lk.l_0, Lk.l_1, Lk.l_2, Lk.l_3, Lk.l_4, Lk.l_5, Lk.l_6, List.map_cons, List.map_nil, List.cons_append, List.nil_append, List.length_cons, List.length_nil, List.replicate, Nat.reduceAdd, Nat.reduceSub, Nat.zero_add, reduceIte, Bool.false_eq_true, if_true, if_false, decide_eq_true_eq, Lk.bne_dec, ne_eq, not_false_eq_true, not_true_eq_false, true_and, and_true, Bool.not_true, Bool.not_false, Option.some.injEq, Lk.Ob.lst.injEq, Lk.D.ref.injEq, Lk.D.int.injEq, Lk.l1_eq, exists_eq_left', reduceCtorEq, false_and, exists_false, or_false, false_or, Lk.ati0, Lk.ati1, Lk.ati2, Lk.ati3, Lk.ati4, Int.toNat_natCast, $ts,*])

set_option Elab.async false
set_option linter.all false
set_option autoImplicit false
set_option maxRecDepth 100000
set_option maxHeartbeats 4000000
/-! data by value, compared -/
namespace Lk
open PySem L2
theorem okP_le {n m : Nat} {d : D} (h : okP n d = true) (hm : n ≤ m) : okP m d = true := by
  induction hm with
  | refl => exact h
  | step _ ih => exact okP_up _ _ ih
theorem okPL_le {n m : Nat} {d : List D} (h : okPL n d = true) (hm : n ≤ m) : okPL m d = true := by
  induction hm with
  | refl => exact h
  | step _ ih => exact okPL_up _ _ ih
theorem okPL_all {n : Nat} : ∀ {ds : List D}, (∀ d ∈ ds, okP n d = true) → okPL n ds = true
  | [], _ => by simp [okPL]
  | d :: ds, h => by simp [okPL, h d List.mem_cons_self, okPL_all fun x hx => h x (List.mem_cons_of_mem _ hx)]
theorem toPL_map : ∀ {ds : List D}, toPL ds = ds.map toP
  | [] => rfl
  | d :: ds => by rw [toPL, toPL_map, List.map_cons]
theorem Dat.py {S : Store} {d : D} {p : PyData} (h : Dat S d p) : pyD S 12 d = some p ∧ SeqAt.shaped p = true ∧ (∀ C ds, d ≠ .ins C ds) ∧ ∀ n kvs, d = .ref n → S[n]? ≠ some (.dk kvs) := by
  rcases h with ⟨h, rfl⟩ | ⟨n, xs, rfl, hn, h, rfl⟩
  · obtain ⟨h1, h2, h3⟩ := okP_py (S := S) 11 d h
    have h4 : (toP d).depth ≤ 64 := by omega
    refine ⟨h1, by simp [SeqAt.shaped, h2, h4], fun C ds e => ?_, fun n kvs e => ?_⟩
    · subst e; simp [okP] at h
    · subst e; simp [okP] at h
  · obtain ⟨h1, h2, h3⟩ := okPL_py (S := S) 10 xs h
    have h4 : (PyData.list (toPL xs)).depth ≤ 64 := by simp only [PyData.depth]; omega
    have h5 : (PyData.list (toPL xs)).canLay0 = true := by simpa only [PyData.canLay0] using h2
    refine ⟨by show (match S[n]? with | some (.lst ds) => (ds.mapM (pyD S 11)).map PyData.list | _ => none) = _; rw [hn]; show (xs.mapM (pyD S 11)).map PyData.list = _; rw [h1]; rfl, by simp [SeqAt.shaped, h5, h4], (fun C ds e => by cases e), fun m kvs e => ?_⟩
    cases e
    rw [hn]
    simp
theorem Dat.eqD {S : Store} {x y : D} {p q : PyData} (h : Dat S x p) (h' : Dat S y q) : eqData S x y = some (PyData.eqv p q) := by
  obtain ⟨a1, a2, _, _⟩ := h.py
  obtain ⟨b1, b2, _, _⟩ := h'.py
  unfold eqData
  rw [a1, b1]
  simp [a2, b2]
theorem Dat.eqX {cs : List Str} {oe : Str → Option (List D → Store → R D)} {S : Store} {x y : D} {p q : PyData} (h : Dat S x p) (h' : Dat S y q) : gEqX cs oe x y S = .ok (.bl (PyData.eqv p q)) S := by
  unfold gEqX
  split
  · rename_i C xs
    exact absurd rfl (h.py.2.2.1 C xs)
  · rw [h.eqD h']
theorem Dat.eqZ {cs : List Str} {oe : Str → Option (List D → Store → R D)} {S : Store} {x y : D} {p q : PyData} (h : Dat S x p) (h' : Dat S y q) : gEqZ cs oe x y S = .ok (.bl (PyData.eqv p q)) S := by
  unfold gEqZ
  split
  · rename_i n m
    split
    · rename_i kvs hk
      exact absurd hk (h.py.2.2.2 _ _ rfl)
    · exact h.eqX h'
  · exact h.eqX h'
theorem Dat.ne {oe : Str → Option (List D → Store → R D)} {S : Store} {x y : D} {p q : PyData} (h : Dat S x p) (h' : Dat S y q) : gNeX oe x y S = .ok (.bl (!PyData.eqv p q)) S := by
  have e : gNe x y S = .ok (.bl (!PyData.eqv p q)) S := by
    unfold gNe
    rw [h.eqD h']
  unfold gNeX
  split
  · rename_i C xs C' ys
    exact absurd rfl (h.py.2.2.1 C xs)
  · exact e
theorem Dat.lst {S : Store} {n : Nat} {xs : List D} (hn : S[n]? = some (.lst xs)) (h : okPL 10 xs = true) : Dat S (.ref n) (.list (toPL xs)) := .inr ⟨n, xs, rfl, hn, h, rfl⟩
/-! without flags: equal as data, equal -/
theorem okCL_all : ∀ {ds : List D}, (∀ d ∈ ds, okC d = true) → okCL ds = true
  | [], _ => by simp [okCL]
  | d :: ds, h => by simp [okCL, h d List.mem_cons_self, okCL_all fun x hx => h x (List.mem_cons_of_mem _ hx)]
theorem eqv_dec {x y : D} {p : Prop} [Decidable p] (hx : okC x = true) (hy : okC y = true) (h : x = y ↔ p) : PyData.eqv (toP x) (toP y) = decide p := by
  by_cases c : p
  · rw [decide_eq_true c]
    exact (eqv_c x y hx hy).mpr (h.mpr c)
  · rw [decide_eq_false c]
    exact eq_false_of_ne_true fun z => c (h.mp ((eqv_c x y hx hy).mp z))
/-- in, not in -/
theorem gInZ_dat {S : Store} {neg : Bool} {x y : D} {ds : List D} (hx : okP 10 x = true) (hy : y = .tup ds ∨ y = .rol ds ∧ False ∨ ∃ n, y = .ref n ∧ S[n]? = some (.lst ds)) (hd : okPL 10 ds = true) (hf : flatD x = none) :
    gInZ neg x y S = .ok (.bl (if neg then !ds.any fun z => PyData.eqv (toP z) (toP x) else ds.any fun z => PyData.eqv (toP z) (toP x))) S := by
  obtain ⟨a1, a2, a3⟩ := okP_py (S := S) 11 x (okP_le hx (by decide))
  obtain ⟨b1, b2, b3⟩ := okPL_py (S := S) 10 ds hd
  have a4 : (toP x).depth ≤ 64 := by omega
  have sx : SeqAt.shaped (toP x) = true := by simp [SeqAt.shaped, a2, a4]
  have e : ∀ p : PyData → Bool, (toPL ds).any p = ds.any fun z => p (toP z) := fun p => by rw [toPL_map, List.any_map]; rfl
  have g1 : gIn neg x y S = .bad := by
    unfold gIn
    rcases hy with rfl | ⟨rfl, z⟩ | ⟨n, rfl, hn⟩
    · simp [Lk.listOf, hf]
    · exact z.elim
    · simp [Lk.listOf, hf, hn]
  unfold gInZ
  rw [g1]
  dsimp only
  rcases hy with rfl | ⟨rfl, z⟩ | ⟨n, rfl, hn⟩
  · have h4 : (PyData.tuple (toPL ds)).depth ≤ 64 := by simp only [PyData.depth]; omega
    have h5 : (PyData.tuple (toPL ds)).canLay0 = true := by simpa only [PyData.canLay0] using b2
    have sy : SeqAt.shaped (.tuple (toPL ds)) = true := by simp [SeqAt.shaped, h5, h4]
    have py : pyD S 12 (.tup ds) = some (.tuple (toPL ds)) := by show (ds.mapM (pyD S 11)).map PyData.tuple = _; rw [b1]; rfl
    have g2 : gInD neg x (.tup ds) S = .bad := by
      unfold gInD
      rw [a1, py]
    rw [g2]
    dsimp only
    unfold gInT
    rw [a1, py]
    simp only [sx, sy, and_self, if_true, e]
  · exact z.elim
  · have h4 : (PyData.list (toPL ds)).depth ≤ 64 := by simp only [PyData.depth]; omega
    have h5 : (PyData.list (toPL ds)).canLay0 = true := by simpa only [PyData.canLay0] using b2
    have sy : SeqAt.shaped (.list (toPL ds)) = true := by simp [SeqAt.shaped, h5, h4]
    have py : pyD S 12 (.ref n) = some (.list (toPL ds)) := by show (match S[n]? with | some (.lst ds) => (ds.mapM (pyD S 11)).map PyData.list | _ => none) = _; rw [hn]; show (ds.mapM (pyD S 11)).map PyData.list = _; rw [b1]; rfl
    unfold gInD
    rw [a1, py]
    simp only [sx, sy, and_self, if_true, e]
theorem cut_take {xs : List D} {i : Int} (h : 0 ≤ i) : cutD xs none (some i) = xs.take i.toNat := by
  obtain ⟨k, rfl⟩ : ∃ k : Nat, i = (k : Nat) := ⟨i.toNat, by omega⟩
  unfold cutD
  rw [HT.sIx_nat, HT.sIx_none, Int.toNat_natCast, List.drop_zero, Nat.sub_zero]
  rcases Nat.le_total k xs.length with z | z
  · rw [Nat.min_eq_left z]
  · rw [Nat.min_eq_right z, List.take_length, List.take_of_length_le z]
theorem cut_drop {xs : List D} {i : Int} (h : 0 ≤ i) : cutD xs (some i) none = xs.drop i.toNat := by
  obtain ⟨k, rfl⟩ : ∃ k : Nat, i = (k : Nat) := ⟨i.toNat, by omega⟩
  unfold cutD
  rw [HT.sIx_nat, HT.sIx_none, Int.toNat_natCast]
  rcases Nat.le_total k xs.length with z | z
  · rw [Nat.min_eq_left z]
    exact List.take_of_length_le (by simp)
  · rw [Nat.min_eq_right z, List.drop_length, List.drop_of_length_le z, List.take_nil]
theorem cut_mem {xs : List D} {a b : Option Int} {x : D} (h : x ∈ cutD xs a b) : x ∈ xs := List.mem_of_mem_drop (List.mem_of_mem_take h)
theorem cut_len {xs : List D} {a b : Option Int} : (cutD xs a b).length ≤ xs.length := by
  unfold cutD
  rw [List.length_take, List.length_drop]
  omega
end Lk

set_option Elab.async false
set_option linter.all false
set_option autoImplicit false
set_option maxRecDepth 100000
set_option maxHeartbeats 4000000
/-! a result told outright; loops written out; lcm, min, max of lists -/
namespace Lk
open PySem L2
theorem Wr.eq {r : R D} {d : D} {S : Store} (h : Wr r (fun d' S' => d' = d ∧ S' = S) noX) : r = .ok d S := by
  obtain ⟨d', S', e, rfl, rfl⟩ := h.get
  exact e
theorem Wr.exq {r : R D} {C : Str} {ds : List D} {S : Store} (h : Wr r (fun _ _ => False) (fun C' ds' S' => C' = C ∧ ds' = ds ∧ S' = S)) : r = .ex C ds S := by
  cases r with
  | ok d S1 => exact (show False from h.out).elim
  | ex C' ds' S1 =>
    obtain ⟨rfl, rfl, rfl⟩ := h.out
    rfl
  | bad => exact (show False from h.out).elim
section
variable {Q : D → Store → Prop} {X : XP} {P : Po} {S : Store} {env : Env}
theorem v_max {n : Nat} : Wr (gMax [.ref n] S) Q X = ∃ ds, S[n]? = some (.lst ds) ∧ ∃ is, dInts ds = some is ∧ 0 < is.length ∧ Q (.int (maxI is)) S := by
  unfold gMax onL
  cases h : S[n]? with
  | none => simp [wr_def, WrD, h]
  | some o =>
    cases o with
    | lst ds =>
      cases h2 : dInts ds with
      | none => simp [wr_def, WrD, h, h2]
      | some is => by_cases c : 0 < is.length <;> simp [wr_def, WrD, h, h2, c]
    | _ => simp [wr_def, WrD, h]
end
end Lk
namespace Lk
open PySem L2
section
variable {QS : Src → Store → Prop} {X : XP} {S : Store} {env : Env}
end
theorem seq_ref {S : Store} {n : Nat} {xs : List D} (h : S[n]? = some (.lst xs)) : seqOf (.ref n) S = some (xs, fun S => S[n]? = some (.lst xs)) := by
  simp [seqOf, h]
end Lk

set_option Elab.async false
set_option linter.all false
set_option autoImplicit false
set_option maxRecDepth 100000
set_option maxHeartbeats 4000000
/-! the calculus: comprehensions of two fors, dicts, parallel assignment, tuple(range), pop(i), except without a name -/
namespace Lk
open PySem L2
section
variable {env : Env} {S : Store} {Q : D → Store → Prop} {QE : Env → Store → Prop} {X : XP} {P : Po} {d : D}
/-! dicts -/
/-! what a dict holds -/
/-! the rest -/
theorem v_tupRg1 {m : ME} : Wr (mTupRg1 m env S) Q X = Wr (m env S) (fun x S1 => ∃ j, x = .int j ∧ okRg 0 j ∧ Q (.tup (rgD 0 j)) S1) X := by
  show Wr (R.bind _ _) _ _ = _
  rw [w_bind]
  congr 1
  funext x S1
  cases x with
  | int j =>
    show Wr (tupRg 0 j S1) Q X = _
    unfold tupRg
    by_cases c : okRg 0 j <;> simp [wr_def, WrD, c]
  | _ => simp [wr_def, WrD]
theorem v_popAt {n : Nat} {i : Int} : Wr (gPopAt (.ref n) [.int i] S) Q X = ∃ ds, S[n]? = some (.lst ds) ∧ (-(2 ^ 62) ≤ i ∧ i < 2 ^ 62) ∧ ∃ k, seqIndex? i ds.length = some k ∧ ∃ y, ds[k]? = some y ∧ Q y (S.set n (.lst (ds.eraseIdx k))) := by
  unfold gPopAt
  dsimp only
  cases h : S[n]? with
  | none => simp [wr_def, WrD, h]
  | some o =>
    cases o with
    | lst ds =>
      dsimp only
      by_cases c : -(2 ^ 62) ≤ i ∧ i < 2 ^ 62
      · rw [if_pos c]
        cases h2 : seqIndex? i ds.length with
        | none => exact propext ⟨fun h => h.out.elim, fun ⟨_, e, _, k, e2, _⟩ => by cases e; rw [h2] at e2; cases e2⟩
        | some k =>
          dsimp only
          cases h3 : ds[k]? with
          | none => exact propext ⟨fun h => h.out.elim, fun ⟨_, e, _, k', e2, y, e3, _⟩ => by cases e; rw [h2] at e2; cases e2; rw [h3] at e3; cases e3⟩
          | some y => exact propext ⟨fun h => ⟨ds, rfl, c, k, h2, y, h3, h.out⟩, fun ⟨_, e, _, k', e2, y', e3, q⟩ => by cases e; rw [h2] at e2; cases e2; rw [h3] at e3; cases e3; exact ⟨q⟩⟩
      · rw [if_neg c]
        exact propext ⟨fun h => h.out.elim, fun ⟨_, e, c2, _⟩ => (c c2).elim⟩
    | _ => simp [wr_def, WrD, h]
end
end Lk

set_option Elab.async false
set_option linter.all false
set_option autoImplicit false
set_option maxRecDepth 100000
set_option maxHeartbeats 4000000
/-! a value's truth; min and max over lists and tuples of plain data -/
namespace Lk
open PySem PySem.Spec PyProof.Rows L2
open PySem.W (dataLt AlikeAll minD maxD alike dataLt_int min_list_data max_list_data min_tuple_data max_tuple_data readsAll_at)
section
variable {Γ : G} {W : WX} {X : Cx} {f : List Addr} {H : Hp} {S : Store} {a : Expr} {ma : ME}
/-! ### min, max of plain data -/
end
end Lk

set_option Elab.async false
set_option linter.all false
set_option autoImplicit false
set_option maxRecDepth 100000
set_option maxHeartbeats 4000000
/-! list(range), in over ints, what stays of a store -/
namespace Lk
open PySem L2
section
variable {env : Env} {S : Store} {Q : D → Store → Prop} {X : XP}
theorem v_lstRg1 {m : ME} : Wr (mListRg1 m env S) Q X = Wr (m env S) (fun x S1 => ∃ j, x = .int j ∧ okRg 0 j ∧ Q (.ref S1.length) (S1 ++ [.lst (rgD 0 j)])) X := by
  show Wr (R.bind _ _) _ _ = _
  rw [w_bind]
  congr 1
  funext x S1
  cases x with
  | int j =>
    show Wr (lstRg 0 j S1) Q X = _
    unfold lstRg
    by_cases c : okRg 0 j <;> simp [wr_def, WrD, c]
  | _ => simp [wr_def, WrD]
theorem okRg_small {j : Int} (h0 : 0 ≤ j) (h : j ≤ 100000) : okRg 0 j := by
  have e62 : (2 : Int) ^ 62 = 4611686018427387904 := by decide
  have e24 : (2 : Nat) ^ 24 = 16777216 := by decide
  unfold okRg
  rw [e62, e24]
  omega
theorem rgD_nat {n : Nat} : rgD 0 (n : Int) = ((List.range n).map fun i => ((i : Nat) : Int)).map D.int := by
  unfold rgD
  simp
theorem gInZ_ints {neg : Bool} {x : Int} {y : D} {ys : List Int} (h : listOf S y = some (ys.map D.int)) : gInZ neg (.int x) y S = .ok (.bl (if neg then !decide (x ∈ ys) else decide (x ∈ ys))) S := by
  have m : ∀ ys : List Int, (ys.map D.int).mapM flatD = some (ys.map V.int) := fun ys => by
    induction ys with
    | nil => rfl
    | cons z ys ih => rw [List.map_cons, List.mapM_cons, ih]; rfl
  have i : ∀ ys : List Int, L2.inV (.int x) (ys.map V.int) = decide (x ∈ ys) := fun ys => by
    unfold L2.inV
    induction ys with
    | nil => simp
    | cons z ys ih =>
      rw [List.map_cons, List.any_cons, ih]
      have : L2.eqV (V.int z) (V.int x) = decide (x = z) := by
        simp only [L2.eqV]
        by_cases c : x = z
        · simp [c]
        · have : ¬ z = x := fun e => c e.symm
          simp [c, this]
      rw [this]
      by_cases c : x = z <;> simp [c]
  have fl : ∀ ys : List Int, (ys.map V.int).all L2.flatV = true := fun ys => by
    induction ys with
    | nil => rfl
    | cons z ys ih => rw [List.map_cons, List.all_cons, ih]; rfl
  have e : gIn neg (.int x) y S = .ok (.bl (if neg then !decide (x ∈ ys) else decide (x ∈ ys))) S := by
    unfold gIn
    rw [h]
    dsimp only
    rw [show flatD (.int x) = some (.int x) from rfl, m ys]
    dsimp only
    rw [if_pos ⟨rfl, fl ys⟩, i ys]
  unfold gInZ
  rw [e]
theorem gInZ_two {x i j : Int} : gInZ false (.int x) (.tup [.int i, .int j]) S = .ok (.bl (decide (x = i ∨ x = j))) S := by
  have h := gInZ_ints (S := S) (neg := false) (x := x) (y := .tup [.int i, .int j]) (ys := [i, j]) rfl
  rw [h]
  simp
end
section
variable {S S' S'' : Store}
theorem Od.refl : Od S S := ⟨Nat.le_refl _, fun _ _ => rfl⟩
theorem Od.trans (h : Od S S') (h' : Od S' S'') : Od S S'' := ⟨Nat.le_trans h.1 h'.1, fun m hm => by rw [h'.2 m (Nat.lt_of_lt_of_le hm h.1), h.2 m hm]⟩
theorem Od.app {T : Store} : Od S (S ++ T) := ⟨by simp, fun m hm => by rw [List.getElem?_append_left hm]⟩
theorem Od.set {p : Nat} {o : Ob} (h : Od S S') (hp : S.length ≤ p) : Od S (S'.set p o) := ⟨by rw [List.length_set]; exact h.1, fun m hm => by rw [List.getElem?_set_ne (by omega)]; exact h.2 m hm⟩
theorem Od.snoc {T : Store} (h : Od S S') : Od S (S' ++ T) := h.trans .app
theorem Od.get {m : Nat} {o : Ob} (h : Od S S') (e : S[m]? = some o) : S'[m]? = some o := by
  have hm : m < S.length := (List.getElem?_eq_some_iff.mp e).1
  rw [h.2 m hm]
  exact e
end
theorem app_get {S T : Store} {m : Nat} {o : Ob} (h : S[m]? = some o) : (S ++ T)[m]? = some o := Od.get .app h
theorem lim_16 : lim = 16777216 := rfl
end Lk

set_option Elab.async false
set_option linter.all false
set_option autoImplicit false
set_option maxRecDepth 100000
set_option maxHeartbeats 4000000
/-! t[::-1] of a tuple -/
namespace Lk
open PySem PySem.Spec PyProof.Rows L2 HT
section
variable {prog : Program} {w : World} {A : Around} {E : Value → Shared → Prop} {s : Shared}
theorem adjust_rev (n : Nat) : Builtin.Slice.sliceAdjust none none (-1) (n : Int) = ((n : Int) - 1, -1) := by
  unfold Builtin.Slice.sliceAdjust
  rfl
theorem places_rev (n : Nat) : Builtin.Slice.slicePlaces ((n : Int) - 1) (-1) (-1) = n := by
  unfold Builtin.Slice.slicePlaces
  have h1 : ¬ (-1 : Int) > 0 := by omega
  simp only [h1, if_false]
  have e : (-(-1) : Int) = 1 := by decide
  rw [e, Int.ediv_one]
  split <;> omega
theorem sliceApplied_rev {sl : Addr} {vs : Value} {n : Nat} {Q : Int × Int × Nat → Shared → Prop} (hs : s.heap.IsSliceOf sl .none .none vs) (ps : IsPart vs (some (-1)))
    (h : Q ((n : Int) - 1, -1, n) s) : wpAny (model prog w) A (Builtin.Slice.sliceApplied (.ref sl) (pure (n : Int))) Q E s := by
  obtain ⟨os, hos, hcs, hds⟩ := id hs
  unfold Builtin.Slice.sliceApplied Builtin.Slice.sliceFields
  refine wpAny_bind (wpAny_bind (wpAny_field hos hds (x := .none) rfl (wpAny_bind (wpAny_field hos hds (x := .none) rfl (wpAny_bind (wpAny_field hos hds (x := vs) rfl (wpAny_pure ?_)))))))
  refine wpAny_bind (slicePart_ ps ?_)
  show wpAny _ _ (if ((-1 : Int) == 0) = true then _ else _) _ _ s
  rw [if_neg (by decide)]
  refine wpAny_bind (slicePart_none (wpAny_bind (slicePart_none (wpAny_bind (wpAny_pure ?_)))))
  show wpAny _ _ (match Builtin.Slice.sliceAdjust none none (-1) (n : Int) with | (lo, hi) => pure (lo, (-1 : Int), Builtin.Slice.slicePlaces lo hi (-1))) _ _ s
  rw [adjust_rev]
  show wpAny _ _ (pure ((n : Int) - 1, (-1 : Int), Builtin.Slice.slicePlaces ((n : Int) - 1) (-1) (-1))) _ _ s
  rw [places_rev]
  exact wpAny_pure h
theorem pick_rev (xs : Array Value) : ((List.range xs.size).filterMap fun (m : Nat) => xs[((xs.size : Int) - 1 + (m : Int) * (-1)).toNat]?).toArray = xs.toList.reverse.toArray := by
  have e : ∀ l : List Nat, (l.filterMap fun (m : Nat) => xs[((xs.size : Int) - 1 + (m : Int) * (-1)).toNat]?) = (l.map fun k => xs.size - 1 - k).filterMap (xs[·]?) := fun l => by
    rw [List.filterMap_map]
    congr 1
    funext m
    have : ((xs.size : Int) - 1 + (m : Int) * (-1)).toNat = xs.size - 1 - m := by omega
    simp only [Function.comp, this]
  rw [e, PySem.W.krv_range, List.filterMap_reverse, PySem.W.krv_all]
theorem getItem_tuple_rev {t sl : Addr} {items : Array Value} {vs : Value} {Q : Value → Shared → Prop} (ht : IsTup s.heap t items) (hs : s.heap.IsSliceOf sl .none .none vs) (ps : IsPart vs (some (-1)))
    (h : Q (.ref s.heap.objs.size) { s with heap := s.heap.push { cls := .type "tuple", data := .seq items.toList.reverse.toArray } })
    (hsz : items.size ≤ sizeLine) : wpAny (model prog w) A (getItem (.ref t) (.ref sl)) Q E s := by
  have htake : sizeOk (.seq items.toList.reverse.toArray) := by
    show items.toList.reverse.toArray.size ≤ sizeLine
    rw [List.size_toArray, List.length_reverse, Array.length_toList]
    exact hsz
  obtain ⟨os, hos, hcs, hds⟩ := id hs
  have hTs : s.TypeIs (.ref sl) "slice" := ⟨os, hos, hcs⟩
  unfold getItem
  try with_reducible refine wpAny_holding ?_
  first | refine wpAny_bind (wpAny_pure ?_) | skip
  refine wpAny_bind (wpAny_sequenceKey ht.typeIs (by decide) ?_)
  refine wpAny_bind (wpAny_callSpecial?_slot (name := Str.ofString "__getitem__") ht.typeIs PyProof.Rows.slot_tuple_getitem
    (wpAny_call_entry PyProof.Rows.slot_tuple_getitem ht.typeIs entry_tuple_getitem ?_ (args_tuple_getitem _ _)))
  show wpAny _ _ (Builtin.Tuple.tupleItemsOf (.ref t) >>= _) _ _ s
  refine wpAny_bind (tupleItemsOf_ ht ?_)
  refine wpAny_bind (wpAny_typeOf hTs ?_)
  rw [if_pos (by decide)]
  refine wpAny_bind (sliceApplied_rev hs ps ?_)
  have hno : ¬ (((items.size : Int) - 1 == 0 && (-1 : Int) == 1 && items.size == items.size) = true) := by
    intro q
    rw [Bool.and_eq_true, Bool.and_eq_true] at q
    exact absurd q.1.2 (by decide)
  show wpAny _ _ (if ((items.size : Int) - 1 == 0 && (-1 : Int) == 1 && items.size == items.size) = true then _ else _) _ _ s
  rw [if_neg hno, pick_rev]
  first
    | exact wpAny_bind (m := Builtin.Tuple.tupleExact _) (wpAny_newObj_type (wpAny_pure ⟨_, rfl, wpAny_pure h⟩) htake)
    | exact wpAny_bind (m := Builtin.Tuple.tupleExact _) (wpAny_newObj_type (wpAny_bind (wpAny_pure (wpAny_pure ⟨_, rfl, wpAny_pure h⟩))) htake)
    | exact wpAny_bind (wpAny_bind (m := Builtin.Tuple.tupleExact _) (wpAny_newObj_type (wpAny_pure (wpAny_pure ⟨_, rfl, wpAny_pure h⟩)) htake))
    | exact wpAny_bind (wpAny_bind (m := Builtin.Tuple.tupleExact _) (wpAny_newObj_type (wpAny_pure ⟨_, rfl, wpAny_pure h⟩) htake))
end
def tRevA (K : PySem.W.Frag) (te : TE) : TE := fun σ H Q => te σ H fun x H1 => ∃ a xs, x = .ref a ∧ ((SqL K H1 a xs ∧ ∀ p, H1 p = none → Q (.ref p) (upd H1 p (.lst xs.reverse))) ∨ (SqT K H1 a xs ∧ ∀ p, H1 p = none → Q (.ref p) (upd H1 p (.tup xs.reverse))))
theorem pe_revA {X : Cx} {e : Expr} {te : TE} {k : Nat} {p1 p2 p3 pos : Pos} (he : PE X e te) : PE X (.Subscript e (.Slice none none (some (.UnaryOp .USub (.Constant (.int 1) k p1) p2)) p3) pos) (tRevA X.K te) := by
  refine ⟨fun pins s σ H Q I h => ?_⟩
  refine Subscript_ (thn (he.run pins s σ H _ I h) fun v s1 ⟨x, H1, I1, r1, q1⟩ => ?_)
  obtain ⟨a, xs, ex, q⟩ := q1
  subst ex
  cases r1
  have hst : PO X (some (.UnaryOp .USub (.Constant (.int 1) k p1) p2)) (tPart (tUn (rU fun i => .int (-i)) (tC (.int 1)))) := po_some (pe_un un_neg pe_int)
  refine wpAny_Slice (thn (po_none.run pins s1 σ H1 (fun o H2 => o = none ∧ H2 = H1) I1 ⟨rfl, rfl⟩) fun vl s2 ⟨l, H2, I2, pl, el, e2⟩ => ?_)
  subst el e2
  refine thn (po_none.run pins s2 σ H2 (fun o H3 => o = none ∧ H3 = H2) I2 ⟨rfl, rfl⟩) fun vu s3 ⟨u, H3, I3, pu, eu, e3⟩ => ?_
  subst eu e3
  refine thn (hst.run pins s3 σ H3 (fun o H4 => o = some (-1) ∧ H4 = H3) I3 ⟨1, rfl, -1, rfl, rfl, rfl⟩) fun vs s4 ⟨o, H4, I4, ps, eo, e4⟩ => ?_
  subst eo e4
  have I5 : Inv X pins σ H4 { s4 with heap := s4.heap.push { cls := .type "slice", data := .fields #[vl, vu, vs] } } := I4.kept (t' := s4.toks) fun b ob q => Heap.get?_push_of_some _ q
  show wpAny (model X.prog X.w) X.A (subscriptTail e (.Slice none none (some (.UnaryOp .USub (.Constant (.int 1) k p1) p2)) p3) (.ref a) (.ref s4.heap.objs.size)) (EP X pins σ Q) X.xe { s4 with heap := s4.heap.push { cls := .type "slice", data := .fields #[vl, vu, vs] } }
  rcases q with ⟨hx, q⟩ | ⟨hx, q⟩
  · obtain ⟨its, r, ht, hz⟩ := I5.list hx
    have hlen := r.length
    refine tail_any (ops := [.ref a, .ref s4.heap.objs.size]) ht.isList.typeIs (PySem.slot_list_getitem.lookup) ?_ (by with_unfolding_all rfl)
    refine wpAny_getItem_list_slice ht.isList (Heap.IsSliceOf.new _ vl vu vs) pl pu ps (by decide) ?_ (by rw [List.size_toArray]; omega)
    rw [PySem.W.krv_pick]
    refine ⟨.ref _, _, I5.laid (t' := s4.toks) (o := .lst xs.reverse) (fun b ob q => Heap.get?_push_of_some _ q) (Nat.le_refl _) ?_, rfl, q _ (I5.hok.fresh (Nat.le_refl _))⟩
    exact ⟨by rw [List.length_reverse]; exact hz, _, 0, r.reverse, Heap.get?_push_size _ rfl⟩
  · obtain ⟨its, r, ht, hz⟩ := I5.tuple hx
    have hlen := r.length
    cases pl
    cases pu
    refine tail_any (ops := [.ref a, .ref s4.heap.objs.size]) ht.typeIs (PyProof.Rows.slot_tuple_getitem.lookup) ?_ (by with_unfolding_all rfl)
    refine getItem_tuple_rev ht (Heap.IsSliceOf.new _ _ _ vs) ps ?_ (by rw [List.size_toArray]; omega)
    refine ⟨.ref _, _, I5.laid (t' := s4.toks) (o := .tup xs.reverse) (fun b ob q => Heap.get?_push_of_some _ q) (Nat.le_refl _) ?_, rfl, q _ (I5.hok.fresh (Nat.le_refl _))⟩
    exact ⟨by rw [List.length_reverse]; exact hz, _, r.reverse, IsTup.new _ _⟩
def gRevA (d : D) (S : Store) : R D := match d with
  | .tup ds => .ok (.tup ds.reverse) S
  | d => gRev d S
section
variable {Γ : G} {W : WX} {X : Cx} {f : List Addr} {S : Store} {H : Hp} {e : Expr} {p1 p2 p3 pos : Pos} {me : ME}
theorem q_revA {k : Nat} (hK : X.K = Γ.K) (he : PE X e (tE Γ W me)) : PE X (.Subscript e (.Slice none none (some (.UnaryOp .USub (.Constant (.int 1) k p1) p2)) p3) pos) (tE Γ W (m1 gRevA me)) := PE.imp (pe_revA he) fun σ H Q ⟨env, S, f, rs, re, h⟩ => by
  refine ⟨env, S, f, rs, re, Wp.bindL h fun d S1 f1 H1 v u1 rs1 r1 h1 => ?_⟩
  cases d with
  | tup ds =>
    obtain ⟨a, vs, ev, sq, r⟩ := r1.tup
    refine ⟨a, vs, ev, .inr ⟨by rw [hK]; exact sq, fun q hq => ?_⟩⟩
    exact h1 f1 _ (.ref q) (.new hq) (rs1.newT hq) (Rp.tupI (SqT.of upd_same) (r.rev.up (.new hq)))
  | rol ds =>
    simp only [Rp] at r1
    obtain ⟨a, vs, ev, sq, r⟩ := r1
    refine ⟨a, vs, ev, .inl ⟨by rw [hK]; exact sq.1, fun q hq => ?_⟩⟩
    exact h1 (f1 ++ [q]) _ _ (.alloc hq) (rs1.alloc (b := .lst ds.reverse) hq ⟨vs.reverse, upd_same, (r.up (.alloc hq)).rev⟩) (Rp.refI (by rw [← rs1.len]; simp))
  | ref n =>
    simp only [Rp] at r1
    obtain ⟨a, ha, ev⟩ := r1
    have h1 : Wp Γ W σ f1 H1 (Rp Γ) Q (match S1[n]? with
      | some (.lst ds) => .ok (.ref S1.length) (S1 ++ [.lst ds.reverse])
      | _ => .bad) := h1
    split at h1
    · rename_i ds hn
      obtain ⟨b, hb, vs, hh, r⟩ := rs1.ob n _ hn
      rw [ha] at hb
      cases hb
      refine ⟨a, vs, ev, .inl ⟨by rw [hK]; exact SqL.of hh, fun q hq => ?_⟩⟩
      exact h1 (f1 ++ [q]) _ _ (.alloc hq) (rs1.alloc (b := .lst ds.reverse) hq ⟨vs.reverse, upd_same, (r.up (.alloc hq)).rev⟩) (Rp.refI (by rw [← rs1.len]; simp))
    · exact h1.elim
  | _ => exact h1.elim
end
section
variable {env : Env} {S : Store} {Q : D → Store → Prop} {X : XP}
theorem v_revR {n : Nat} : Wr (gRevA (.ref n) S) Q X = ∃ ds, S[n]? = some (.lst ds) ∧ Q (.ref S.length) (S ++ [.lst ds.reverse]) := by
  show Wr (match S[n]? with
    | some (.lst ds) => R.ok (D.ref S.length) (S ++ [Ob.lst ds.reverse])
    | _ => .bad) Q X = _
  cases h : S[n]? with
  | none => simp [wr_def, WrD]
  | some o => cases o <;> simp [wr_def, WrD]
/-- [x] * k -/
theorem v_mulL {n : Nat} {k : Int} : Wr (gMul (.ref n) (.int k) S) Q X = ∃ a, S[n]? = some (.lst a) ∧ (-(2 ^ 63) ≤ k ∧ k < 2 ^ 63 ∧ a.length * k.toNat ≤ lim) ∧ Q (.ref S.length) (S ++ [.lst (List.replicate k.toNat a).flatten]) := by
  unfold gMul
  dsimp only
  cases h : S[n]? with
  | none => simp [wr_def, WrD, h]
  | some o =>
    cases o with
    | lst a =>
      dsimp only
      by_cases c : -(2 ^ 63) ≤ k ∧ k < 2 ^ 63 ∧ a.length * k.toNat ≤ lim
      · rw [if_pos c]
        exact propext ⟨fun h => ⟨a, rfl, c, h.out⟩, fun ⟨_, e, _, q⟩ => by cases e; exact ⟨q⟩⟩
      · rw [if_neg c]
        exact propext ⟨fun h => h.out.elim, fun ⟨_, e, c2, _⟩ => by cases e; exact (c c2).elim⟩
    | _ => simp [wr_def, WrD, h]
end
end Lk

set_option Elab.async false
set_option linter.all false
set_option autoImplicit false
set_option maxRecDepth 100000
set_option maxHeartbeats 4000000
/-! not x, by the truth of any value *)
-/
namespace Lk
open PySem PySem.Spec PyProof.Rows L2
section
variable {Γ : G} {W : WX} {X : Cx} {f : List Addr} {H : Hp} {S : Store} {a : Expr} {ma : ME} {pos : Pos} {ta : TE}
end
end Lk

set_option Elab.async false
set_option linter.all false
set_option autoImplicit false
set_option maxRecDepth 100000
set_option maxHeartbeats 4000000
/-! min of a list of things that hold lists: the first least one, told by its place -/
namespace Lk
open PySem PySem.Spec PyProof.Rows L2
open PySem.W (dataLt AlikeAll readsAll_len readsAll_at iter_listW cmpIn_lt moved_old)
section
variable {prog : Program} {w : World} {A : Around} {E : Value → Shared → Prop} {s : Shared}
end
section
variable {X : Cx} {Γ : G}
end
end Lk

set_option Elab.async false
set_option linter.all false
set_option autoImplicit false
set_option maxRecDepth 100000
set_option maxHeartbeats 4000000
/-! the calculus for dicts with tuple keys, several except clauses, x += e -/
namespace Lk
open PySem L2
section
variable {Q : D → Store → Prop} {X : XP} {P : Po} {env : Env} {S : Store}
theorem v_ixN {n : Nat} {y : D} {k : NestedKey} (hk : tkey y = some k) : Wr (gIxN (.ref n) y S) Q X = ∃ kvs, S[n]? = some (.dt kvs) ∧ ∃ d, lkN kvs k = some d ∧ Q d S := by
  unfold gIxN
  rw [hk]
  cases h : S[n]? with
  | none => simp [wr_def, WrD, h]
  | some o =>
    cases o with
    | dt kvs => cases h2 : lkN kvs k <;> simp [wr_def, WrD, h, h2]
    | _ => simp [wr_def, WrD, h]
theorem v_dc {mi : MI} {g : Tg} {mt : MT} {mk mv : ME} {vs : List Nat} : Wr (mDcN mi g mt mk mv vs env S) Q X = Wr (mi env S) (fun s S1 => Wr (dcGo s.gd g mt mk mv (wipeE env vs) S1.length s.items (S1 ++ [.dt []])) Q X) X := w_bind
def dcF (fk fv : D → D) : List D → List (D × D) → List (D × D)
  | [], kvs => kvs
  | d :: ds, kvs => dcF fk fv ds (match tkey (fk d) with
    | some k => putN kvs k (fk d) (fv d)
    | none => kvs)
theorem putN_len {kvs : List (D × D)} {k : NestedKey} {y z : D} : (putN kvs k y z).length ≤ kvs.length + 1 := by
  unfold putN
  split <;> simp
theorem w_dcM {gd : Store → Prop} {g : Tg} {mk mv : ME} (fk fv : D → D) (hgd : ∀ T, gd (S ++ T)) : ∀ {ds : List D} {kvs : List (D × D)}, kvs.length + ds.length ≤ lim →
    (∀ d ∈ ds, ∀ kvs, ∃ e1 k, g.put d env = some e1 ∧ tkey (fk d) = some k ∧ Wr (mk e1 (S ++ [.dt kvs])) (fun y S' => y = fk d ∧ S' = S ++ [.dt kvs]) noX ∧ Wr (mv e1 (S ++ [.dt kvs])) (fun y S' => y = fv d ∧ S' = S ++ [.dt kvs]) noX) →
    Q (.ref S.length) (S ++ [.dt (dcF fk fv ds kvs)]) → Wr (dcGo gd g mYes mk mv env S.length ds (S ++ [.dt kvs])) Q X
  | [], kvs, hl, hm, h => by
    rw [dcGo, if_pos (hgd _)]
    exact ⟨h⟩
  | d :: ds, kvs, hl, hm, h => by
    obtain ⟨e1, k, h1, h2, h3, h4⟩ := hm d List.mem_cons_self kvs
    obtain ⟨y, S1, q1, rfl, rfl⟩ := h3.get
    obtain ⟨z, S2, q2, rfl, rfl⟩ := h4.get
    have hl' : kvs.length + (ds.length + 1) ≤ lim := by simpa using hl
    rw [dcGo, if_pos (hgd _), h1]
    dsimp only [mYes]
    rw [q1]
    dsimp only
    rw [q2]
    dsimp only
    have g0 : (S ++ [Ob.dt kvs])[S.length]? = some (.dt kvs) := by simp
    rw [h2, g0]
    dsimp only
    rw [if_pos (by omega)]
    have es : (S ++ [Ob.dt kvs]).set S.length (.dt (putN kvs k (fk d) (fv d))) = S ++ [.dt (putN kvs k (fk d) (fv d))] := by
      rw [List.set_append_right _ _ (Nat.le_refl _), Nat.sub_self]
      rfl
    rw [es]
    refine w_dcM fk fv hgd (by have := putN_len (kvs := kvs) (k := k) (y := fk d) (z := fv d); omega) (fun d' hd' => hm d' (List.mem_cons_of_mem _ hd')) ?_
    rw [dcF, h2] at h
    exact h
theorem dcF_new {fk fv : D → D} : ∀ {ds : List D} {kvs : List (D × D)}, (∀ d ∈ ds, ∃ k, tkey (fk d) = some k ∧ lkN kvs k = none) → (ds.map fun d => tkey (fk d)).Nodup → dcF fk fv ds kvs = kvs ++ ds.map fun d => (fk d, fv d)
  | [], kvs, _, _ => by simp [dcF]
  | d :: ds, kvs, h, nd => by
    obtain ⟨k, h1, h2⟩ := h d List.mem_cons_self
    rw [List.map_cons, List.nodup_cons] at nd
    rw [dcF, h1]
    dsimp only
    have ep : putN kvs k (fk d) (fv d) = kvs ++ [(fk d, fv d)] := by
      unfold putN
      rw [h2]
      rfl
    rw [ep, dcF_new (fun d' hd' => ?_) nd.2]
    · simp
    · obtain ⟨k', h3, h4⟩ := h d' (List.mem_cons_of_mem _ hd')
      refine ⟨k', h3, ?_⟩
      have ne : k ≠ k' := fun e => nd.1 (by rw [h1, e, ← h3]; exact List.mem_map.mpr ⟨d', hd', rfl⟩)
      unfold lkN at h4 ⊢
      rw [Option.map_eq_none_iff] at h4 ⊢
      rw [List.find?_append, h4]
      simp [(tkey_ok h1).1, ne]
theorem lkN_at {fk fv : D → D} {k : NestedKey} {d : D} : ∀ {ds : List D}, (ds.map fun d => tkey (fk d)).Nodup → d ∈ ds → tkey (fk d) = some k → (∀ d ∈ ds, ∃ k, tkey (fk d) = some k) → lkN (ds.map fun d => (fk d, fv d)) k = some (fv d)
  | [], _, h, _, _ => by cases h
  | x :: ds, nd, h, hk, hs => by
    rw [List.map_cons, List.nodup_cons] at nd
    obtain ⟨kx, hx⟩ := hs x List.mem_cons_self
    rcases List.mem_cons.mp h with rfl | h
    · unfold lkN
      simp [(tkey_ok hk).1]
    · have ne : ¬ nkey (fk x) = some k := fun e => nd.1 (by
        rw [hx]
        have := (tkey_ok hx).1
        rw [e] at this
        cases this
        exact List.mem_map.mpr ⟨d, h, hk⟩)
      have ih := lkN_at (fv := fv) nd.2 h hk fun d' hd' => hs d' (List.mem_cons_of_mem _ hd')
      unfold lkN at ih ⊢
      rw [List.map_cons, List.find?_cons]
      simp only [ne, decide_false]
      exact ih
variable {C : Str} {ds : List D} {sb : Str → Option Bool} {ms : Str → List D → MS} {r : List Hn}
end
end Lk

set_option Elab.async false
set_option linter.all false
set_option autoImplicit false
set_option maxRecDepth 100000
set_option maxHeartbeats 4000000
/-! the calculus for the unpacking of lists -/
namespace Lk
open PySem L2
section
variable {X : XP} {env : Env} {S : Store} {QE : Env → Store → Prop}
theorem v_gUS {n : Nat} {r : MGs} {a : Nat} {ds : List D} (h : S[a]? = some (.lst ds)) : Wr (gUnpackS n r (.ref a) env S) QE X = (ds.length = n ∧ Wr (r ds env S) QE X) := by
  unfold gUnpackS
  rw [seq_ref h]
  dsimp only
  rw [w_ite]
  by_cases h : ds.length = n <;> simp [h, wr_def, WrD]
end
end Lk

/-! The mirror of law_k25_faults_of_likenesses, by gen.py. -/
set_option linter.all false
set_option autoImplicit false
set_option maxRecDepth 1000000
set_option maxHeartbeats 40000000
set_option Elab.async false
namespace Mi_k25
open PySem PySem.Spec PyProof.Rows L2 Lk
abbrev Gm (K : PySem.W.Frag) (w : World) : G := { G0 K with w := some w }
def sb (h : Str) : Str → Option Bool := tabS [("BadBeat", "BadLikeness", false), ("BadEvents", "BadLikeness", false), ("BadSpan", "BadLikeness", false), ("BadNumber", "BadLikeness", false), ("BadLikeness", "BadLikeness", true)] h
def xk : Str → CK → Option Bool := tabX [("BadBeat", .own "BadLot", false), ("BadBeat", .own "SpansError", true), ("BadBeat", .bi "ValueError", true), ("BadEvents", .own "BadLot", false), ("BadEvents", .own "SpansError", true), ("BadEvents", .bi "ValueError", true), ("BadSpan", .own "BadLot", false), ("BadSpan", .own "SpansError", true), ("BadSpan", .bi "ValueError", true), ("BadNumber", .own "BadLot", false), ("BadNumber", .own "SpansError", true), ("BadNumber", .bi "ValueError", true), ("BadLikeness", .own "BadLot", false), ("BadLikeness", .own "SpansError", true), ("BadLikeness", .bi "ValueError", true)]
abbrev oe0 : Str → Option (List D → Store → R D) := fun _ => none
theorem oe0_no {Γ : G} {P : Program} {w : World} {mg : Str → Option Value} {base : Heap} {cs : List Str} {k : Nat} : ∀ C m, oe0 C = some m → EqC Γ P w mg base cs k C m := fun _ _ h => by cases h
noncomputable def b__law_source : MS := (mSeq (mSet 2 (mC (.int 7)))
  (mSeq (mFor (iSeq (mSl (mVar 0) none (some (mC (.int 63))))) (gSet 3) (mSet 2 (m2 Lk.gMod (mB gInt (mCons (m2 Lk.gAdd (m2 Lk.gAdd (m2 Lk.gMul (mVar 2) (mC (.int 48271))) (m2 Lk.gMod (mB gInt (mCons (mVar 3) mNil)) (mC (.int 2147483629)))) (mC (.int 1))) mNil)) (mC (.int 2147483647)))))
  (mSeq (mSet 4 (mIf (mTest (m2 (gCmp fun i j => decide (i < j)) (mVar 1) (mB gLen (mCons (mVar 0) mNil)))) (mB gInt (mCons (m2 gIx (mVar 0) (mVar 1)) mNil)) (mC (.int 0))))
  (mRet (mLst (mCons (mIf (mTest (m2 (gCmp fun i j => decide (j ≤ i)) (mVar 4) (m2 Lk.gPow (mC (.int 10)) (mC (.int 18))))) (mVar 4) (mC (.int 0))) (mCons (m2 Lk.gMod (mB gInt (mCons (mVar 4) mNil)) (mC (.int 2147483629))) (mCons (mVar 2) (mCons (m2 Lk.gAdd (mVar 1) (mC (.int 1))) (mCons (mC (.int 0)) mNil))))))))))
noncomputable def f__law_source : List D → Store → R D := mDef 5 b__law_source
noncomputable def b__law_draw : MS := (mSeq (mIfS (mTest (m2 (gCmp fun i j => decide (j < i)) (m2 gIx (mVar 0) (mC (.int 0))) (mC (.int 0)))) (mSeq (mSet 2 (m2 Lk.gMod (mB gInt (mCons (m2 gIx (mVar 0) (mC (.int 0))) mNil)) (mVar 1)))
  (mSeq (mAsg (m2 Lk.gDiv (m2 gIx (mVar 0) (mC (.int 0))) (mVar 1)) (gSub' (mVar 0) (mC (.int 0))))
  (mRet (mVar 2)))) mNext)
  (mSeq (mAsg (m2 Lk.gAdd (m2 gIx (mVar 0) (mC (.int 4))) (mC (.int 1))) (gSub' (mVar 0) (mC (.int 4))))
  (mSeq (mSet 3 (m2 Lk.gMod (mB gInt (mCons (m2 Lk.gMul (m2 Lk.gAdd (m2 Lk.gAdd (m2 Lk.gAdd (m2 gIx (mVar 0) (mC (.int 1))) (m2 gIx (mVar 0) (mC (.int 2)))) (m2 Lk.gMul (mC (.int 7919)) (m2 gIx (mVar 0) (mC (.int 3))))) (m2 Lk.gMul (mC (.int 104729)) (m2 gIx (mVar 0) (mC (.int 4))))) (mC (.int 48271))) mNil)) (mC (.int 2147483647))))
  (mSeq (mSet 3 (m2 Lk.gMod (mB gInt (mCons (m2 Lk.gMul (mVar 3) (m2 Lk.gAdd (m2 Lk.gDiv (mVar 3) (mC (.int 1009))) (mC (.int 69621)))) mNil)) (mC (.int 2147483647))))
  (mSeq (mSet 3 (m2 Lk.gMod (mB gInt (mCons (m2 Lk.gMul (mVar 3) (m2 Lk.gAdd (m2 Lk.gDiv (mVar 3) (mC (.int 2003))) (mC (.int 40692)))) mNil)) (mC (.int 2147483399))))
  (mRet (m2 Lk.gMod (mB gInt (mCons (m2 Lk.gDiv (mVar 3) (mC (.int 16))) mNil)) (mVar 1))))))))
noncomputable def f__law_draw : List D → Store → R D := mDef 4 b__law_draw
noncomputable def b__law_beat : MS := (mSeq (mSet 1 (mCall 2 f__law_draw (mCons (mVar 0) (mCons (mC (.int 6)) mNil))))
  (mSeq (mSet 2 (mCall 2 f__law_draw (mCons (mVar 0) (mCons (mC (.int 58)) mNil))))
  (mRet (m2 gIx (mTup (mCons (m2 Lk.gSub (mC (.int 1440)) (mVar 2)) (mCons (m2 Lk.gAdd (mC (.int 3)) (m2 Lk.gMod (mB gInt (mCons (mVar 2) mNil)) (mC (.int 4)))) (mCons (m2 Lk.gAdd (mC (.int 12)) (m2 Lk.gMul (mC (.int 12)) (m2 Lk.gMod (mB gInt (mCons (mVar 2) mNil)) (mC (.int 5))))) (mCons (m2 Lk.gAdd (mC (.int 3)) (mVar 2)) (mCons (m2 Lk.gAdd (mC (.int 3)) (mVar 2)) (mCons (m2 Lk.gAdd (mC (.int 3)) (mVar 2)) mNil))))))) (mVar 1)))))
noncomputable def f__law_beat : List D → Store → R D := mDef 3 b__law_beat
noncomputable def b__law_perm : MS := (mSeq (mSet 2 (mListRg1 (mVar 1)))
  (mSeq (mSet 3 (mLst mNil))
  (mSeq (mFor (iRng1' (mCons (mVar 1) mNil)) (gSet 4) (mDrop (mBM gAppend (mVar 3) (mCons (mBM gPopAt (mVar 2) (mCons (mCall 2 f__law_draw (mCons (mVar 0) (mCons (mB gLen (mCons (mVar 2) mNil)) mNil))) mNil)) mNil))))
  (mRet (mVar 3)))))
noncomputable def f__law_perm : List D → Store → R D := mDef 5 b__law_perm
noncomputable def b_is_integer : MS := (mRet (mAnd (m1 (gIsi cs [(.bi "int")]) (mVar 0)) (mNot (m1 (gIsi cs [(.bi "bool")]) (mVar 0)))))
noncomputable def f_is_integer : List D → Store → R D := mDef 1 b_is_integer
noncomputable def b_is_number : MS := (mRet (mOr (mCall 1 f_is_integer (mCons (mVar 0) mNil)) (m1 (gIsi cs [(.own "Ratio")]) (mVar 0))))
noncomputable def f_is_number : List D → Store → R D := mDef 1 b_is_number
noncomputable def b_top_of : MS := (mRet (mIf (mTest (m1 (gIsi cs [(.own "Ratio")]) (mVar 0))) (mFld flds "top" (mVar 0)) (mVar 0)))
noncomputable def f_top_of : List D → Store → R D := mDef 1 b_top_of
noncomputable def b_bottom_of : MS := (mRet (mIf (mTest (m1 (gIsi cs [(.own "Ratio")]) (mVar 0))) (mFld flds "bottom" (mVar 0)) (mC (.int 1))))
noncomputable def f_bottom_of : List D → Store → R D := mDef 1 b_bottom_of
noncomputable def b_Ratio___eq__ : MS := (mSeq (mIfS (mNotT (mTest (mCall 1 f_is_number (mCons (mVar 1) mNil)))) (mRet (mC (.bl false))) mNext)
  (mRet (mAnd (m2 (gEqX cs oe0) (mFld flds "top" (mVar 0)) (mCall 1 f_top_of (mCons (mVar 1) mNil))) (m2 (gEqX cs oe0) (mFld flds "bottom" (mVar 0)) (mCall 1 f_bottom_of (mCons (mVar 1) mNil))))))
noncomputable def f_Ratio___eq__ : List D → Store → R D := mDef 2 b_Ratio___eq__
noncomputable def b_Net___eq__ : MS := (mSeq (mIfS (mNotT (mTest (m1 (gIsi cs [(.own "Net")]) (mVar 1)))) (mRet (mC (.bl false))) mNext)
  (mRet (mAnd (m2 (gEqX cs oe0) (mFld flds "beat" (mVar 0)) (mFld flds "beat" (mVar 1))) (mAnd (m2 (gEqX cs oe0) (mFld flds "events" (mVar 0)) (mFld flds "events" (mVar 1))) (m2 (gEqX cs oe0) (mFld flds "spans" (mVar 0)) (mFld flds "spans" (mVar 1)))))))
noncomputable def f_Net___eq__ : List D → Store → R D := mDef 2 b_Net___eq__
noncomputable def oe : Str → Option (List D → Store → R D) := fun C => if C = "Ratio" then some f_Ratio___eq__ else if C = "Net" then some f_Net___eq__ else none
noncomputable def b__law_even_tops : MS := (mSeq (mAsg (mVar 1) (gUnpack 3 (gCons' (gSet 5) (gCons' (gSet 6) (gCons' (gSet 7) gNil')))))
  (mSeq (mAsg (mVar 2) (gUnpack 2 (gCons' (gSet 8) (gCons' (gSet 9) gNil'))))
  (mSeq (mSet 10 (mCall 2 f__law_draw (mCons (mVar 0) (mCons (mVar 5) mNil))))
  (mSeq (mIfS (mOrT (mTest (m2 (gCmp fun i j => decide (j < i)) (mVar 7) (mC (.int 0)))) (mAndT (mTest (mVar 8)) (mTest (m2 (gCmp fun i j => decide (j < i)) (mVar 5) (mC (.int 2)))))) (mSet 10 (mC (.int 0))) mNext)
  (mSeq (mSet 11 (mCall 2 f__law_draw (mCons (mVar 0) (mCons (mVar 4) mNil))))
  (mSeq (mSet 12 (m2 Lk.gDiv (mVar 4) (mC (.int 2))))
  (mSeq (mSet 13 (mLc (iRng1' (mCons (mVar 6) mNil)) (.nm 14) mYes (mCall 2 f__law_draw (mCons (mVar 0) (mCons (mVar 4) mNil))) [14]))
  (mSeq (mFor (iRng1' (mCons (mVar 6) mNil)) (gSet 14) (mSeq (mIfS (mAndT (mTest (mVar 9)) (mTest (m2 (gEqZ cs oe) (m2 gIx (mVar 3) (mVar 14)) (mVar 14)))) (mAsg (m2 Lk.gAdd (mVar 11) (m2 Lk.gMul (mVar 12) (mCall 2 f__law_draw (mCons (mVar 0) (mCons (mC (.int 2)) mNil))))) (gSub' (mVar 13) (mVar 14))) mNext)
  (mIfS (mAndT (mTest (mVar 9)) (mTest (m2 (gCmp fun i j => decide (j < i)) (m2 gIx (mVar 3) (mVar 14)) (mVar 14)))) (mAsg (m2 Lk.gSub (m2 Lk.gMul (mC (.int 2)) (mVar 11)) (m2 gIx (mVar 13) (mVar 14))) (gSub' (mVar 13) (m2 gIx (mVar 3) (mVar 14)))) mNext)))
  (mSeq (mSet 15 (m2 Lk.gMul (mVar 10) (m2 Lk.gDiv (mVar 4) (mVar 5))))
  (mSeq (mSet 16 (mLc (iRng1' (mCons (mVar 7) mNil)) (.nm 14) mYes (m2 Lk.gAdd (mVar 11) (m2 Lk.gMul (m2 Lk.gMul (mVar 12) (mB gInt (mCons (mVar 9) mNil))) (mCall 2 f__law_draw (mCons (mVar 0) (mCons (mC (.int 2)) mNil))))) [14]))
  (mSeq (mSet 16 (m2 Lk.gAdd (mVar 16) (mLc (iRng1' (mCons (m2 Lk.gMul (mVar 5) (mVar 6)) mNil)) (.nm 14) mYes (m2 Lk.gAdd (m2 gIx (mVar 13) (m2 Lk.gMod (mB gInt (mCons (mVar 14) mNil)) (mVar 6))) (m2 Lk.gMul (m2 Lk.gDiv (mVar 14) (mVar 6)) (mVar 15))) [14])))
  (mRet (mLc (iSeq (mVar 16)) (.nm 17) mYes (m2 Lk.gMod (mB gInt (mCons (mVar 17) mNil)) (mVar 4)) [17])))))))))))))
noncomputable def f__law_even_tops : List D → Store → R D := mDef 18 b__law_even_tops
noncomputable def b__law_raw : MS := (mSeq (mAsg (mVar 1) (gUnpack 3 (gCons' (gSet 5) (gCons' (gSet 6) (gCons' (gSet 7) gNil')))))
  (mSeq (mSet 8 (mListRg1 (mVar 7)))
  (mSeq (mSet 8 (m2 Lk.gAdd (mVar 8) (mLc (iRng1' (mCons (m2 Lk.gMul (mVar 5) (mVar 6)) mNil)) (.nm 9) mYes (m2 Lk.gAdd (m2 Lk.gAdd (mVar 7) (m2 Lk.gMul (m2 gIx (mVar 2) (m2 Lk.gDiv (mVar 9) (mVar 6))) (mVar 6))) (m2 gIx (mVar 3) (m2 Lk.gMod (mB gInt (mCons (mVar 9) mNil)) (mVar 6)))) [9])))
  (mSeq (mSet 10 (m2 Lk.gMul (mLst (mCons (mC (.int 0)) mNil)) (mB gLen (mCons (mVar 0) mNil))))
  (mSeq (mFor (iEnuZ (mVar 8)) (gUnpack 2 (gCons' (gSet 9) (gCons' (gSet 11) gNil'))) (mAsg (m2 gIx (mVar 0) (mVar 11)) (gSub' (mVar 10) (m2 gIx (mVar 0) (mVar 9)))))
  (mRet (mTup (mCons (mB gTuple (mCons (mVar 10) mNil)) (mCons (mVar 4) mNil)))))))))
noncomputable def f__law_raw : List D → Store → R D := mDef 12 b__law_raw
noncomputable def b__law_lines : MS := (mSeq (mSet 4 (mB gMin2 (mCons (m2 Lk.gAdd (mC (.int 1)) (mCall 2 f__law_draw (mCons (mVar 0) (mCons (mC (.int 4)) mNil)))) (mCons (mVar 2) mNil))))
  (mSeq (mSet 5 (mB gInt (mCons (mAnd (m2 (gEqZ cs oe) (mCall 2 f__law_draw (mCons (mVar 0) (mCons (mC (.int 4)) mNil))) (mC (.int 3))) (m2 (gCmp fun i j => decide (i < j)) (mVar 4) (mVar 2))) mNil)))
  (mSeq (mSet 6 (mB gMax2 (mCons (mC (.int 1)) (mCons (mB gMin2 (mCons (m2 Lk.gAdd (m2 Lk.gAdd (mCall 2 f__law_draw (mCons (mVar 0) (mCons (mC (.int 3)) mNil))) (mC (.int 1))) (mB gInt (mCons (m2 (gEqZ cs oe) (mVar 4) (mC (.int 1))) mNil))) (mCons (m2 Lk.gDiv (m2 Lk.gSub (mVar 2) (mVar 5)) (mVar 4)) mNil))) mNil))))
  (mSeq (mSet 7 (mTup (mCons (mVar 4) (mCons (mVar 6) (mCons (mVar 5) mNil)))))
  (mSeq (mSet 8 (mTup (mCons (mAnd (m2 (gEqZ cs oe) (mCall 2 f__law_draw (mCons (mVar 0) (mCons (mC (.int 3)) mNil))) (mC (.int 0))) (m2 (gCmp fun i j => decide (j < i)) (mVar 4) (mC (.int 1)))) (mCons (m2 (gCmp fun i j => decide (j < i)) (mCall 2 f__law_draw (mCons (mVar 0) (mCons (mC (.int 3)) mNil))) (mC (.int 0))) mNil))))
  (mSeq (mSet 9 (mListRg1 (mVar 6)))
  (mSeq (mSet 10 (mIf (mTest (m2 (gEqZ cs oe) (mCall 2 f__law_draw (mCons (mVar 0) (mCons (mC (.int 2)) mNil))) (mC (.int 0)))) (m1 gRevA (mVar 9)) (mVar 9)))
  (mSeq (mSet 11 (mCall 2 f__law_perm (mCons (mVar 0) (mCons (m2 Lk.gAdd (m2 Lk.gMul (mVar 4) (mVar 6)) (mVar 5)) mNil))))
  (mSeq (mSet 12 (mListRg1 (mVar 4)))
  (mSeq (mSet 13 (mLst (mCons (mCall 5 f__law_raw (mCons (mVar 11) (mCons (mVar 7) (mCons (m2 Lk.gAdd (mSl (mVar 12) (some (mC (.int 1))) none) (mSl (mVar 12) none (some (mC (.int 1))))) (mCons (mVar 9) (mCons (mC (.bl true)) mNil)))))) mNil)))
  (mSeq (mIfS (mTest (m2 gIx (mVar 8) (mC (.int 0)))) (mDrop (mBM gAppend (mVar 13) (mCons (mCall 5 f__law_raw (mCons (mVar 11) (mCons (mVar 7) (mCons (m2 Lk.gAdd (mLst (mCons (mC (.int 1)) (mCons (mC (.int 0)) mNil))) (mSl (mVar 12) (some (mC (.int 2))) none)) (mCons (mVar 9) (mCons (mC (.bl true)) mNil)))))) mNil))) mNext)
  (mSeq (mIfS (mTest (m2 gIx (mVar 8) (mC (.int 1)))) (mDrop (mBM gAppend (mVar 13) (mCons (mCall 5 f__law_raw (mCons (mVar 11) (mCons (mVar 7) (mCons (mLc (iSeq (mVar 12)) (.nm 14) mYes (m2 Lk.gMod (mB gInt (mCons (m2 Lk.gSub (mVar 4) (mVar 14)) mNil)) (mVar 4)) [14]) (mCons (mVar 10) (mCons (mC (.bl false)) mNil)))))) mNil))) mNext)
  (mSeq (mSet 15 (m2 Lk.gMul (m2 Lk.gMul (mC (.int 2)) (mVar 4)) (m2 Lk.gAdd (mC (.int 1)) (mCall 2 f__law_draw (mCons (mVar 0) (mCons (mC (.int 3)) mNil))))))
  (mSeq (mSet 16 (mCall 5 f__law_even_tops (mCons (mVar 0) (mCons (mVar 7) (mCons (mVar 8) (mCons (mVar 10) (mCons (m2 Lk.gMul (mVar 1) (mVar 15)) mNil)))))))
  (mSeq (mSet 17 (mCall 2 f__law_draw (mCons (mVar 0) (mCons (mC (.int 6)) mNil))))
  (mSeq (mIfS (mTest (m2 (gCmp fun i j => decide (i < j)) (mVar 17) (mC (.int 2)))) (mSet 16 (mLc (iSeq (mVar 16)) (.nm 18) mYes (m2 Lk.gMod (mB gInt (mCons (m2 Lk.gAdd (mVar 18) (m2 Lk.gMul (mVar 15) (m2 Lk.gSub (mCall 2 f__law_draw (mCons (mVar 0) (mCons (mC (.int 3)) mNil))) (mC (.int 1))))) mNil)) (m2 Lk.gMul (mVar 1) (mVar 15))) [18])) mNext)
  (mSeq (mIfS (mTest (m2 (gCmp fun i j => decide (j < i)) (mVar 17) (mC (.int 3)))) (mSet 16 (mLc (iSeq (mVar 11)) (.nm 14) mYes (mCall 2 f__law_draw (mCons (mVar 0) (mCons (m2 Lk.gMul (mVar 1) (mVar 15)) mNil))) [14])) mNext)
  (mSeq (mSet 19 (m2 Lk.gMul (mLst (mCons (mC (.int 0)) mNil)) (mB gLen (mCons (mVar 11) mNil))))
  (mSeq (mFor (iEnuZ (mVar 16)) (gUnpack 2 (gCons' (gSet 14) (gCons' (gSet 18) gNil'))) (mAsg (mIf (mTest (mVar 3)) (m2 Lk.gDiv (mVar 18) (mVar 15)) (mVar 18)) (gSub' (mVar 19) (m2 gIx (mVar 11) (mVar 14)))))
  (mRet (mLst (mCons (mVar 13) (mCons (mVar 19) (mCons (mIf (mTest (mVar 3)) (mC (.int 1)) (mVar 15)) mNil))))))))))))))))))))))))
noncomputable def f__law_lines : List D → Store → R D := mDef 20 b__law_lines
noncomputable def b__law_orbit : MS := (mSeq (mSet 2 (mLst (mCons (mVar 0) mNil)))
  (mSeq (mFor (iRng1' (mCons (mC (.int 600)) mNil)) (gSet 3) (mSeq (mIfS (mTest (m2 (gCmp fun i j => decide (j ≤ i)) (mVar 3) (mB gLen (mCons (mVar 2) mNil)))) mBreak mNext)
  (mFor (iSeq (mVar 1)) (gUnpack 2 (gCons' (gSet 4) (gCons' (gSet 5) gNil'))) (mSeq (mAsg (m2 gIx (mVar 2) (mVar 3)) (gUnpack 2 (gCons' (gSet 6) (gCons' (gSet 7) gNil'))))
  (mSeq (mSet 8 (mIf (mTest (mVar 5)) (mTup (mCons (m2 gIx (mVar 4) (mVar 6)) (mCons (m2 gIx (mVar 4) (mVar 7)) mNil))) (mTup (mCons (m2 gIx (mVar 4) (mVar 7)) (mCons (m2 gIx (mVar 4) (mVar 6)) mNil)))))
  (mIfS (mTest (m2 (gInZ true) (mVar 8) (mVar 2))) (mDrop (mBM gAppend (mVar 2) (mCons (mVar 8) mNil))) mNext))))))
  (mRet (mVar 2))))
noncomputable def f__law_orbit : List D → Store → R D := mDef 9 b__law_orbit
noncomputable def b__law_window : MS := (mSeq (mSet 4 (mLst mNil))
  (mSeq (mFor (iSeq (mVar 1)) (gSet 5) (mSeq (mSet 6 (m2 Lk.gDiv (mVar 5) (mVar 3)))
  (mSeq (mSet 7 (m1 gNeg (m2 Lk.gDiv (m1 gNeg (mB gMax (mCons (mLc (iSeq (mVar 1)) (.nm 8) mYes (m2 Lk.gMod (mB gInt (mCons (m2 Lk.gSub (mVar 8) (m2 Lk.gMul (mVar 6) (mVar 3))) mNil)) (m2 Lk.gMul (mVar 2) (mVar 3))) [8]) mNil))) (mVar 3))))
  (mIfS (mAndT (mTest (m2 (gCmp fun i j => decide (i ≤ j)) (mVar 7) (m2 Lk.gSub (mVar 2) (mC (.int 2))))) (mTest (m2 (gInZ true) (mTup (mCons (mVar 6) (mCons (mVar 7) mNil))) (mVar 4)))) (mDrop (mBM gAppend (mVar 4) (mCons (mTup (mCons (mVar 6) (mCons (mVar 7) mNil))) mNil))) mNext))))
  (mSeq (mIfS (mTest (m2 (gEqZ cs oe) (mVar 4) (mLst mNil))) (mRet (mC .non)) mNext)
  (mSeq (mAsg (m2 gIx (mVar 4) (mCall 2 f__law_draw (mCons (mVar 0) (mCons (mB gLen (mCons (mVar 4) mNil)) mNil)))) (gUnpack 2 (gCons' (gSet 6) (gCons' (gSet 7) gNil'))))
  (mSeq (mSet 9 (mB gMin2 (mCons (m2 Lk.gSub (m2 Lk.gSub (mVar 2) (mC (.int 2))) (mVar 7)) (mCons (m2 gIx (mTup (mCons (mC (.int 2)) (mCons (mC (.int 2)) (mCons (mVar 2) mNil)))) (mCall 2 f__law_draw (mCons (mVar 0) (mCons (mC (.int 3)) mNil)))) mNil))))
  (mSeq (mSet 10 (mCall 2 f__law_draw (mCons (mVar 0) (mCons (m2 Lk.gAdd (mVar 9) (mC (.int 1))) mNil))))
  (mSeq (mSet 11 (mCall 2 f__law_draw (mCons (mVar 0) (mCons (m2 Lk.gAdd (m2 Lk.gSub (mVar 9) (mVar 10)) (mC (.int 1))) mNil))))
  (mSeq (mSet 6 (m2 Lk.gSub (mVar 6) (mVar 10)))
  (mSeq (mIfS (mOrT (mTest (m2 (gCmp fun i j => decide (i < j)) (mVar 6) (mC (.int 0)))) (mAndT (mTest (m2 (gCmp fun i j => decide (i ≤ j)) (m2 Lk.gAdd (m2 Lk.gAdd (m2 Lk.gAdd (m2 Lk.gAdd (mVar 6) (mVar 2)) (mVar 10)) (mVar 7)) (mVar 11)) (mC (.int 2880)))) (mTest (m2 (gEqZ cs oe) (mCall 2 f__law_draw (mCons (mVar 0) (mCons (mC (.int 6)) mNil))) (mC (.int 1)))))) (mSet 6 (m2 Lk.gAdd (mVar 6) (mVar 2))) mNext)
  (mRet (mTup (mCons (mVar 6) (mCons (m2 Lk.gAdd (m2 Lk.gAdd (m2 Lk.gAdd (mVar 6) (mVar 10)) (mVar 7)) (mVar 11)) mNil)))))))))))))
noncomputable def f__law_window : List D → Store → R D := mDef 12 b__law_window
noncomputable def b__law_spans : MS := (mSeq (mSet 6 (mLst mNil))
  (mSeq (mSet 7 (mB gLen (mCons (mVar 3) mNil)))
  (mSeq (mFor (iRng1' (mCons (m2 gIx (mTup (mCons (mC (.int 1)) (mCons (mC (.int 2)) (mCons (mC (.int 2)) (mCons (mC (.int 3)) (mCons (mC (.int 3)) (mCons (mC (.int 4)) (mCons (mC (.int 5)) (mCons (mC (.int 0)) mNil))))))))) (mCall 2 f__law_draw (mCons (mVar 0) (mCons (mC (.int 8)) mNil)))) mNil)) (gSet 8) (mIfS (mTest (m2 (gCmp fun i j => decide (j < i)) (mVar 7) (mC (.int 1)))) (mSeq (mSet 9 (mCall 2 f__law_draw (mCons (mVar 0) (mCons (mVar 7) mNil))))
  (mSeq (mSet 10 (m2 Lk.gMod (mB gInt (mCons (m2 Lk.gAdd (m2 Lk.gAdd (mVar 9) (mC (.int 1))) (mCall 2 f__law_draw (mCons (mVar 0) (mCons (m2 Lk.gSub (mVar 7) (mC (.int 1))) mNil)))) mNil)) (mVar 7)))
  (mSeq (mSet 11 (mCall 2 f__law_orbit (mCons (mTup (mCons (mVar 9) (mCons (mVar 10) mNil))) (mCons (mVar 2) mNil))))
  (mSeq (mSet 12 (mLc (iSeq (mVar 11)) (.nm 13) mYes (m2 Lk.gMod (mB gInt (mCons (m2 Lk.gSub (m2 gIx (mVar 3) (m2 gIx (mVar 13) (mC (.int 1)))) (m2 gIx (mVar 3) (m2 gIx (mVar 13) (mC (.int 0))))) mNil)) (m2 Lk.gMul (mVar 1) (mVar 4))) [13]))
  (mSeq (mSet 14 (mCall 4 f__law_window (mCons (mVar 0) (mCons (mVar 12) (mCons (mVar 1) (mCons (mVar 4) mNil))))))
  (mIfS (mAndT (mTest (m2 gNotN (mVar 14) (mC .non))) (mAndT (mTest (m2 (gCmp fun i j => decide (i ≤ j)) (m2 Lk.gAdd (mB gLen (mCons (mVar 6) mNil)) (mB gLen (mCons (mVar 11) mNil))) (mVar 5))) (mTest (m2 (gInZ true) (m2 Lk.gAdd (mTup (mCons (mVar 9) (mCons (mVar 10) mNil))) (mVar 14)) (mVar 6))))) (mFor (iSeq (mVar 11)) (gSet 13) (mDrop (mBM gInsert (mVar 6) (mCons (mCall 2 f__law_draw (mCons (mVar 0) (mCons (m2 Lk.gAdd (mB gLen (mCons (mVar 6) mNil)) (mC (.int 1))) mNil))) (mCons (m2 Lk.gAdd (mVar 13) (mVar 14)) mNil))))) mNext)))))) mNext))
  (mRet (mVar 6)))))
noncomputable def f__law_spans : List D → Store → R D := mDef 15 b__law_spans
noncomputable def b__law_once : MS := (mSeq (mIfS (mTest (m2 (gCmp fun i j => decide (j < i)) (mCall 2 f__law_draw (mCons (mVar 0) (mCons (mC (.int 4)) mNil))) (mC (.int 0)))) (mAsg (mCall 4 f__law_lines (mCons (mVar 0) (mCons (mVar 1) (mCons (mVar 2) (mCons (mVar 4) mNil))))) (gUnpackS 3 (gCons' (gSet 5) (gCons' (gSet 6) (gCons' (gSet 7) gNil'))))) (mSeq (mSet 8 (m2 Lk.gAdd (mC (.int 1)) (mCall 2 f__law_draw (mCons (mVar 0) (mCons (mB gMin2 (mCons (mC (.int 4)) (mCons (mVar 2) mNil))) mNil)))))
  (mSeq (mSet 5 (mLc (iRng1' (mCons (mCall 2 f__law_draw (mCons (mVar 0) (mCons (mC (.int 4)) mNil))) mNil)) (.nm 9) mYes (mTup (mCons (mB gTuple (mCons (mCall 2 f__law_perm (mCons (mVar 0) (mCons (mVar 8) mNil))) mNil)) (mCons (m2 (gEqZ cs oe) (mCall 2 f__law_draw (mCons (mVar 0) (mCons (mC (.int 2)) mNil))) (mC (.int 1))) mNil))) [9]))
  (mSeq (mSet 7 (mIf (mTest (mVar 4)) (mC (.int 1)) (m2 Lk.gAdd (mC (.int 1)) (mCall 2 f__law_draw (mCons (mVar 0) (mCons (mC (.int 4)) mNil))))))
  (mSeq (mSet 6 (mLc (iRng1' (mCons (mVar 8) mNil)) (.nm 9) mYes (mCall 2 f__law_draw (mCons (mVar 0) (mCons (m2 Lk.gMul (mVar 1) (mVar 7)) mNil))) [9]))
  (mIfS (mTest (m2 (gEqZ cs oe) (mCall 2 f__law_draw (mCons (mVar 0) (mCons (mC (.int 3)) mNil))) (mC (.int 0)))) (mSet 6 (mLc (iRng1' (mCons (mVar 8) mNil)) (.nm 9) mYes (m2 gIx (mVar 6) (mC (.int 0))) [9])) mNext))))))
  (mRet (mLst (mCons (mCall 6 f__law_spans (mCons (mVar 0) (mCons (mVar 1) (mCons (mVar 5) (mCons (mVar 6) (mCons (mVar 7) (mCons (mVar 3) mNil))))))) (mCons (mVar 6) (mCons (mVar 7) (mCons (mVar 5) mNil)))))))
noncomputable def f__law_once : List D → Store → R D := mDef 10 b__law_once
noncomputable def b__law_world : MS := (mSeq (mSet 5 (mLst mNil))
  (mSeq (mFor (iRng1' (mCons (mC (.int 4)) mNil)) (gSet 6) (mIfS (mOrT (mTest (m2 (gEqZ cs oe) (mVar 5) (mLst mNil))) (mOrT (mTest (m2 (gEqZ cs oe) (m2 gIx (mVar 5) (mC (.int 0))) (mLst mNil))) (mTest (mB gAll (mCons (mLc (iSeq (m2 gIx (mVar 5) (mC (.int 3)))) (.nm 7) mYes (m2 (gEqZ cs oe) (m2 gIx (mVar 7) (mC (.int 0))) (mTupRg1 (mB gLen (mCons (m2 gIx (mVar 7) (mC (.int 0))) mNil)))) [7]) mNil))))) (mIfS (mOrT (mTest (m2 (gEqZ cs oe) (mVar 5) (mLst mNil))) (mTest (m2 (gCmp fun i j => decide (j < i)) (mCall 2 f__law_draw (mCons (mVar 0) (mCons (mC (.int 8)) mNil))) (mC (.int 0))))) (mSet 5 (mCall 5 f__law_once (mCons (mVar 0) (mCons (mVar 1) (mCons (mVar 2) (mCons (mVar 3) (mCons (mVar 4) mNil))))))) mNext) mNext))
  (mRet (mVar 5))))
noncomputable def f__law_world : List D → Store → R D := mDef 8 b__law_world
noncomputable def b_is_below : MS := (mRet (mAnd (mCall 1 f_is_integer (mCons (mVar 1) mNil)) (mCh2 (gCmp (fun i j => decide (i ≤ j))) (gCmp (fun i j => decide (i < j))) (mC (.int 0)) (mVar 1) (mVar 0))))
noncomputable def f_is_below : List D → Store → R D := mDef 2 b_is_below
noncomputable def b_is_span : MS := (mSeq (mIfS (mOrT (mNotT (mTest (m1 (gIsi cs [(.bi "tuple")]) (mVar 2)))) (mTest (m2 (gNeX oe) (mB gLen (mCons (mVar 2) mNil)) (mC (.int 4))))) (mRet (mC (.bl false))) mNext)
  (mSeq (mIfS (mNotT (mTest (mB gAll (mCons (mLc (iSeq (mVar 2)) (.nm 3) mYes (mCall 1 f_is_integer (mCons (mVar 3) mNil)) [3]) mNil)))) (mRet (mC (.bl false))) mNext)
  (mSeq (mAsg (mVar 2) (gUnpack 4 (gCons' (gSet 4) (gCons' (gSet 5) (gCons' (gSet 6) (gCons' (gSet 7) gNil'))))))
  (mSeq (mIfS (mOrT (mNotT (mTest (mCall 2 f_is_below (mCons (mVar 1) (mCons (mVar 4) mNil))))) (mOrT (mNotT (mTest (mCall 2 f_is_below (mCons (mVar 1) (mCons (mVar 5) mNil))))) (mTest (m2 (gEqZ cs oe) (mVar 4) (mVar 5))))) (mRet (mC (.bl false))) mNext)
  (mRet (mAnd (mCh3 (gCmp (fun i j => decide (i ≤ j))) (gCmp (fun i j => decide (i ≤ j))) (gCmp (fun i j => decide (i ≤ j))) (mC (.int 0)) (mVar 6) (mVar 7) (mC (.int 2880))) (m2 (gCmp fun i j => decide (i ≤ j)) (m2 Lk.gSub (mVar 7) (mVar 6)) (m2 Lk.gSub (mVar 0) (mC (.int 2))))))))))
noncomputable def f_is_span : List D → Store → R D := mDef 8 b_is_span
noncomputable def b_spans_fault : MS := (mSeq (mIfS (mOrT (mNotT (mTest (m1 (gIsi cs [(.bi "list"), (.bi "tuple")]) (mVar 2)))) (mTest (m2 (gCmp fun i j => decide (j < i)) (mB gLen (mCons (mVar 2) mNil)) (mC (.int 60))))) (mRet (m1 gNeg (mC (.int 1)))) mNext)
  (mSeq (mFor (iEnuZ (mVar 2)) (gUnpack 2 (gCons' (gSet 3) (gCons' (gSet 4) gNil'))) (mIfS (mOrT (mNotT (mTest (mCall 3 f_is_span (mCons (mVar 0) (mCons (mVar 1) (mCons (mVar 4) mNil)))))) (mTest (m2 (gInZ false) (mVar 4) (mSl (mVar 2) none (some (mVar 3)))))) (mRet (mVar 3)) mNext))
  (mRet (mC .non))))
noncomputable def f_spans_fault : List D → Store → R D := mDef 5 b_spans_fault
noncomputable def b_are_events : MS := (mRet (mAnd (mCall 1 f_is_integer (mCons (mVar 0) mNil)) (mCh2 (gCmp (fun i j => decide (i ≤ j))) (gCmp (fun i j => decide (i ≤ j))) (mC (.int 1)) (mVar 0) (mC (.int 24)))))
noncomputable def f_are_events : List D → Store → R D := mDef 1 b_are_events
noncomputable def b_Net___init__ : MS := (mSeq (mIfS (mOrT (mNotT (mTest (mCall 1 f_is_integer (mCons (mVar 1) mNil)))) (mNotT (mTest (mCh2 (gCmp (fun i j => decide (i ≤ j))) (gCmp (fun i j => decide (i ≤ j))) (mC (.int 3)) (mVar 1) (mC (.int 1440)))))) (mRaise1 "BadBeat" (mVar 1)) mNext)
  (mSeq (mIfS (mNotT (mTest (mCall 1 f_are_events (mCons (mVar 2) mNil)))) (mRaise1 "BadEvents" (mVar 2)) mNext)
  (mSeq (mSet 4 (mCall 3 f_spans_fault (mCons (mVar 1) (mCons (mVar 2) (mCons (mVar 3) mNil)))))
  (mSeq (mIfS (mTest (m2 gNotN (mVar 4) (mC .non))) (mRaise1 "BadSpan" (mVar 4)) mNext)
  (mSeq (mSetF flds 0 "beat" (mVar 1))
  (mSeq (mSetF flds 0 "events" (mVar 2))
  (mSetF flds 0 "spans" (mB gTuple (mCons (mVar 3) mNil)))))))))
noncomputable def f_Net___init__ : List D → Store → R D := mDef 5 b_Net___init__
noncomputable def b__law_both : MS := (mRet (mTup (mCons (mB gTuple (mCons (mLc (iSeq (m2 gIx (mVar 0) (mC (.int 0)))) (.nm 2) mYes (m2 gIx (m2 gIx (mVar 1) (mC (.int 0))) (mVar 2)) [2]) mNil)) (mCons (m2 (gEqZ cs oe) (m2 gIx (mVar 0) (mC (.int 1))) (m2 gIx (mVar 1) (mC (.int 1)))) mNil))))
noncomputable def f__law_both : List D → Store → R D := mDef 3 b__law_both
noncomputable def b__law_word : MS := (mSeq (mSet 3 (mTup (mCons (mTupRg1 (mVar 2)) (mCons (mC (.bl true)) mNil))))
  (mSeq (mFor (iRng1' (mCons (mIf (mTest (m2 (gNeX oe) (mVar 1) (mLst mNil))) (m2 Lk.gAdd (mC (.int 1)) (mCall 2 f__law_draw (mCons (mVar 0) (mCons (mC (.int 4)) mNil)))) (mC (.int 0))) mNil)) (gSet 4) (mSet 3 (mCall 2 f__law_both (mCons (mVar 3) (mCons (m2 gIx (mVar 1) (mCall 2 f__law_draw (mCons (mVar 0) (mCons (mB gLen (mCons (mVar 1) mNil)) mNil)))) mNil)))))
  (mRet (mVar 3))))
noncomputable def f__law_word : List D → Store → R D := mDef 5 b__law_word
noncomputable def b_Ratio___init__ : MS := (mSeq (mFor (iSeq (mTup (mCons (mVar 1) (mCons (mVar 2) mNil)))) (gSet 3) (mIfS (mNotT (mTest (mCall 1 f_is_integer (mCons (mVar 3) mNil)))) (mRaise1 "BadNumber" (mVar 3)) mNext))
  (mSeq (mIfS (mTest (m2 (gEqZ cs oe) (mVar 2) (mC (.int 0)))) (mRaise1 "BadNumber" (mVar 2)) mNext)
  (mSeq (mSet 4 (mIf (mTest (m2 (gCmp fun i j => decide (j < i)) (mVar 2) (mC (.int 0)))) (mB gGcd (mCons (mVar 1) (mCons (mVar 2) mNil))) (m1 gNeg (mB gGcd (mCons (mVar 1) (mCons (mVar 2) mNil))))))
  (mSeq (mSetF flds 0 "top" (m2 Lk.gDiv (mVar 1) (mVar 4)))
  (mSetF flds 0 "bottom" (m2 Lk.gDiv (mVar 2) (mVar 4)))))))
noncomputable def f_Ratio___init__ : List D → Store → R D := mDef 5 b_Ratio___init__
noncomputable def b__law_spoiled : MS := (mSeq (mSet 2 (mB gList (mCons (m2 gIx (mVar 1) (mC (.int 0))) mNil)))
  (mSeq (mSet 3 (mCall 2 f__law_draw (mCons (mVar 0) (mCons (mB gLen (mCons (mVar 2) mNil)) mNil))))
  (mSeq (mSet 4 (mTup (mCons (mC (.bl true)) (mCons (mC (.bl false)) (mCons (m1 gNeg (mC (.int 1))) (mCons (mB gLen (mCons (mVar 2) mNil)) (mCons (m2 Lk.gPow (mC (.int 10)) (mC (.int 39))) (mCons (mC .non) (mCons (mC (.str (Str.ofString "0"))) (mCons (mTup (mCons (mC (.int 0)) mNil)) (mCons (mLst mNil) (mCons (m1 gNeg (m2 Lk.gPow (mC (.int 10)) (mC (.int 39)))) (mCons (mMake "Ratio" 3 f_Ratio___init__ (mCons (mVar 3) (mCons (mC (.int 1)) mNil))) (mCons (mMake "Ratio" 3 f_Ratio___init__ (mCons (mC (.int 0)) (mCons (mC (.int 1)) mNil))) mNil))))))))))))))
  (mSeq (mSet 5 (mCall 2 f__law_draw (mCons (mVar 0) (mCons (mC (.int 10)) mNil))))
  (mSeq (mIfS (mTest (m2 (gEqZ cs oe) (mVar 5) (mC (.int 0)))) (mRet (mTup (mCons (mB gTuple (mCons (mVar 2) mNil)) (mCons (m2 gIx (mTup (mCons (mC (.int 1)) (mCons (mC (.int 0)) (mCons (mC .non) (mCons (mC (.str (Str.ofString "True"))) (mCons (mTup (mCons (mC (.bl true)) mNil)) mNil)))))) (mCall 2 f__law_draw (mCons (mVar 0) (mCons (mC (.int 5)) mNil)))) mNil)))) mNext)
  (mSeq (mIfS (mTest (m2 (gEqZ cs oe) (mVar 5) (mC (.int 1)))) (mRet (m2 gIx (mTup (mCons (mLst (mCons (mVar 2) (mCons (m2 gIx (mVar 1) (mC (.int 1))) mNil))) (mCons (mTup (mCons (mVar 2) (mCons (m2 gIx (mVar 1) (mC (.int 1))) mNil))) (mCons (mTup (mCons (mB gTuple (mCons (mVar 2) mNil)) mNil)) (mCons (mC (.int 7)) (mCons (mC .non) mNil)))))) (mCall 2 f__law_draw (mCons (mVar 0) (mCons (mC (.int 5)) mNil))))) mNext)
  (mSeq (mIfS (mTest (m2 (gEqZ cs oe) (mVar 5) (mC (.int 2)))) (mRet (mTup (mCons (mB gTuple (mCons (m2 Lk.gAdd (mVar 2) (mLst (mCons (mVar 3) mNil))) mNil)) (mCons (m2 gIx (mVar 1) (mC (.int 1))) mNil)))) mNext)
  (mSeq (mIfS (mTest (m2 (gEqZ cs oe) (mVar 5) (mC (.int 3)))) (mRet (mTup (mCons (mB gTuple (mCons (m2 Lk.gAdd (mSl (mVar 2) none (some (mVar 3))) (mSl (mVar 2) (some (m2 Lk.gAdd (mVar 3) (mC (.int 1)))) none)) mNil)) (mCons (m2 gIx (mVar 1) (mC (.int 1))) mNil)))) mNext)
  (mSeq (mIfS (mTest (m2 (gEqZ cs oe) (mVar 5) (mC (.int 4)))) (mRet (mTup (mCons (mB gTuple (mCons (mVar 2) mNil)) (mCons (mNot (m2 gIx (mVar 1) (mC (.int 1)))) mNil)))) mNext)
  (mSeq (mIfS (mTest (m2 (gCmp fun i j => decide (j < i)) (mVar 5) (mC (.int 6)))) (mAsg (m2 gIx (mVar 4) (mCall 2 f__law_draw (mCons (mVar 0) (mCons (mC (.int 12)) mNil)))) (gSub' (mVar 2) (mVar 3))) mNext)
  (mSeq (mIfS (mTest (m2 (gInZ false) (mVar 5) (mTup (mCons (mC (.int 6)) (mCons (mC (.int 7)) mNil))))) (mSeq (mSet 6 (mCall 2 f__law_draw (mCons (mVar 0) (mCons (mB gLen (mCons (mVar 2) mNil)) mNil))))
  (mAsg (m2 gIx (mVar 2) (mCall 2 f__law_draw (mCons (mVar 0) (mCons (mB gLen (mCons (mVar 2) mNil)) mNil)))) (gSub' (mVar 2) (mVar 6)))) mNext)
  (mSeq (mIfS (mTest (m2 (gInZ false) (mVar 5) (mTup (mCons (mC (.int 5)) (mCons (mC (.int 8)) mNil))))) (mSeq (mSet 6 (mCall 2 f__law_draw (mCons (mVar 0) (mCons (mB gLen (mCons (mVar 2) mNil)) mNil))))
  (mAsg (mTup (mCons (m2 gIx (mVar 2) (mVar 6)) (mCons (m2 gIx (mVar 2) (mVar 3)) mNil))) (gUnpack 2 (gCons' (gSub' (mVar 2) (mVar 3)) (gCons' (gSub' (mVar 2) (mVar 6)) gNil'))))) mNext)
  (mRet (mTup (mCons (mB gTuple (mCons (mVar 2) mNil)) (mCons (m2 gIx (mVar 1) (mC (.int 1))) mNil))))))))))))))))
noncomputable def f__law_spoiled : List D → Store → R D := mDef 7 b__law_spoiled
noncomputable def b_span_led : MS := (mSeq (mAsg (mVar 0) (gUnpack 4 (gCons' (gSet 3) (gCons' (gSet 4) (gCons' (gSet 5) (gCons' (gSet 6) gNil'))))))
  (mRet (mIf (mTest (mVar 2)) (mTup (mCons (m2 gIx (mVar 1) (mVar 3)) (mCons (m2 gIx (mVar 1) (mVar 4)) (mCons (mVar 5) (mCons (mVar 6) mNil))))) (mTup (mCons (m2 gIx (mVar 1) (mVar 4)) (mCons (m2 gIx (mVar 1) (mVar 3)) (mCons (mVar 5) (mCons (mVar 6) mNil))))))))
noncomputable def f_span_led : List D → Store → R D := mDef 7 b_span_led
noncomputable def b_is_event : MS := (mRet (mCall 2 f_is_below (mCons (mFld flds "events" (mVar 0)) (mCons (mVar 1) mNil))))
noncomputable def f_is_event : List D → Store → R D := mDef 2 b_is_event
noncomputable def b_likeness_fault : MS := (mSeq (mIfS (mOrT (mNotT (mTest (m1 (gIsi cs [(.bi "tuple")]) (mVar 1)))) (mTest (m2 (gNeX oe) (mB gLen (mCons (mVar 1) mNil)) (mC (.int 2))))) (mRet (mTup (mCons (mC (.str (Str.ofString "likeness"))) (mCons (m1 gNeg (mC (.int 1))) mNil)))) mNext)
  (mSeq (mAsg (mVar 1) (gUnpack 2 (gCons' (gSet 2) (gCons' (gSet 3) gNil'))))
  (mSeq (mIfS (mOrT (mNotT (mTest (m1 (gIsi cs [(.bi "tuple")]) (mVar 2)))) (mOrT (mTest (m2 (gNeX oe) (mB gLen (mCons (mVar 2) mNil)) (mFld flds "events" (mVar 0)))) (mNotT (mTest (m1 (gIsi cs [(.bi "bool")]) (mVar 3)))))) (mRet (mTup (mCons (mC (.str (Str.ofString "likeness"))) (mCons (m1 gNeg (mC (.int 1))) mNil)))) mNext)
  (mSeq (mFor (iEnuZ (mVar 2)) (gUnpack 2 (gCons' (gSet 4) (gCons' (gSet 5) gNil'))) (mIfS (mOrT (mNotT (mTest (mCall 2 f_is_event (mCons (mVar 0) (mCons (mVar 5) mNil))))) (mTest (m2 (gInZ false) (mVar 5) (mSl (mVar 2) none (some (mVar 4)))))) (mRet (mTup (mCons (mC (.str (Str.ofString "event"))) (mCons (mVar 4) mNil)))) mNext))
  (mSeq (mFor (iEnuZ (mFld flds "spans" (mVar 0))) (gUnpack 2 (gCons' (gSet 4) (gCons' (gSet 6) gNil'))) (mIfS (mTest (m2 (gInZ true) (mCall 3 f_span_led (mCons (mVar 6) (mCons (mVar 2) (mCons (mVar 3) mNil)))) (mFld flds "spans" (mVar 0)))) (mRet (mTup (mCons (mC (.str (Str.ofString "span"))) (mCons (mVar 4) mNil)))) mNext))
  (mRet (mC .non)))))))
noncomputable def f_likeness_fault : List D → Store → R D := mDef 7 b_likeness_fault
noncomputable def b_is_likeness : MS := (mRet (m2 gIsN (mCall 2 f_likeness_fault (mCons (mVar 0) (mCons (mVar 1) mNil))) (mC .non)))
noncomputable def f_is_likeness : List D → Store → R D := mDef 2 b_is_likeness
noncomputable def b__law_is_integer : MS := (mRet (mAnd (m1 (gIsi cs [(.bi "int")]) (mVar 0)) (mNot (m1 (gIsi cs [(.bi "bool")]) (mVar 0)))))
noncomputable def f__law_is_integer : List D → Store → R D := mDef 1 b__law_is_integer
noncomputable def b__law_same : MS := (mSeq (mIfS (mOrT (mTest (m2 gIsN (mVar 1) (mC .non))) (mTest (m2 gIsN (mVar 0) (mC .non)))) (mRet (mAnd (m2 gIsN (mVar 1) (mC .non)) (m2 gIsN (mVar 0) (mC .non)))) mNext)
  (mSeq (mIfS (mOrT (mNotT (mTest (m1 (gIsi cs [(.bi "tuple")]) (mVar 0)))) (mOrT (mTest (m2 (gNeX oe) (mB gLen (mCons (mVar 0) mNil)) (mC (.int 2)))) (mOrT (mNotT (mTest (m1 (gIsi cs [(.bi "str")]) (m2 gIx (mVar 0) (mC (.int 0)))))) (mNotT (mTest (mCall 1 f__law_is_integer (mCons (m2 gIx (mVar 0) (mC (.int 1))) mNil))))))) (mRet (mC (.bl false))) mNext)
  (mRet (m2 (gEqZ cs oe) (mVar 0) (mVar 1)))))
noncomputable def f__law_same : List D → Store → R D := mDef 2 b__law_same
noncomputable def b_check_likeness : MS := (mIfS (mNotT (mTest (mCall 2 f_is_likeness (mCons (mVar 0) (mCons (mVar 1) mNil))))) (mRaise0 "BadLikeness") mNext)
noncomputable def f_check_likeness : List D → Store → R D := mDef 2 b_check_likeness
noncomputable def b_indexes_led : MS := (mSeq (mAsg (mVar 1) (gUnpack 2 (gCons' (gSet 2) (gCons' (gSet 3) gNil'))))
  (mSeq (mSet 4 (mDcN (iEnuZ (mFld flds "spans" (mVar 0))) (.tp [5, 6]) mYes (mVar 6) (mVar 5) [5, 6]))
  (mRet (mB gTuple (mCons (mLc (iSeq (mFld flds "spans" (mVar 0))) (.nm 6) mYes (m2 gIxN (mVar 4) (mCall 3 f_span_led (mCons (mVar 6) (mCons (mVar 2) (mCons (mVar 3) mNil))))) [6]) mNil)))))
noncomputable def f_indexes_led : List D → Store → R D := mDef 7 b_indexes_led
noncomputable def b_spans_led : MS := (mSeq (mDrop (mCall 2 f_check_likeness (mCons (mVar 0) (mCons (mVar 1) mNil))))
  (mRet (mCall 2 f_indexes_led (mCons (mVar 0) (mCons (mVar 1) mNil)))))
noncomputable def f_spans_led : List D → Store → R D := mDef 2 b_spans_led
noncomputable def b__law_judged : MS := (mSeq (mIfS (mNotT (mTest (mCall 2 f__law_same (mCons (mCall 2 f_likeness_fault (mCons (mVar 0) (mCons (mVar 1) mNil))) (mCons (mVar 2) mNil))))) (mRet (mC (.bl false))) mNext)
  (mSeq (mSet 3 (mCall 2 f_is_likeness (mCons (mVar 0) (mCons (mVar 1) mNil))))
  (mSeq (mIfS (mOrT (mNotT (mTest (m1 (gIsi cs [(.bi "bool")]) (mVar 3)))) (mTest (m2 (gNeX oe) (mVar 3) (m2 gIsN (mVar 2) (mC .non))))) (mRet (mC (.bl false))) mNext)
  (mSeq (mTryAs (sb "BadLikeness") 4 (mDrop (mCall 2 f_spans_led (mCons (mVar 0) (mCons (mVar 1) mNil)))) (fun E xs => (mRet (mAnd (m2 gNotN (mVar 2) (mC .non)) (mAnd (mXis xk 4 E (.own "SpansError")) (mAnd (mXis xk 4 E (.bi "ValueError")) (mNot (mXis xk 4 E (.own "BadLot")))))))))
  (mRet (m2 gIsN (mVar 2) (mC .non)))))))
noncomputable def f__law_judged : List D → Store → R D := mDef 5 b__law_judged
noncomputable def b__law_span_led : MS := (mSeq (mAsg (mVar 1) (gUnpack 2 (gCons' (gSet 2) (gCons' (gSet 3) gNil'))))
  (mSeq (mIfS (mTest (mVar 3)) (mRet (mTup (mCons (m2 gIx (mVar 2) (m2 gIx (mVar 0) (mC (.int 0)))) (mCons (m2 gIx (mVar 2) (m2 gIx (mVar 0) (mC (.int 1)))) (mCons (m2 gIx (mVar 0) (mC (.int 2))) (mCons (m2 gIx (mVar 0) (mC (.int 3))) mNil)))))) mNext)
  (mRet (mTup (mCons (m2 gIx (mVar 2) (m2 gIx (mVar 0) (mC (.int 1)))) (mCons (m2 gIx (mVar 2) (m2 gIx (mVar 0) (mC (.int 0)))) (mCons (m2 gIx (mVar 0) (mC (.int 2))) (mCons (m2 gIx (mVar 0) (mC (.int 3))) mNil))))))))
noncomputable def f__law_span_led : List D → Store → R D := mDef 4 b__law_span_led
noncomputable def b__law_fault : MS := (mSeq (mIfS (mOrT (mNotT (mTest (m1 (gIsi cs [(.bi "tuple")]) (mVar 2)))) (mOrT (mTest (m2 (gNeX oe) (mB gLen (mCons (mVar 2) mNil)) (mC (.int 2)))) (mNotT (mTest (m1 (gIsi cs [(.bi "bool")]) (m2 gIx (mVar 2) (mC (.int 1)))))))) (mRet (mTup (mCons (mC (.str (Str.ofString "likeness"))) (mCons (m1 gNeg (mC (.int 1))) mNil)))) mNext)
  (mSeq (mIfS (mOrT (mNotT (mTest (m1 (gIsi cs [(.bi "tuple")]) (m2 gIx (mVar 2) (mC (.int 0)))))) (mTest (m2 (gNeX oe) (mB gLen (mCons (m2 gIx (mVar 2) (mC (.int 0))) mNil)) (mVar 1)))) (mRet (mTup (mCons (mC (.str (Str.ofString "likeness"))) (mCons (m1 gNeg (mC (.int 1))) mNil)))) mNext)
  (mSeq (mFor (iEnuZ (m2 gIx (mVar 2) (mC (.int 0)))) (gUnpack 2 (gCons' (gSet 3) (gCons' (gSet 4) gNil'))) (mIfS (mOrT (mNotT (mTest (mCall 1 f__law_is_integer (mCons (mVar 4) mNil)))) (mOrT (mNotT (mTest (mCh2 (gCmp (fun i j => decide (i ≤ j))) (gCmp (fun i j => decide (i < j))) (mC (.int 0)) (mVar 4) (mVar 1)))) (mTest (m2 (gInZ false) (mVar 4) (mSl (m2 gIx (mVar 2) (mC (.int 0))) none (some (mVar 3))))))) (mRet (mTup (mCons (mC (.str (Str.ofString "event"))) (mCons (mVar 3) mNil)))) mNext))
  (mSeq (mFor (iEnuZ (mVar 0)) (gUnpack 2 (gCons' (gSet 3) (gCons' (gSet 5) gNil'))) (mIfS (mTest (m2 (gInZ true) (mCall 2 f__law_span_led (mCons (mVar 5) (mCons (mVar 2) mNil))) (mVar 0))) (mRet (mTup (mCons (mC (.str (Str.ofString "span"))) (mCons (mVar 3) mNil)))) mNext))
  (mRet (mC .non))))))
noncomputable def f__law_fault : List D → Store → R D := mDef 6 b__law_fault
noncomputable def b_law_t8 : MS := (mRet (mAnd (m2 (gEqZ cs oe) (mFld flds "beat" (mVar 8)) (mVar 2)) (mAnd (m2 (gEqZ cs oe) (mFld flds "events" (mVar 8)) (mVar 7)) (m2 (gEqZ cs oe) (mFld flds "spans" (mVar 8)) (mB gTuple (mCons (mVar 3) mNil))))))
noncomputable def b_law_t7 : MS := (mSeq (mFor (iSeq (m2 Lk.gAdd (mVar 9) (m1 gRevA (mVar 9)))) (gSet 13) (mIfS (mNotT (mTest (mCall 3 f__law_judged (mCons (mVar 8) (mCons (mVar 13) (mCons (mCall 3 f__law_fault (mCons (mVar 3) (mCons (mVar 7) (mCons (mVar 13) mNil)))) mNil)))))) (mRet (mC (.bl false))) mNext)) b_law_t8)
noncomputable def b_law_t6 : MS := (mSeq (mFor (iRng1' (mCons (mC (.int 3)) mNil)) (gSet 10) (mSeq (mSet 11 (mCall 2 f__law_source (mCons (mVar 0) (mCons (m2 Lk.gAdd (mC (.int 1)) (mVar 10)) mNil))))
  (mSeq (mSet 12 (mCall 3 f__law_word (mCons (mVar 11) (mCons (mVar 6) (mCons (mVar 7) mNil)))))
  (mSeq (mDrop (mBM gAppend (mVar 9) (mCons (mVar 12) mNil)))
  (mSeq (mDrop (mBM gAppend (mVar 9) (mCons (mCall 2 f__law_spoiled (mCons (mVar 11) (mCons (mVar 12) mNil))) mNil)))
  (mSeq (mDrop (mBM gAppend (mVar 9) (mCons (mTup (mCons (mB gTuple (mCons (mCall 2 f__law_perm (mCons (mVar 11) (mCons (mVar 7) mNil))) mNil)) (mCons (m2 (gEqZ cs oe) (mCall 2 f__law_draw (mCons (mVar 11) (mCons (mC (.int 2)) mNil))) (mC (.int 1))) mNil))) mNil)))
  (mSeq (mSet 12 (mCall 3 f__law_word (mCons (mVar 11) (mCons (mVar 6) (mCons (mVar 7) mNil)))))
  (mSeq (mDrop (mBM gAppend (mVar 9) (mCons (mCall 2 f__law_spoiled (mCons (mVar 11) (mCons (mVar 12) mNil))) mNil)))
  (mDrop (mBM gAppend (mVar 9) (mCons (mVar 12) mNil))))))))))) b_law_t7)
noncomputable def b_law_t5 : MS := (mSeq (mSet 9 (mLst mNil)) b_law_t6)
noncomputable def b_law_t4 : MS := (mSeq (mSet 8 (mMake "Net" 4 f_Net___init__ (mCons (mVar 2) (mCons (mVar 7) (mCons (mB gList (mCons (mVar 3) mNil)) mNil))))) b_law_t5)
noncomputable def b_law_t3 : MS := (mSeq (mSet 7 (mB gLen (mCons (mVar 4) mNil))) b_law_t4)
noncomputable def b_law_t2 : MS := (mSeq (mAsg (mCall 5 f__law_world (mCons (mVar 1) (mCons (mVar 2) (mCons (mC (.int 9)) (mCons (mC (.int 30)) (mCons (mC (.bl false)) mNil)))))) (gUnpackS 4 (gCons' (gSet 3) (gCons' (gSet 4) (gCons' (gSet 5) (gCons' (gSet 6) gNil')))))) b_law_t3)
noncomputable def b_law_t1 : MS := (mSeq (mSet 2 (mCall 1 f__law_beat (mCons (mVar 1) mNil))) b_law_t2)
noncomputable def b_law : MS := (mSeq (mSet 1 (mCall 2 f__law_source (mCons (mVar 0) (mCons (mC (.int 0)) mNil)))) b_law_t1)
noncomputable def f_law : List D → Store → R D := mDef 14 b_law
/-! ### what the head is asked -/
section
variable {P : Program} {w : World} {K : PySem.W.Frag} {mg : Str → Option Value} {base : Heap}
theorem Txt.fact (T : Txt K mg) (i : Nat) {q : PySem.W.Frag → Bool} (h : fa[i]? = some q := by rfl) : q K = true := T.says.fact i h
theorem Txt.free (T : Txt K mg) (i : Nat) {x : Str} (h : fa[i]? = some (fun K => (He.Fa.free x).ok K) := by rfl) : mg x = none := by
  obtain ⟨h0, X, Gs⟩ := T.hp
  exact He.free_ok X Gs (T.says.fact i h)
theorem Txt.glo (T : Txt K mg) (i : Nat) {x : Str} (h : fa[i]? = some (fun K => (He.Fa.glo x).ok K) := by rfl) : mg x = some (.ref (He.ga K x)) := by
  obtain ⟨h0, X, Gs⟩ := T.hp
  exact He.glo_ok X Gs (T.says.fact i h)
theorem Txt.bi (T : Txt K mg) (i : Nat) {x : Str} {id : String} (h : fa[i]? = some (fun K => biB K x id) := by rfl) : mg x = some (.builtin id) := by
  obtain ⟨h0, X, Gs⟩ := T.hp
  exact biB_ok X Gs (T.says.fact i h)
theorem Txt.cint (T : Txt K mg) {x : Str} {v : Int} (i : Nat) (h : fa[i]? = some (fun K => (He.Fa.int x v).ok K) := by rfl) : ∃ t, mg x = some (.int v t) := by
  obtain ⟨h0, X, Gs⟩ := T.hp
  exact He.int_ok X Gs (T.says.fact i h)
theorem Txt.mkr (T : Txt K mg) (i : Nat) {x : Str} (h : fa[i]? = some (fun K => (He.Fa.mkr x).ok K) := by rfl) : Mk K (He.ga K x) (He.ma K (He.ga K x) "__init__") := He.mkr_ok (T.says.fact i h)
theorem Txt.is_ (T : Txt K mg) (i : Nat) {U : CK} (h : fa[i]? = some (fun K => isB (G0 K) cs U) := by rfl) : IsF (Gm K w) cs U := isB_ok (Γ := Gm K w) (T.says.fact i h)
theorem Txt.ins (T : Txt K mg) : ∀ C ∈ cs, C8.InsC (Gm K w).K ((Gm K w).c C) := by
  intro C hC
  simp only [cs, List.mem_cons, List.not_mem_nil, or_false] at hC
  rcases hC with rfl | rfl
  · exact insB_ok (T.says.fact 112 (q := fun K => insB K (He.ga K "Ratio")))
  · exact insB_ok (T.says.fact 115 (q := fun K => insB K (He.ga K "Net")))
theorem Txt.pl (T : Txt K mg) : PlAll (Gm K w) cs := by
  refine ⟨fun C hC => ⟨(T.ins C hC).cl, ?_, ?_⟩, fun C hC => ?_⟩
  · simp only [cs, List.mem_cons, List.not_mem_nil, or_false] at hC
    have af_ : ∀ C ∈ cs, ∀ x ∈ flds C, x ∈ af := by decide +kernel
    exact af_ C (by simp only [cs, List.mem_cons, List.not_mem_nil, or_false]; exact hC)
  · simp only [cs, List.mem_cons, List.not_mem_nil, or_false] at hC
    rcases hC with rfl | rfl
    · intro x hx
      have hx : x ∈ (["top", "bottom"] : List Str) := hx
      simp only [List.mem_cons, List.not_mem_nil, or_false] at hx
      rcases hx with rfl | rfl
      · exact noB_ok (T.says.fact 113 (q := fun K => noB K (He.ga K "Ratio") "top"))
      · exact noB_ok (T.says.fact 114 (q := fun K => noB K (He.ga K "Ratio") "bottom"))
    · intro x hx
      have hx : x ∈ (["beat", "events", "spans"] : List Str) := hx
      simp only [List.mem_cons, List.not_mem_nil, or_false] at hx
      rcases hx with rfl | rfl | rfl
      · exact noB_ok (T.says.fact 116 (q := fun K => noB K (He.ga K "Net") "beat"))
      · exact noB_ok (T.says.fact 117 (q := fun K => noB K (He.ga K "Net") "events"))
      · exact noB_ok (T.says.fact 118 (q := fun K => noB K (He.ga K "Net") "spans"))
  · simp only [cs, List.mem_cons, List.not_mem_nil, or_false, not_or] at hC
    simp only [flds]
    simp [hC]
theorem x1_BadBeat (T : Txt K mg) : X1 (Gm K w) P w mg base "BadBeat" "beat" := by
  obtain ⟨fd, Fd⟩ := T.says.def_ 40
  have oe := oexB_ok (T.says.fact 70 (q := fun K => oexB K (He.ga K "BadBeat")))
  have me := He.meth_ok (x := "BadBeat") (m := "__init__") (T.says.fact 71)
  have Sc : FnScope ["self", "beat"] ["self", "beat"] (defScope (inClass (top 5) 0)) := ⟨rfl, rfl, rfl, by decide +kernel, rfl, by decide +kernel, by decide +kernel⟩
  have b : Binds K fd ["self", "beat"] [] := Fd.bindsN fun _ _ _ _ _ _ us hl => match us, hl with | [_, _], _ => rfl
  refine ⟨oe, (show xfl "BadBeat" = (["beat"] : List Str) by decide +kernel), (T.glo 69), _, fd, "self", "beat", me.at_, beq_iff_eq.mp me.fn, ?_, b⟩
  exact ok_x1 Fd Sc oe (noB_ok (T.says.fact 72 (q := fun K => noB K (He.ga K "BadBeat") "beat"))) (by first | exact Or.inl rfl | exact Or.inr (Or.inl rfl)) (by first | exact Or.inl rfl | exact Or.inr (Or.inl rfl))
theorem x1_BadEvents (T : Txt K mg) : X1 (Gm K w) P w mg base "BadEvents" "events" := by
  obtain ⟨fd, Fd⟩ := T.says.def_ 41
  have oe := oexB_ok (T.says.fact 74 (q := fun K => oexB K (He.ga K "BadEvents")))
  have me := He.meth_ok (x := "BadEvents") (m := "__init__") (T.says.fact 75)
  have Sc : FnScope ["self", "events"] ["self", "events"] (defScope (inClass (top 6) 0)) := ⟨rfl, rfl, rfl, by decide +kernel, rfl, by decide +kernel, by decide +kernel⟩
  have b : Binds K fd ["self", "events"] [] := Fd.bindsN fun _ _ _ _ _ _ us hl => match us, hl with | [_, _], _ => rfl
  refine ⟨oe, (show xfl "BadEvents" = (["events"] : List Str) by decide +kernel), (T.glo 73), _, fd, "self", "events", me.at_, beq_iff_eq.mp me.fn, ?_, b⟩
  exact ok_x1 Fd Sc oe (noB_ok (T.says.fact 76 (q := fun K => noB K (He.ga K "BadEvents") "events"))) (by first | exact Or.inl rfl | exact Or.inr (Or.inl rfl)) (by first | exact Or.inl rfl | exact Or.inr (Or.inl rfl))
theorem x1_BadSpan (T : Txt K mg) : X1 (Gm K w) P w mg base "BadSpan" "index" := by
  obtain ⟨fd, Fd⟩ := T.says.def_ 42
  have oe := oexB_ok (T.says.fact 78 (q := fun K => oexB K (He.ga K "BadSpan")))
  have me := He.meth_ok (x := "BadSpan") (m := "__init__") (T.says.fact 79)
  have Sc : FnScope ["self", "index"] ["self", "index"] (defScope (inClass (top 7) 0)) := ⟨rfl, rfl, rfl, by decide +kernel, rfl, by decide +kernel, by decide +kernel⟩
  have b : Binds K fd ["self", "index"] [] := Fd.bindsN fun _ _ _ _ _ _ us hl => match us, hl with | [_, _], _ => rfl
  refine ⟨oe, (show xfl "BadSpan" = (["index"] : List Str) by decide +kernel), (T.glo 77), _, fd, "self", "index", me.at_, beq_iff_eq.mp me.fn, ?_, b⟩
  exact ok_x1 Fd Sc oe (noB_ok (T.says.fact 80 (q := fun K => noB K (He.ga K "BadSpan") "index"))) (by first | exact Or.inl rfl | exact Or.inr (Or.inl rfl)) (by first | exact Or.inl rfl | exact Or.inr (Or.inl rfl))
theorem x1_BadNumber (T : Txt K mg) : X1 (Gm K w) P w mg base "BadNumber" "value" := by
  obtain ⟨fd, Fd⟩ := T.says.def_ 43
  have oe := oexB_ok (T.says.fact 82 (q := fun K => oexB K (He.ga K "BadNumber")))
  have me := He.meth_ok (x := "BadNumber") (m := "__init__") (T.says.fact 83)
  have Sc : FnScope ["self", "value"] ["self", "value"] (defScope (inClass (top 4) 0)) := ⟨rfl, rfl, rfl, by decide +kernel, rfl, by decide +kernel, by decide +kernel⟩
  have b : Binds K fd ["self", "value"] [] := Fd.bindsN fun _ _ _ _ _ _ us hl => match us, hl with | [_, _], _ => rfl
  refine ⟨oe, (show xfl "BadNumber" = (["value"] : List Str) by decide +kernel), (T.glo 81), _, fd, "self", "value", me.at_, beq_iff_eq.mp me.fn, ?_, b⟩
  exact ok_x1 Fd Sc oe (noB_ok (T.says.fact 84 (q := fun K => noB K (He.ga K "BadNumber") "value"))) (by first | exact Or.inl rfl | exact Or.inr (Or.inl rfl)) (by first | exact Or.inl rfl | exact Or.inr (Or.inl rfl))
theorem x0_BadLikeness (T : Txt K mg) : X0 (Gm K w) P w mg base "BadLikeness" := by
  obtain ⟨fd, Fd⟩ := T.says.def_ 44
  have oe := oexB_ok (T.says.fact 85 (q := fun K => oexB K (He.ga K "BadLikeness")))
  have me := He.meth_ok (x := "BadLikeness") (m := "__init__") (T.says.fact 86)
  have Sc : FnScope ["self"] ["self"] (defScope (inClass (top 8) 0)) := ⟨rfl, rfl, rfl, by decide +kernel, rfl, by decide +kernel, by decide +kernel⟩
  have b : Binds K fd ["self"] [] := Fd.bindsN fun _ _ _ _ _ _ us hl => match us, hl with | [_], _ => rfl
  refine ⟨oe, (T.glo 58), _, fd, "self", me.at_, beq_iff_eq.mp me.fn, ?_, b⟩
  exact ok_x0 Fd Sc
abbrev SbP (K : PySem.W.Frag) (z : Str × Str × Bool) : Prop := PySem.W.exmOne (Gm K w).K (.ref ((Gm K w).c z.1)) (.ref ((Gm K w).c z.2.1)) = some z.2.2
theorem Txt.sb (T : Txt K mg) (h : Str) : ∀ E b, sb h E = some b → PySem.W.exmOne (Gm K w).K (.ref ((Gm K w).c E)) (.ref ((Gm K w).c h)) = some b := fun E b e => tabS_ok (P := fun C n b => SbP K (C, n, b)) (all_cons (p := SbP K) (He.exm_ok (T.says.fact 88)) (all_cons (p := SbP K) (He.exm_ok (T.says.fact 93)) (all_cons (p := SbP K) (He.exm_ok (T.says.fact 98)) (all_cons (p := SbP K) (He.exm_ok (T.says.fact 103)) (all_cons (p := SbP K) (He.exm_ok (T.says.fact 108)) (by simp)))))) e
abbrev XkP (K : PySem.W.Frag) (z : Str × CK × Bool) : Prop := L2.ExcC (Gm K w).K ((Gm K w).c z.1) ∧ PySem.W.kitOne (Gm K w).K (.ref ((Gm K w).c z.1)) (z.2.1.u (Gm K w)) = some z.2.2
theorem Txt.xk (T : Txt K mg) (U : CK) : ∀ E b, xk E U = some b → L2.ExcC (Gm K w).K ((Gm K w).c E) ∧ PySem.W.kitOne (Gm K w).K (.ref ((Gm K w).c E)) (U.u (Gm K w)) = some b := fun E b e => tabX_ok (P := fun C U b => XkP K (C, U, b)) (all_cons (p := XkP K) ⟨excB_ok (T.says.fact 87 (q := fun K => excB K (He.ga K "BadBeat"))), kitB_ok (show kitB (Gm K w) "BadBeat" (.own "BadLot") false = true from T.says.fact 89 (q := fun K => kitB (G0 K) "BadBeat" (.own "BadLot") false))⟩ (all_cons (p := XkP K) ⟨excB_ok (T.says.fact 87 (q := fun K => excB K (He.ga K "BadBeat"))), kitB_ok (show kitB (Gm K w) "BadBeat" (.own "SpansError") true = true from T.says.fact 91 (q := fun K => kitB (G0 K) "BadBeat" (.own "SpansError") true))⟩ (all_cons (p := XkP K) ⟨excB_ok (T.says.fact 87 (q := fun K => excB K (He.ga K "BadBeat"))), kitB_ok (show kitB (Gm K w) "BadBeat" (.bi "ValueError") true = true from T.says.fact 90 (q := fun K => kitB (G0 K) "BadBeat" (.bi "ValueError") true))⟩ (all_cons (p := XkP K) ⟨excB_ok (T.says.fact 92 (q := fun K => excB K (He.ga K "BadEvents"))), kitB_ok (show kitB (Gm K w) "BadEvents" (.own "BadLot") false = true from T.says.fact 94 (q := fun K => kitB (G0 K) "BadEvents" (.own "BadLot") false))⟩ (all_cons (p := XkP K) ⟨excB_ok (T.says.fact 92 (q := fun K => excB K (He.ga K "BadEvents"))), kitB_ok (show kitB (Gm K w) "BadEvents" (.own "SpansError") true = true from T.says.fact 96 (q := fun K => kitB (G0 K) "BadEvents" (.own "SpansError") true))⟩ (all_cons (p := XkP K) ⟨excB_ok (T.says.fact 92 (q := fun K => excB K (He.ga K "BadEvents"))), kitB_ok (show kitB (Gm K w) "BadEvents" (.bi "ValueError") true = true from T.says.fact 95 (q := fun K => kitB (G0 K) "BadEvents" (.bi "ValueError") true))⟩ (all_cons (p := XkP K) ⟨excB_ok (T.says.fact 97 (q := fun K => excB K (He.ga K "BadSpan"))), kitB_ok (show kitB (Gm K w) "BadSpan" (.own "BadLot") false = true from T.says.fact 99 (q := fun K => kitB (G0 K) "BadSpan" (.own "BadLot") false))⟩ (all_cons (p := XkP K) ⟨excB_ok (T.says.fact 97 (q := fun K => excB K (He.ga K "BadSpan"))), kitB_ok (show kitB (Gm K w) "BadSpan" (.own "SpansError") true = true from T.says.fact 101 (q := fun K => kitB (G0 K) "BadSpan" (.own "SpansError") true))⟩ (all_cons (p := XkP K) ⟨excB_ok (T.says.fact 97 (q := fun K => excB K (He.ga K "BadSpan"))), kitB_ok (show kitB (Gm K w) "BadSpan" (.bi "ValueError") true = true from T.says.fact 100 (q := fun K => kitB (G0 K) "BadSpan" (.bi "ValueError") true))⟩ (all_cons (p := XkP K) ⟨excB_ok (T.says.fact 102 (q := fun K => excB K (He.ga K "BadNumber"))), kitB_ok (show kitB (Gm K w) "BadNumber" (.own "BadLot") false = true from T.says.fact 104 (q := fun K => kitB (G0 K) "BadNumber" (.own "BadLot") false))⟩ (all_cons (p := XkP K) ⟨excB_ok (T.says.fact 102 (q := fun K => excB K (He.ga K "BadNumber"))), kitB_ok (show kitB (Gm K w) "BadNumber" (.own "SpansError") true = true from T.says.fact 106 (q := fun K => kitB (G0 K) "BadNumber" (.own "SpansError") true))⟩ (all_cons (p := XkP K) ⟨excB_ok (T.says.fact 102 (q := fun K => excB K (He.ga K "BadNumber"))), kitB_ok (show kitB (Gm K w) "BadNumber" (.bi "ValueError") true = true from T.says.fact 105 (q := fun K => kitB (G0 K) "BadNumber" (.bi "ValueError") true))⟩ (all_cons (p := XkP K) ⟨excB_ok (T.says.fact 107 (q := fun K => excB K (He.ga K "BadLikeness"))), kitB_ok (show kitB (Gm K w) "BadLikeness" (.own "BadLot") false = true from T.says.fact 109 (q := fun K => kitB (G0 K) "BadLikeness" (.own "BadLot") false))⟩ (all_cons (p := XkP K) ⟨excB_ok (T.says.fact 107 (q := fun K => excB K (He.ga K "BadLikeness"))), kitB_ok (show kitB (Gm K w) "BadLikeness" (.own "SpansError") true = true from T.says.fact 111 (q := fun K => kitB (G0 K) "BadLikeness" (.own "SpansError") true))⟩ (all_cons (p := XkP K) ⟨excB_ok (T.says.fact 107 (q := fun K => excB K (He.ga K "BadLikeness"))), kitB_ok (show kitB (Gm K w) "BadLikeness" (.bi "ValueError") true = true from T.says.fact 110 (q := fun K => kitB (G0 K) "BadLikeness" (.bi "ValueError") true))⟩ (by simp)))))))))))))))) e
/-! ### each def keeps its mirror's promise -/
theorem sc__law_source : FnScope ["_law_script", "_law_k", "_law_fold", "_law_item", "_law_cell"] ["_law_script", "_law_k"] (defScope (top 38)) := ⟨rfl, rfl, rfl, by decide +kernel, rfl, by decide +kernel, by decide +kernel⟩
theorem ok__law_source (T : Txt K mg) : ∃ fd, FnOk P w K mg base (L2.CX P w) 1 (He.ga K "_law_source") fd ["_law_script", "_law_k"] (spOf (Gm K w) 2 f__law_source) ∧ Binds K fd ["_law_script", "_law_k"] [] ∧ PySem.W.keepIn K (.ref (He.ga K "_law_source")) = true := by
  obtain ⟨fd, Fd⟩ := T.says.def_ 0
  refine ⟨fd, ?_, Fd.bindsN fun _ _ _ _ _ _ us hl => match us, hl with | [_, _], _ => rfl, Fd.kp⟩
  refine ok_def (Γ := Gm K w) (n := 5) (m := b__law_source) rfl Fd sc__law_source rfl fun cdv A outer s H E0 hr => ?_
  unfold b__law_source
  exact (qs_cons (qs_set (i := 2) sc__law_source.nd q_int)
      (qs_cons (qs_for (passes_of rfl) rfl (qi_seq rfl (q_sl rfl (q_var 0) qo_none (qo_some q_int))) (qg_name (i := 3) sc__law_source.nd) (qs_one (qs_set (i := 2) sc__law_source.nd (q_op op_modN ok_mod (q_callTy call_int1 ok_int (T.free 0) (by decide +kernel) (qa_cons (q_op or_add ok_add (q_op or_add ok_add (q_op or_mul ok_mul (q_var 2) q_int) (q_op op_modN ok_mod (q_callTy call_int1 ok_int (T.free 0) (by decide +kernel) (qa_cons (q_var 3) qa_nil)) q_int)) q_int) qa_nil)) q_int))))
      (qs_cons (qs_set (i := 4) sc__law_source.nd (q_ifE (qt_cmp op_lt ok_cmp (q_var 1) (q_callB cr_len ok_len (T.free 1) (by decide +kernel) (qa_cons (q_var 0) qa_nil)) (nomark _)) (q_callTy call_int1 ok_int (T.free 0) (by decide +kernel) (qa_cons (q_ix ix_seq ok_ix (q_var 0) (q_var 1) (fun _ _ => rfl)) qa_nil)) q_int))
      (qs_one (qs_ret (q_lst (qa_cons (q_ifE (qt_cmp op_ge ok_cmp (q_var 4) (q_op op_pow ok_pow q_int q_int) (nomark _)) (q_var 4) q_int) (qa_cons (q_op op_modN ok_mod (q_callTy call_int1 ok_int (T.free 0) (by decide +kernel) (qa_cons (q_var 4) qa_nil)) q_int) (qa_cons (q_var 2) (qa_cons (q_op or_add ok_add (q_var 1) q_int) (qa_cons q_int qa_nil)))))))))))
theorem sc__law_draw : FnScope ["_law_source_here", "_law_many", "_law_got", "_law_number"] ["_law_source_here", "_law_many"] (defScope (top 39)) := ⟨rfl, rfl, rfl, by decide +kernel, rfl, by decide +kernel, by decide +kernel⟩
theorem ok__law_draw (T : Txt K mg) : ∃ fd, FnOk P w K mg base (L2.CX P w) 1 (He.ga K "_law_draw") fd ["_law_source_here", "_law_many"] (spOf (Gm K w) 2 f__law_draw) ∧ Binds K fd ["_law_source_here", "_law_many"] [] ∧ PySem.W.keepIn K (.ref (He.ga K "_law_draw")) = true := by
  obtain ⟨fd, Fd⟩ := T.says.def_ 1
  refine ⟨fd, ?_, Fd.bindsN fun _ _ _ _ _ _ us hl => match us, hl with | [_, _], _ => rfl, Fd.kp⟩
  refine ok_def (Γ := Gm K w) (n := 4) (m := b__law_draw) rfl Fd sc__law_draw rfl fun cdv A outer s H E0 hr => ?_
  unfold b__law_draw
  exact (qs_cons (qs_if (qt_cmp op_gt ok_cmp (q_ix ix_seq ok_ix (q_var 0) q_int (fun _ _ => rfl)) q_int (nomark _)) (qs_cons (qs_set (i := 2) sc__law_draw.nd (q_op op_modN ok_mod (q_callTy call_int1 ok_int (T.free 0) (by decide +kernel) (qa_cons (q_ix ix_seq ok_ix (q_var 0) q_int (fun _ _ => rfl)) qa_nil)) (q_var 1)))
      (qs_cons (qs_asg (q_op op_fdivA ok_div (q_ix ix_seq ok_ix (q_var 0) q_int (fun _ _ => rfl)) (q_var 1)) (qg_sub (W := WF E0) (q_var 0) q_int))
      (qs_one (qs_ret (q_var 2))))) qs_nil)
      (qs_cons (qs_asg (q_op or_add ok_add (q_ix ix_seq ok_ix (q_var 0) q_int (fun _ _ => rfl)) q_int) (qg_sub (W := WF E0) (q_var 0) q_int))
      (qs_cons (qs_set (i := 3) sc__law_draw.nd (q_op op_modN ok_mod (q_callTy call_int1 ok_int (T.free 0) (by decide +kernel) (qa_cons (q_op or_mul ok_mul (q_op or_add ok_add (q_op or_add ok_add (q_op or_add ok_add (q_ix ix_seq ok_ix (q_var 0) q_int (fun _ _ => rfl)) (q_ix ix_seq ok_ix (q_var 0) q_int (fun _ _ => rfl))) (q_op or_mul ok_mul q_int (q_ix ix_seq ok_ix (q_var 0) q_int (fun _ _ => rfl)))) (q_op or_mul ok_mul q_int (q_ix ix_seq ok_ix (q_var 0) q_int (fun _ _ => rfl)))) q_int) qa_nil)) q_int))
      (qs_cons (qs_set (i := 3) sc__law_draw.nd (q_op op_modN ok_mod (q_callTy call_int1 ok_int (T.free 0) (by decide +kernel) (qa_cons (q_op or_mul ok_mul (q_var 3) (q_op or_add ok_add (q_op op_fdivA ok_div (q_var 3) q_int) q_int)) qa_nil)) q_int))
      (qs_cons (qs_set (i := 3) sc__law_draw.nd (q_op op_modN ok_mod (q_callTy call_int1 ok_int (T.free 0) (by decide +kernel) (qa_cons (q_op or_mul ok_mul (q_var 3) (q_op or_add ok_add (q_op op_fdivA ok_div (q_var 3) q_int) q_int)) qa_nil)) q_int))
      (qs_one (qs_ret (q_op op_modN ok_mod (q_callTy call_int1 ok_int (T.free 0) (by decide +kernel) (qa_cons (q_op op_fdivA ok_div (q_var 3) q_int) qa_nil)) (q_var 1)))))))))
theorem sc__law_beat : FnScope ["_law_source_here", "_law_pick", "_law_size"] ["_law_source_here"] (defScope (top 40)) := ⟨rfl, rfl, rfl, by decide +kernel, rfl, by decide +kernel, by decide +kernel⟩
theorem ok__law_beat (T : Txt K mg) : ∃ fd, FnOk P w K mg base (L2.CX P w) 2 (He.ga K "_law_beat") fd ["_law_source_here"] (spOf (Gm K w) 1 f__law_beat) ∧ Binds K fd ["_law_source_here"] [] ∧ PySem.W.keepIn K (.ref (He.ga K "_law_beat")) = true := by
  obtain ⟨fd, Fd⟩ := T.says.def_ 2
  obtain ⟨d__law_draw, G__law_draw, b__law_draw, k__law_draw⟩ := ok__law_draw (P := P) (w := w) (base := base) T
  refine ⟨fd, ?_, Fd.bindsN fun _ _ _ _ _ _ us hl => match us, hl with | [_], _ => rfl, Fd.kp⟩
  refine ok_def (Γ := Gm K w) (n := 3) (m := b__law_beat) rfl Fd sc__law_beat rfl fun cdv A outer s H E0 hr => ?_
  unfold b__law_beat
  exact (qs_cons (qs_set (i := 1) sc__law_beat.nd (q_call G__law_draw (hr.mono (by decide : 1 ≤ 1)) (T.glo 2) k__law_draw b__law_draw (takes_of rfl rfl rfl rfl) (qa_cons (q_var 0) (qa_cons q_int qa_nil))))
      (qs_cons (qs_set (i := 2) sc__law_beat.nd (q_call G__law_draw (hr.mono (by decide : 1 ≤ 1)) (T.glo 2) k__law_draw b__law_draw (takes_of rfl rfl rfl rfl) (qa_cons (q_var 0) (qa_cons q_int qa_nil))))
      (qs_one (qs_ret (q_ix ix_seq ok_ix (q_tup (qa_cons (q_op op_sub ok_sub q_int (q_var 2)) (qa_cons (q_op or_add ok_add q_int (q_op op_modN ok_mod (q_callTy call_int1 ok_int (T.free 0) (by decide +kernel) (qa_cons (q_var 2) qa_nil)) q_int)) (qa_cons (q_op or_add ok_add q_int (q_op or_mul ok_mul q_int (q_op op_modN ok_mod (q_callTy call_int1 ok_int (T.free 0) (by decide +kernel) (qa_cons (q_var 2) qa_nil)) q_int))) (qa_cons (q_op or_add ok_add q_int (q_var 2)) (qa_cons (q_op or_add ok_add q_int (q_var 2)) (qa_cons (q_op or_add ok_add q_int (q_var 2)) qa_nil))))))) (q_var 1) (fun _ _ => rfl))))))
theorem sc__law_perm : FnScope ["_law_source_here", "_law_many", "_law_left", "_law_found", "_law_k"] ["_law_source_here", "_law_many"] (defScope (top 41)) := ⟨rfl, rfl, rfl, by decide +kernel, rfl, by decide +kernel, by decide +kernel⟩
theorem ok__law_perm (T : Txt K mg) : ∃ fd, FnOk P w K mg base (L2.CX P w) 2 (He.ga K "_law_perm") fd ["_law_source_here", "_law_many"] (spOf (Gm K w) 2 f__law_perm) ∧ Binds K fd ["_law_source_here", "_law_many"] [] ∧ PySem.W.keepIn K (.ref (He.ga K "_law_perm")) = true := by
  obtain ⟨fd, Fd⟩ := T.says.def_ 3
  obtain ⟨d__law_draw, G__law_draw, b__law_draw, k__law_draw⟩ := ok__law_draw (P := P) (w := w) (base := base) T
  refine ⟨fd, ?_, Fd.bindsN fun _ _ _ _ _ _ us hl => match us, hl with | [_, _], _ => rfl, Fd.kp⟩
  refine ok_def (Γ := Gm K w) (n := 5) (m := b__law_perm) rfl Fd sc__law_perm rfl fun cdv A outer s H E0 hr => ?_
  unfold b__law_perm
  exact (qs_cons (qs_set (i := 2) sc__law_perm.nd (q_listRg1 rfl (T.free 3) (T.free 4) (q_var 1)))
      (qs_cons (qs_set (i := 3) sc__law_perm.nd (q_lst qa_nil))
      (qs_cons (qs_for (passes_of rfl) rfl (qi_rng1 (T.free 4) (qa_cons (q_var 1) qa_nil)) (qg_name (i := 4) sc__law_perm.nd) (qs_one (qs_expr (q_bm rfl ok_append PySem.F.plainAttrs_list PySem.F.slot_list_append PySem.F.type_list_append mt_append (q_var 3) (qa_cons (q_bm rfl ok_popAt PySem.F.plainAttrs_list PySem.F.slot_list_pop PySem.F.type_list_pop mt_popAt (q_var 2) (qa_cons (q_call G__law_draw (hr.mono (by decide : 1 ≤ 1)) (T.glo 2) k__law_draw b__law_draw (takes_of rfl rfl rfl rfl) (qa_cons (q_var 0) (qa_cons (q_callB cr_len ok_len (T.free 1) (by decide +kernel) (qa_cons (q_var 2) qa_nil)) qa_nil))) qa_nil)) qa_nil)))))
      (qs_one (qs_ret (q_var 3))))))
theorem sc_is_integer : FnScope ["thing"] ["thing"] (defScope (top 11)) := ⟨rfl, rfl, rfl, by decide +kernel, rfl, by decide +kernel, by decide +kernel⟩
theorem ok_is_integer (T : Txt K mg) : ∃ fd, FnOk P w K mg base (L2.CX P w) 1 (He.ga K "is_integer") fd ["thing"] (spOf (Gm K w) 1 f_is_integer) ∧ Binds K fd ["thing"] [] ∧ PySem.W.keepIn K (.ref (He.ga K "is_integer")) = true := by
  obtain ⟨fd, Fd⟩ := T.says.def_ 4
  refine ⟨fd, ?_, Fd.bindsN fun _ _ _ _ _ _ us hl => match us, hl with | [_], _ => rfl, Fd.kp⟩
  refine ok_def (Γ := Gm K w) (n := 1) (m := b_is_integer) rfl Fd sc_is_integer rfl fun cdv A outer s H E0 hr => ?_
  unfold b_is_integer
  exact (qs_one (qs_ret (q_and (q_isi (T := (.bi "int")) rfl T.ins (T.is_ 8) (T.free 7) (q_var 0) (pe_bltn (v := .ty "int") rfl (T.free 0) (by decide +kernel) rfl)) (q_one (q_not (q_isi (T := (.bi "bool")) rfl T.ins (T.is_ 6) (T.free 7) (q_var 0) (pe_bltn (v := .ty "bool") rfl (T.free 5) (by decide +kernel) rfl)))))))
theorem sc_is_number : FnScope ["thing"] ["thing"] (defScope (top 13)) := ⟨rfl, rfl, rfl, by decide +kernel, rfl, by decide +kernel, by decide +kernel⟩
theorem ok_is_number (T : Txt K mg) : ∃ fd, FnOk P w K mg base (L2.CX P w) 2 (He.ga K "is_number") fd ["thing"] (spOf (Gm K w) 1 f_is_number) ∧ Binds K fd ["thing"] [] ∧ PySem.W.keepIn K (.ref (He.ga K "is_number")) = true := by
  obtain ⟨fd, Fd⟩ := T.says.def_ 5
  obtain ⟨d_is_integer, G_is_integer, b_is_integer, k_is_integer⟩ := ok_is_integer (P := P) (w := w) (base := base) T
  refine ⟨fd, ?_, Fd.bindsN fun _ _ _ _ _ _ us hl => match us, hl with | [_], _ => rfl, Fd.kp⟩
  refine ok_def (Γ := Gm K w) (n := 1) (m := b_is_number) rfl Fd sc_is_number rfl fun cdv A outer s H E0 hr => ?_
  unfold b_is_number
  exact (qs_one (qs_ret (q_or (q_call G_is_integer (hr.mono (by decide : 1 ≤ 1)) (T.glo 11) k_is_integer b_is_integer (takes_of rfl rfl rfl rfl) (qa_cons (q_var 0) qa_nil)) (q_one (q_isi (T := (.own "Ratio")) rfl T.ins (T.is_ 10) (T.free 7) (q_var 0) (pe_glob (v := .ref (He.ga K "Ratio")) rfl (T.glo 9) rfl))))))
theorem sc_top_of : FnScope ["number"] ["number"] (defScope (top 14)) := ⟨rfl, rfl, rfl, by decide +kernel, rfl, by decide +kernel, by decide +kernel⟩
theorem ok_top_of (T : Txt K mg) : ∃ fd, FnOk P w K mg base (L2.CX P w) 1 (He.ga K "top_of") fd ["number"] (spOf (Gm K w) 1 f_top_of) ∧ Binds K fd ["number"] [] ∧ PySem.W.keepIn K (.ref (He.ga K "top_of")) = true := by
  obtain ⟨fd, Fd⟩ := T.says.def_ 6
  refine ⟨fd, ?_, Fd.bindsN fun _ _ _ _ _ _ us hl => match us, hl with | [_], _ => rfl, Fd.kp⟩
  refine ok_def (Γ := Gm K w) (n := 1) (m := b_top_of) rfl Fd sc_top_of rfl fun cdv A outer s H E0 hr => ?_
  unfold b_top_of
  exact (qs_one (qs_ret (q_ifE (qt_val (q_isi (T := (.own "Ratio")) rfl T.ins (T.is_ 10) (T.free 7) (q_var 0) (pe_glob (v := .ref (He.ga K "Ratio")) rfl (T.glo 9) rfl))) (q_fld T.pl rfl (q_var 0)) (q_var 0))))
theorem sc_bottom_of : FnScope ["number"] ["number"] (defScope (top 15)) := ⟨rfl, rfl, rfl, by decide +kernel, rfl, by decide +kernel, by decide +kernel⟩
theorem ok_bottom_of (T : Txt K mg) : ∃ fd, FnOk P w K mg base (L2.CX P w) 1 (He.ga K "bottom_of") fd ["number"] (spOf (Gm K w) 1 f_bottom_of) ∧ Binds K fd ["number"] [] ∧ PySem.W.keepIn K (.ref (He.ga K "bottom_of")) = true := by
  obtain ⟨fd, Fd⟩ := T.says.def_ 7
  refine ⟨fd, ?_, Fd.bindsN fun _ _ _ _ _ _ us hl => match us, hl with | [_], _ => rfl, Fd.kp⟩
  refine ok_def (Γ := Gm K w) (n := 1) (m := b_bottom_of) rfl Fd sc_bottom_of rfl fun cdv A outer s H E0 hr => ?_
  unfold b_bottom_of
  exact (qs_one (qs_ret (q_ifE (qt_val (q_isi (T := (.own "Ratio")) rfl T.ins (T.is_ 10) (T.free 7) (q_var 0) (pe_glob (v := .ref (He.ga K "Ratio")) rfl (T.glo 9) rfl))) (q_fld T.pl rfl (q_var 0)) q_int)))
theorem sc_Ratio___eq__ : FnScope ["self", "other"] ["self", "other"] (defScope (inClass (top 16) 8)) := ⟨rfl, rfl, rfl, by decide +kernel, rfl, by decide +kernel, by decide +kernel⟩
theorem ok_Ratio___eq__ (T : Txt K mg) : ∃ fd, FnOk P w K mg base (L2.CX P w) 3 (He.ma K (He.ga K "Ratio") "__eq__") fd ["self", "other"] (spOf (Gm K w) 2 f_Ratio___eq__) ∧ Binds K fd ["self", "other"] [] ∧ PySem.W.keepIn K (.ref (He.ma K (He.ga K "Ratio") "__eq__")) = true := by
  obtain ⟨fd, Fd⟩ := T.says.def_ 8
  obtain ⟨d_is_number, G_is_number, b_is_number, k_is_number⟩ := ok_is_number (P := P) (w := w) (base := base) T
  obtain ⟨d_bottom_of, G_bottom_of, b_bottom_of, k_bottom_of⟩ := ok_bottom_of (P := P) (w := w) (base := base) T
  obtain ⟨d_top_of, G_top_of, b_top_of, k_top_of⟩ := ok_top_of (P := P) (w := w) (base := base) T
  refine ⟨fd, ?_, Fd.bindsN fun _ _ _ _ _ _ us hl => match us, hl with | [_, _], _ => rfl, Fd.kp⟩
  refine ok_def (Γ := Gm K w) (n := 2) (m := b_Ratio___eq__) rfl Fd sc_Ratio___eq__ rfl fun cdv A outer s H E0 hr => ?_
  unfold b_Ratio___eq__
  exact (qs_cons (qs_if (qt_not (qt_val (q_call G_is_number (hr.mono (by decide : 2 ≤ 2)) (T.glo 12) k_is_number b_is_number (takes_of rfl rfl rfl rfl) (qa_cons (q_var 1) qa_nil)))) (qs_one (qs_ret q_bl)) qs_nil)
      (qs_one (qs_ret (q_and (q_cmp (or_eq rfl hr oe0_no) (ok_eq T.ins) (q_fld T.pl rfl (q_var 0)) (q_call G_top_of (hr.mono (by decide : 1 ≤ 2)) (T.glo 14) k_top_of b_top_of (takes_of rfl rfl rfl rfl) (qa_cons (q_var 1) qa_nil)) (nomark _)) (q_one (q_cmp (or_eq rfl hr oe0_no) (ok_eq T.ins) (q_fld T.pl rfl (q_var 0)) (q_call G_bottom_of (hr.mono (by decide : 1 ≤ 2)) (T.glo 13) k_bottom_of b_bottom_of (takes_of rfl rfl rfl rfl) (qa_cons (q_var 1) qa_nil)) (nomark _)))))))
theorem sc_Net___eq__ : FnScope ["self", "other"] ["self", "other"] (defScope (inClass (top 23) 1)) := ⟨rfl, rfl, rfl, by decide +kernel, rfl, by decide +kernel, by decide +kernel⟩
theorem ok_Net___eq__ (T : Txt K mg) : ∃ fd, FnOk P w K mg base (L2.CX P w) 1 (He.ma K (He.ga K "Net") "__eq__") fd ["self", "other"] (spOf (Gm K w) 2 f_Net___eq__) ∧ Binds K fd ["self", "other"] [] ∧ PySem.W.keepIn K (.ref (He.ma K (He.ga K "Net") "__eq__")) = true := by
  obtain ⟨fd, Fd⟩ := T.says.def_ 9
  refine ⟨fd, ?_, Fd.bindsN fun _ _ _ _ _ _ us hl => match us, hl with | [_, _], _ => rfl, Fd.kp⟩
  refine ok_def (Γ := Gm K w) (n := 2) (m := b_Net___eq__) rfl Fd sc_Net___eq__ rfl fun cdv A outer s H E0 hr => ?_
  unfold b_Net___eq__
  exact (qs_cons (qs_if (qt_not (qt_val (q_isi (T := (.own "Net")) rfl T.ins (T.is_ 16) (T.free 7) (q_var 1) (pe_glob (v := .ref (He.ga K "Net")) rfl (T.glo 15) rfl)))) (qs_one (qs_ret q_bl)) qs_nil)
      (qs_one (qs_ret (q_and (q_cmp (or_eq rfl hr oe0_no) (ok_eq T.ins) (q_fld T.pl rfl (q_var 0)) (q_fld T.pl rfl (q_var 1)) (nomark _)) (q_and (q_cmp (or_eq rfl hr oe0_no) (ok_eq T.ins) (q_fld T.pl rfl (q_var 0)) (q_fld T.pl rfl (q_var 1)) (nomark _)) (q_one (q_cmp (or_eq rfl hr oe0_no) (ok_eq T.ins) (q_fld T.pl rfl (q_var 0)) (q_fld T.pl rfl (q_var 1)) (nomark _))))))))
theorem eqc (T : Txt K mg) : ∀ C m, oe C = some m → EqC (Gm K w) P w mg base cs 3 C m := by
  intro C m e
  unfold oe at e
  split at e
  · rename_i c; subst c; cases e
    obtain ⟨fd, G1, b1, _⟩ := ok_Ratio___eq__ (P := P) (w := w) (base := base) T
    have me := He.meth_ok (x := "Ratio") (m := "__eq__") (T.says.fact 119)
    exact ⟨⟨_, fd, _, me.at_, me.fn, G1.mono (by decide), b1⟩, nfB_ok (Γ := Gm K w) (T.says.fact 120 (q := fun K => nfB (G0 K) cs "Ratio"))⟩
  split at e
  · rename_i c; subst c; cases e
    obtain ⟨fd, G1, b1, _⟩ := ok_Net___eq__ (P := P) (w := w) (base := base) T
    have me := He.meth_ok (x := "Net") (m := "__eq__") (T.says.fact 122)
    exact ⟨⟨_, fd, _, me.at_, me.fn, G1.mono (by decide), b1⟩, nfB_ok (Γ := Gm K w) (T.says.fact 123 (q := fun K => nfB (G0 K) cs "Net"))⟩
  cases e
theorem sc__law_even_tops : FnScope ["_law_source_here", "_law_shape", "_law_kinds", "_law_flip", "_law_whole_beat", "_law_copies", "_law_size", "_law_hub", "_law_swaps", "_law_mirrors", "_law_times", "_law_middle", "_law_half", "_law_firsts", "_law_k", "_law_step", "_law_found", "_law_number"] ["_law_source_here", "_law_shape", "_law_kinds", "_law_flip", "_law_whole_beat"] (defScope (top 48)) := ⟨rfl, rfl, rfl, by decide +kernel, rfl, by decide +kernel, by decide +kernel⟩
theorem ok__law_even_tops (T : Txt K mg) : ∃ fd, FnOk P w K mg base (L2.CX P w) 4 (He.ga K "_law_even_tops") fd ["_law_source_here", "_law_shape", "_law_kinds", "_law_flip", "_law_whole_beat"] (spOf (Gm K w) 5 f__law_even_tops) ∧ Binds K fd ["_law_source_here", "_law_shape", "_law_kinds", "_law_flip", "_law_whole_beat"] [] ∧ PySem.W.keepIn K (.ref (He.ga K "_law_even_tops")) = true := by
  obtain ⟨fd, Fd⟩ := T.says.def_ 10
  obtain ⟨d__law_draw, G__law_draw, b__law_draw, k__law_draw⟩ := ok__law_draw (P := P) (w := w) (base := base) T
  refine ⟨fd, ?_, Fd.bindsN fun _ _ _ _ _ _ us hl => match us, hl with | [_, _, _, _, _], _ => rfl, Fd.kp⟩
  refine ok_def (Γ := Gm K w) (n := 18) (m := b__law_even_tops) rfl Fd sc__law_even_tops rfl fun cdv A outer s H E0 hr => ?_
  unfold b__law_even_tops
  exact (qs_cons (qs_asg (q_var 1) (qg_tup rfl rfl (qgs_cons (qg_name (i := 5) sc__law_even_tops.nd) (qgs_cons (qg_name (i := 6) sc__law_even_tops.nd) (qgs_cons (qg_name (i := 7) sc__law_even_tops.nd) qgs_nil)))))
      (qs_cons (qs_asg (q_var 2) (qg_tup rfl rfl (qgs_cons (qg_name (i := 8) sc__law_even_tops.nd) (qgs_cons (qg_name (i := 9) sc__law_even_tops.nd) qgs_nil))))
      (qs_cons (qs_set (i := 10) sc__law_even_tops.nd (q_call G__law_draw (hr.mono (by decide : 1 ≤ 3)) (T.glo 2) k__law_draw b__law_draw (takes_of rfl rfl rfl rfl) (qa_cons (q_var 0) (qa_cons (q_var 5) qa_nil))))
      (qs_cons (qs_if (PW.pt (qw_or (qt_cmp op_gt ok_cmp (q_var 7) q_int (nomark _)) (qw_or1 (PW.pt (qw_and (qt_val (q_var 8)) (qw_and1 (qt_cmp op_gt ok_cmp (q_var 5) q_int (nomark _)))))))) (qs_one (qs_set (i := 10) sc__law_even_tops.nd q_int)) qs_nil)
      (qs_cons (qs_set (i := 11) sc__law_even_tops.nd (q_call G__law_draw (hr.mono (by decide : 1 ≤ 3)) (T.glo 2) k__law_draw b__law_draw (takes_of rfl rfl rfl rfl) (qa_cons (q_var 0) (qa_cons (q_var 4) qa_nil))))
      (qs_cons (qs_set (i := 12) sc__law_even_tops.nd (q_op op_fdivA ok_div (q_var 4) q_int))
      (qs_cons (qs_set (i := 13) sc__law_even_tops.nd (q_lc (own := [("_law_k", 14)]) (g := (.nm 14)) rfl rfl sc__law_even_tops.nd (qi_rng1 (T.free 4) (qa_cons (q_var 6) qa_nil)) (blkOk_by (N := ["_law_source_here", "_law_shape", "_law_kinds", "_law_flip", "_law_whole_beat", "_law_copies", "_law_size", "_law_hub", "_law_swaps", "_law_mirrors", "_law_times", "_law_middle", "_law_half", "_law_firsts", "_law_k", "_law_step", "_law_found", "_law_number"]) (sc := defScope (top 48)) (by decide +kernel)) (fun _ _ _ _ _ => (qr_nm (Γ := Gm K w) (i := 14) sc__law_even_tops.nd)) (fun _ _ _ _ _ => qts_nil) (fun _ _ _ _ _ => (q_call G__law_draw (hr.mono (by decide : 1 ≤ 3)) (T.glo 2) k__law_draw b__law_draw takes0 (qa_cons (q_var 0) (qa_cons (q_var 4) qa_nil))))))
      (qs_cons (qs_for (passes_of rfl) rfl (qi_rng1 (T.free 4) (qa_cons (q_var 6) qa_nil)) (qg_name (i := 14) sc__law_even_tops.nd) (qs_cons (qs_if (PW.pt (qw_and (qt_val (q_var 9)) (qw_and1 (qt_cmp (or_eqZ rfl (hr.mono (by decide : 3 ≤ 3)) (eqc T)) (ok_eqZ T.ins) (q_ix ix_seq ok_ix (q_var 3) (q_var 14) (fun _ _ => rfl)) (q_var 14) (nomark _))))) (qs_one (qs_asg (q_op or_add ok_add (q_var 11) (q_op or_mul ok_mul (q_var 12) (q_call G__law_draw (hr.mono (by decide : 1 ≤ 3)) (T.glo 2) k__law_draw b__law_draw (takes_of rfl rfl rfl rfl) (qa_cons (q_var 0) (qa_cons q_int qa_nil))))) (qg_sub (W := WF E0) (q_var 13) (q_var 14)))) qs_nil)
      (qs_one (qs_if (PW.pt (qw_and (qt_val (q_var 9)) (qw_and1 (qt_cmp op_gt ok_cmp (q_ix ix_seq ok_ix (q_var 3) (q_var 14) (fun _ _ => rfl)) (q_var 14) (nomark _))))) (qs_one (qs_asg (q_op op_sub ok_sub (q_op or_mul ok_mul q_int (q_var 11)) (q_ix ix_seq ok_ix (q_var 13) (q_var 14) (fun _ _ => rfl))) (qg_sub (W := WF E0) (q_var 13) (q_ix ix_seq ok_ix (q_var 3) (q_var 14) (fun _ _ => rfl))))) qs_nil))))
      (qs_cons (qs_set (i := 15) sc__law_even_tops.nd (q_op or_mul ok_mul (q_var 10) (q_op op_fdivA ok_div (q_var 4) (q_var 5))))
      (qs_cons (qs_setLc (i := 16) (own := [("_law_k", 14)]) (g := (.nm 14)) rfl rfl sc__law_even_tops.nd rfl rfl (sw_true rfl rfl rfl (by decide +kernel)) (qi_rng1 (T.free 4) (qa_cons (q_var 7) qa_nil)) (blkOk_by (N := ["_law_source_here", "_law_shape", "_law_kinds", "_law_flip", "_law_whole_beat", "_law_copies", "_law_size", "_law_hub", "_law_swaps", "_law_mirrors", "_law_times", "_law_middle", "_law_half", "_law_firsts", "_law_k", "_law_step", "_law_found", "_law_number"]) (sc := defScope (top 48)) (by decide +kernel)) (fun _ _ _ _ _ => (qr_nm (Γ := Gm K w) (i := 14) sc__law_even_tops.nd)) (fun _ _ _ _ _ => qts_nil) (fun _ _ _ _ _ => (q_op or_add ok_add (q_var 11) (q_op or_mul ok_mul (q_op or_mul ok_mul (q_var 12) (q_callTy call_int1 ok_int (T.free 0) (by decide +kernel) (qa_cons (q_var 9) qa_nil))) (q_call G__law_draw (hr.mono (by decide : 1 ≤ 3)) (T.glo 2) k__law_draw b__law_draw takes0 (qa_cons (q_var 0) (qa_cons q_int qa_nil)))))))
      (qs_cons (qs_set (i := 16) sc__law_even_tops.nd (q_op or_add ok_add (q_var 16) (q_lc (own := [("_law_k", 14)]) (g := (.nm 14)) rfl rfl sc__law_even_tops.nd (qi_rng1 (T.free 4) (qa_cons (q_op or_mul ok_mul (q_var 5) (q_var 6)) qa_nil)) (blkOk_by (N := ["_law_source_here", "_law_shape", "_law_kinds", "_law_flip", "_law_whole_beat", "_law_copies", "_law_size", "_law_hub", "_law_swaps", "_law_mirrors", "_law_times", "_law_middle", "_law_half", "_law_firsts", "_law_k", "_law_step", "_law_found", "_law_number"]) (sc := defScope (top 48)) (by decide +kernel)) (fun _ _ _ _ _ => (qr_nm (Γ := Gm K w) (i := 14) sc__law_even_tops.nd)) (fun _ _ _ _ _ => qts_nil) (fun _ _ _ _ _ => (q_op or_add ok_add (q_ix ix_seq ok_ix (q_var 13) (q_op op_modN ok_mod (q_callTy call_int1 ok_int (T.free 0) (by decide +kernel) (qa_cons (q_var 14) qa_nil)) (q_var 6)) (fun _ _ => rfl)) (q_op or_mul ok_mul (q_op op_fdivA ok_div (q_var 14) (q_var 6)) (q_var 15)))))))
      (qs_one (qs_ret (q_lc (own := [("_law_number", 17)]) (g := (.nm 17)) rfl rfl sc__law_even_tops.nd (qi_seq rfl (q_var 16)) (blkOk_by (N := ["_law_source_here", "_law_shape", "_law_kinds", "_law_flip", "_law_whole_beat", "_law_copies", "_law_size", "_law_hub", "_law_swaps", "_law_mirrors", "_law_times", "_law_middle", "_law_half", "_law_firsts", "_law_k", "_law_step", "_law_found", "_law_number"]) (sc := defScope (top 48)) (by decide +kernel)) (fun _ _ _ _ _ => (qr_nm (Γ := Gm K w) (i := 17) sc__law_even_tops.nd)) (fun _ _ _ _ _ => qts_nil) (fun _ _ _ _ _ => (q_op op_modN ok_mod (q_callTy call_int1 ok_int (T.free 0) (by decide +kernel) (qa_cons (q_var 17) qa_nil)) (q_var 4)))))))))))))))))
theorem sc__law_raw : FnScope ["_law_names", "_law_shape", "_law_copies_to", "_law_parts_to", "_law_forth", "_law_copies", "_law_size", "_law_hub", "_law_raw_here", "_law_k", "_law_goes", "_law_there"] ["_law_names", "_law_shape", "_law_copies_to", "_law_parts_to", "_law_forth"] (defScope (top 47)) := ⟨rfl, rfl, rfl, by decide +kernel, rfl, by decide +kernel, by decide +kernel⟩
theorem ok__law_raw (T : Txt K mg) : ∃ fd, FnOk P w K mg base (L2.CX P w) 1 (He.ga K "_law_raw") fd ["_law_names", "_law_shape", "_law_copies_to", "_law_parts_to", "_law_forth"] (spOf (Gm K w) 5 f__law_raw) ∧ Binds K fd ["_law_names", "_law_shape", "_law_copies_to", "_law_parts_to", "_law_forth"] [] ∧ PySem.W.keepIn K (.ref (He.ga K "_law_raw")) = true := by
  obtain ⟨fd, Fd⟩ := T.says.def_ 11
  refine ⟨fd, ?_, Fd.bindsN fun _ _ _ _ _ _ us hl => match us, hl with | [_, _, _, _, _], _ => rfl, Fd.kp⟩
  refine ok_def (Γ := Gm K w) (n := 12) (m := b__law_raw) rfl Fd sc__law_raw rfl fun cdv A outer s H E0 hr => ?_
  unfold b__law_raw
  exact (qs_cons (qs_asg (q_var 1) (qg_tup rfl rfl (qgs_cons (qg_name (i := 5) sc__law_raw.nd) (qgs_cons (qg_name (i := 6) sc__law_raw.nd) (qgs_cons (qg_name (i := 7) sc__law_raw.nd) qgs_nil)))))
      (qs_cons (qs_set (i := 8) sc__law_raw.nd (q_listRg1 rfl (T.free 3) (T.free 4) (q_var 7)))
      (qs_cons (qs_set (i := 8) sc__law_raw.nd (q_op or_add ok_add (q_var 8) (q_lc (own := [("_law_k", 9)]) (g := (.nm 9)) rfl rfl sc__law_raw.nd (qi_rng1 (T.free 4) (qa_cons (q_op or_mul ok_mul (q_var 5) (q_var 6)) qa_nil)) (blkOk_by (N := ["_law_names", "_law_shape", "_law_copies_to", "_law_parts_to", "_law_forth", "_law_copies", "_law_size", "_law_hub", "_law_raw_here", "_law_k", "_law_goes", "_law_there"]) (sc := defScope (top 47)) (by decide +kernel)) (fun _ _ _ _ _ => (qr_nm (Γ := Gm K w) (i := 9) sc__law_raw.nd)) (fun _ _ _ _ _ => qts_nil) (fun _ _ _ _ _ => (q_op or_add ok_add (q_op or_add ok_add (q_var 7) (q_op or_mul ok_mul (q_ix ix_seq ok_ix (q_var 2) (q_op op_fdivA ok_div (q_var 9) (q_var 6)) (fun _ _ => rfl)) (q_var 6))) (q_ix ix_seq ok_ix (q_var 3) (q_op op_modN ok_mod (q_callTy call_int1 ok_int (T.free 0) (by decide +kernel) (qa_cons (q_var 9) qa_nil)) (q_var 6)) (fun _ _ => rfl)))))))
      (qs_cons (qs_set (i := 10) sc__law_raw.nd (q_op or_mul ok_mul (q_lst (qa_cons q_int qa_nil)) (q_callB cr_len ok_len (T.free 1) (by decide +kernel) (qa_cons (q_var 0) qa_nil))))
      (qs_cons (qs_for (passes_of rfl) rfl (qi_enuZ rfl (T.free 17) (q_var 8)) (qg_tup rfl rfl (qgs_cons (qg_name (i := 9) sc__law_raw.nd) (qgs_cons (qg_name (i := 11) sc__law_raw.nd) qgs_nil))) (qs_one (qs_asg (q_ix ix_seq ok_ix (q_var 0) (q_var 11) (fun _ _ => rfl)) (qg_sub (W := WF E0) (q_var 10) (q_ix ix_seq ok_ix (q_var 0) (q_var 9) (fun _ _ => rfl))))))
      (qs_one (qs_ret (q_tup (qa_cons (q_callTy call_tuple_of ok_tuple (T.free 18) (by decide +kernel) (qa_cons (q_var 10) qa_nil)) (qa_cons (q_var 4) qa_nil))))))))))
theorem sc__law_lines : FnScope ["_law_source_here", "_law_beat_here", "_law_most", "_law_whole", "_law_copies", "_law_hub", "_law_size", "_law_shape", "_law_kinds", "_law_plain_parts", "_law_flip", "_law_names", "_law_same_here", "_law_gens", "_law_k", "_law_parts", "_law_raw_here", "_law_pick", "_law_number", "_law_tops"] ["_law_source_here", "_law_beat_here", "_law_most", "_law_whole"] (defScope (top 49)) := ⟨rfl, rfl, rfl, by decide +kernel, rfl, by decide +kernel, by decide +kernel⟩
theorem ok__law_lines (T : Txt K mg) : ∃ fd, FnOk P w K mg base (L2.CX P w) 5 (He.ga K "_law_lines") fd ["_law_source_here", "_law_beat_here", "_law_most", "_law_whole"] (spOf (Gm K w) 4 f__law_lines) ∧ Binds K fd ["_law_source_here", "_law_beat_here", "_law_most", "_law_whole"] [] ∧ PySem.W.keepIn K (.ref (He.ga K "_law_lines")) = true := by
  obtain ⟨fd, Fd⟩ := T.says.def_ 12
  obtain ⟨d__law_draw, G__law_draw, b__law_draw, k__law_draw⟩ := ok__law_draw (P := P) (w := w) (base := base) T
  obtain ⟨d__law_perm, G__law_perm, b__law_perm, k__law_perm⟩ := ok__law_perm (P := P) (w := w) (base := base) T
  obtain ⟨d__law_raw, G__law_raw, b__law_raw, k__law_raw⟩ := ok__law_raw (P := P) (w := w) (base := base) T
  obtain ⟨d__law_even_tops, G__law_even_tops, b__law_even_tops, k__law_even_tops⟩ := ok__law_even_tops (P := P) (w := w) (base := base) T
  refine ⟨fd, ?_, Fd.bindsN fun _ _ _ _ _ _ us hl => match us, hl with | [_, _, _, _], _ => rfl, Fd.kp⟩
  refine ok_def (Γ := Gm K w) (n := 20) (m := b__law_lines) rfl Fd sc__law_lines rfl fun cdv A outer s H E0 hr => ?_
  unfold b__law_lines
  exact (qs_cons (qs_set (i := 4) sc__law_lines.nd (q_callB (call_min2 rfl) ok_min2 (T.free 19) (by decide +kernel) (qa_cons (q_op or_add ok_add q_int (q_call G__law_draw (hr.mono (by decide : 1 ≤ 4)) (T.glo 2) k__law_draw b__law_draw (takes_of rfl rfl rfl rfl) (qa_cons (q_var 0) (qa_cons q_int qa_nil)))) (qa_cons (q_var 2) qa_nil))))
      (qs_cons (qs_set (i := 5) sc__law_lines.nd (q_callTy call_int1 ok_int (T.free 0) (by decide +kernel) (qa_cons (q_and (q_cmp (or_eqZ rfl (hr.mono (by decide : 3 ≤ 4)) (eqc T)) (ok_eqZ T.ins) (q_call G__law_draw (hr.mono (by decide : 1 ≤ 4)) (T.glo 2) k__law_draw b__law_draw (takes_of rfl rfl rfl rfl) (qa_cons (q_var 0) (qa_cons q_int qa_nil))) q_int (nomark _)) (q_one (q_cmp op_lt ok_cmp (q_var 4) (q_var 2) (nomark _)))) qa_nil)))
      (qs_cons (qs_set (i := 6) sc__law_lines.nd (q_callB (call_max2 rfl) ok_max2 (T.free 20) (by decide +kernel) (qa_cons q_int (qa_cons (q_callB (call_min2 rfl) ok_min2 (T.free 19) (by decide +kernel) (qa_cons (q_op or_add ok_add (q_op or_add ok_add (q_call G__law_draw (hr.mono (by decide : 1 ≤ 4)) (T.glo 2) k__law_draw b__law_draw (takes_of rfl rfl rfl rfl) (qa_cons (q_var 0) (qa_cons q_int qa_nil))) q_int) (q_callTy call_int1 ok_int (T.free 0) (by decide +kernel) (qa_cons (q_cmp (or_eqZ rfl (hr.mono (by decide : 3 ≤ 4)) (eqc T)) (ok_eqZ T.ins) (q_var 4) q_int (nomark _)) qa_nil))) (qa_cons (q_op op_fdivA ok_div (q_op op_sub ok_sub (q_var 2) (q_var 5)) (q_var 4)) qa_nil))) qa_nil))))
      (qs_cons (qs_set (i := 7) sc__law_lines.nd (q_tup (qa_cons (q_var 4) (qa_cons (q_var 6) (qa_cons (q_var 5) qa_nil)))))
      (qs_cons (qs_set (i := 8) sc__law_lines.nd (q_tup (qa_cons (q_and (q_cmp (or_eqZ rfl (hr.mono (by decide : 3 ≤ 4)) (eqc T)) (ok_eqZ T.ins) (q_call G__law_draw (hr.mono (by decide : 1 ≤ 4)) (T.glo 2) k__law_draw b__law_draw (takes_of rfl rfl rfl rfl) (qa_cons (q_var 0) (qa_cons q_int qa_nil))) q_int (nomark _)) (q_one (q_cmp op_gt ok_cmp (q_var 4) q_int (nomark _)))) (qa_cons (q_cmp op_gt ok_cmp (q_call G__law_draw (hr.mono (by decide : 1 ≤ 4)) (T.glo 2) k__law_draw b__law_draw (takes_of rfl rfl rfl rfl) (qa_cons (q_var 0) (qa_cons q_int qa_nil))) q_int (nomark _)) qa_nil))))
      (qs_cons (qs_set (i := 9) sc__law_lines.nd (q_listRg1 rfl (T.free 3) (T.free 4) (q_var 6)))
      (qs_cons (qs_set (i := 10) sc__law_lines.nd (q_ifE (qt_cmp (or_eqZ rfl (hr.mono (by decide : 3 ≤ 4)) (eqc T)) (ok_eqZ T.ins) (q_call G__law_draw (hr.mono (by decide : 1 ≤ 4)) (T.glo 2) k__law_draw b__law_draw (takes_of rfl rfl rfl rfl) (qa_cons (q_var 0) (qa_cons q_int qa_nil))) q_int (nomark _)) (q_revA rfl (q_var 9)) (q_var 9)))
      (qs_cons (qs_set (i := 11) sc__law_lines.nd (q_call G__law_perm (hr.mono (by decide : 2 ≤ 4)) (T.glo 21) k__law_perm b__law_perm (takes_of rfl rfl rfl rfl) (qa_cons (q_var 0) (qa_cons (q_op or_add ok_add (q_op or_mul ok_mul (q_var 4) (q_var 6)) (q_var 5)) qa_nil))))
      (qs_cons (qs_set (i := 12) sc__law_lines.nd (q_listRg1 rfl (T.free 3) (T.free 4) (q_var 4)))
      (qs_cons (qs_set (i := 13) sc__law_lines.nd (q_lst (qa_cons (q_call G__law_raw (hr.mono (by decide : 1 ≤ 4)) (T.glo 22) k__law_raw b__law_raw (takes_of rfl rfl rfl rfl) (qa_cons (q_var 11) (qa_cons (q_var 7) (qa_cons (q_op or_add ok_add (q_sl rfl (q_var 12) (qo_some q_int) qo_none) (q_sl rfl (q_var 12) qo_none (qo_some q_int))) (qa_cons (q_var 9) (qa_cons q_bl qa_nil)))))) qa_nil)))
      (qs_cons (qs_if (qt_val (q_ix ix_seq ok_ix (q_var 8) q_int (fun _ _ => rfl))) (qs_one (qs_expr (q_bm rfl ok_append PySem.F.plainAttrs_list PySem.F.slot_list_append PySem.F.type_list_append mt_append (q_var 13) (qa_cons (q_call G__law_raw (hr.mono (by decide : 1 ≤ 4)) (T.glo 22) k__law_raw b__law_raw (takes_of rfl rfl rfl rfl) (qa_cons (q_var 11) (qa_cons (q_var 7) (qa_cons (q_op or_add ok_add (q_lst (qa_cons q_int (qa_cons q_int qa_nil))) (q_sl rfl (q_var 12) (qo_some q_int) qo_none)) (qa_cons (q_var 9) (qa_cons q_bl qa_nil)))))) qa_nil)))) qs_nil)
      (qs_cons (qs_if (qt_val (q_ix ix_seq ok_ix (q_var 8) q_int (fun _ _ => rfl))) (qs_one (qs_expr (q_bm rfl ok_append PySem.F.plainAttrs_list PySem.F.slot_list_append PySem.F.type_list_append mt_append (q_var 13) (qa_cons (q_call G__law_raw (hr.mono (by decide : 1 ≤ 4)) (T.glo 22) k__law_raw b__law_raw (takes_of rfl rfl rfl rfl) (qa_cons (q_var 11) (qa_cons (q_var 7) (qa_cons (q_lc (own := [("_law_k", 14)]) (g := (.nm 14)) rfl rfl sc__law_lines.nd (qi_seq rfl (q_var 12)) (blkOk_by (N := ["_law_source_here", "_law_beat_here", "_law_most", "_law_whole", "_law_copies", "_law_hub", "_law_size", "_law_shape", "_law_kinds", "_law_plain_parts", "_law_flip", "_law_names", "_law_same_here", "_law_gens", "_law_k", "_law_parts", "_law_raw_here", "_law_pick", "_law_number", "_law_tops"]) (sc := defScope (top 49)) (by decide +kernel)) (fun _ _ _ _ _ => (qr_nm (Γ := Gm K w) (i := 14) sc__law_lines.nd)) (fun _ _ _ _ _ => qts_nil) (fun _ _ _ _ _ => (q_op op_modN ok_mod (q_callTy call_int1 ok_int (T.free 0) (by decide +kernel) (qa_cons (q_op op_sub ok_sub (q_var 4) (q_var 14)) qa_nil)) (q_var 4)))) (qa_cons (q_var 10) (qa_cons q_bl qa_nil)))))) qa_nil)))) qs_nil)
      (qs_cons (qs_set (i := 15) sc__law_lines.nd (q_op or_mul ok_mul (q_op or_mul ok_mul q_int (q_var 4)) (q_op or_add ok_add q_int (q_call G__law_draw (hr.mono (by decide : 1 ≤ 4)) (T.glo 2) k__law_draw b__law_draw (takes_of rfl rfl rfl rfl) (qa_cons (q_var 0) (qa_cons q_int qa_nil))))))
      (qs_cons (qs_set (i := 16) sc__law_lines.nd (q_call G__law_even_tops (hr.mono (by decide : 4 ≤ 4)) (T.glo 23) k__law_even_tops b__law_even_tops (takes_of rfl rfl rfl rfl) (qa_cons (q_var 0) (qa_cons (q_var 7) (qa_cons (q_var 8) (qa_cons (q_var 10) (qa_cons (q_op or_mul ok_mul (q_var 1) (q_var 15)) qa_nil)))))))
      (qs_cons (qs_set (i := 17) sc__law_lines.nd (q_call G__law_draw (hr.mono (by decide : 1 ≤ 4)) (T.glo 2) k__law_draw b__law_draw (takes_of rfl rfl rfl rfl) (qa_cons (q_var 0) (qa_cons q_int qa_nil))))
      (qs_cons (qs_if (qt_cmp op_lt ok_cmp (q_var 17) q_int (nomark _)) (qs_one (qs_setLc (i := 16) (own := [("_law_number", 18)]) (g := (.nm 18)) rfl rfl sc__law_lines.nd rfl rfl (sw_true rfl rfl rfl (by decide +kernel)) (qi_seq rfl (q_var 16)) (blkOk_by (N := ["_law_source_here", "_law_beat_here", "_law_most", "_law_whole", "_law_copies", "_law_hub", "_law_size", "_law_shape", "_law_kinds", "_law_plain_parts", "_law_flip", "_law_names", "_law_same_here", "_law_gens", "_law_k", "_law_parts", "_law_raw_here", "_law_pick", "_law_number", "_law_tops"]) (sc := defScope (top 49)) (by decide +kernel)) (fun _ _ _ _ _ => (qr_nm (Γ := Gm K w) (i := 18) sc__law_lines.nd)) (fun _ _ _ _ _ => qts_nil) (fun _ _ _ _ _ => (q_op op_modN ok_mod (q_callTy call_int1 ok_int (T.free 0) (by decide +kernel) (qa_cons (q_op or_add ok_add (q_var 18) (q_op or_mul ok_mul (q_var 15) (q_op op_sub ok_sub (q_call G__law_draw (hr.mono (by decide : 1 ≤ 4)) (T.glo 2) k__law_draw b__law_draw takes0 (qa_cons (q_var 0) (qa_cons q_int qa_nil))) q_int))) qa_nil)) (q_op or_mul ok_mul (q_var 1) (q_var 15)))))) qs_nil)
      (qs_cons (qs_if (qt_cmp op_gt ok_cmp (q_var 17) q_int (nomark _)) (qs_one (qs_setLc (i := 16) (own := [("_law_k", 14)]) (g := (.nm 14)) rfl rfl sc__law_lines.nd rfl rfl (sw_true rfl rfl rfl (by decide +kernel)) (qi_seq rfl (q_var 11)) (blkOk_by (N := ["_law_source_here", "_law_beat_here", "_law_most", "_law_whole", "_law_copies", "_law_hub", "_law_size", "_law_shape", "_law_kinds", "_law_plain_parts", "_law_flip", "_law_names", "_law_same_here", "_law_gens", "_law_k", "_law_parts", "_law_raw_here", "_law_pick", "_law_number", "_law_tops"]) (sc := defScope (top 49)) (by decide +kernel)) (fun _ _ _ _ _ => (qr_nm (Γ := Gm K w) (i := 14) sc__law_lines.nd)) (fun _ _ _ _ _ => qts_nil) (fun _ _ _ _ _ => (q_call G__law_draw (hr.mono (by decide : 1 ≤ 4)) (T.glo 2) k__law_draw b__law_draw takes0 (qa_cons (q_var 0) (qa_cons (q_op or_mul ok_mul (q_var 1) (q_var 15)) qa_nil)))))) qs_nil)
      (qs_cons (qs_set (i := 19) sc__law_lines.nd (q_op or_mul ok_mul (q_lst (qa_cons q_int qa_nil)) (q_callB cr_len ok_len (T.free 1) (by decide +kernel) (qa_cons (q_var 11) qa_nil))))
      (qs_cons (qs_for (passes_of rfl) rfl (qi_enuZ rfl (T.free 17) (q_var 16)) (qg_tup rfl rfl (qgs_cons (qg_name (i := 14) sc__law_lines.nd) (qgs_cons (qg_name (i := 18) sc__law_lines.nd) qgs_nil))) (qs_one (qs_asg (q_ifE (qt_val (q_var 3)) (q_op op_fdivA ok_div (q_var 18) (q_var 15)) (q_var 18)) (qg_sub (W := WF E0) (q_var 19) (q_ix ix_seq ok_ix (q_var 11) (q_var 14) (fun _ _ => rfl))))))
      (qs_one (qs_ret (q_lst (qa_cons (q_var 13) (qa_cons (q_var 19) (qa_cons (q_ifE (qt_val (q_var 3)) q_int (q_var 15)) qa_nil)))))))))))))))))))))))))
theorem sc__law_orbit : FnScope ["_law_pair", "_law_gens", "_law_found", "_law_k", "_law_goes", "_law_forth", "_law_one", "_law_other", "_law_there"] ["_law_pair", "_law_gens"] (defScope (top 44)) := ⟨rfl, rfl, rfl, by decide +kernel, rfl, by decide +kernel, by decide +kernel⟩
theorem ok__law_orbit (T : Txt K mg) : ∃ fd, FnOk P w K mg base (L2.CX P w) 1 (He.ga K "_law_orbit") fd ["_law_pair", "_law_gens"] (spOf (Gm K w) 2 f__law_orbit) ∧ Binds K fd ["_law_pair", "_law_gens"] [] ∧ PySem.W.keepIn K (.ref (He.ga K "_law_orbit")) = true := by
  obtain ⟨fd, Fd⟩ := T.says.def_ 13
  refine ⟨fd, ?_, Fd.bindsN fun _ _ _ _ _ _ us hl => match us, hl with | [_, _], _ => rfl, Fd.kp⟩
  refine ok_def (Γ := Gm K w) (n := 9) (m := b__law_orbit) rfl Fd sc__law_orbit rfl fun cdv A outer s H E0 hr => ?_
  unfold b__law_orbit
  exact (qs_cons (qs_set (i := 2) sc__law_orbit.nd (q_lst (qa_cons (q_var 0) qa_nil)))
      (qs_cons (qs_for (passes_of rfl) rfl (qi_rng1 (T.free 4) (qa_cons q_int qa_nil)) (qg_name (i := 3) sc__law_orbit.nd) (qs_cons (qs_if (qt_cmp op_ge ok_cmp (q_var 3) (q_callB cr_len ok_len (T.free 1) (by decide +kernel) (qa_cons (q_var 2) qa_nil)) (nomark _)) (qs_one qs_break) qs_nil)
      (qs_one (qs_for (passes_of rfl) rfl (qi_seq rfl (q_var 1)) (qg_tup rfl rfl (qgs_cons (qg_name (i := 4) sc__law_orbit.nd) (qgs_cons (qg_name (i := 5) sc__law_orbit.nd) qgs_nil))) (qs_cons (qs_asg (q_ix ix_seq ok_ix (q_var 2) (q_var 3) (fun _ _ => rfl)) (qg_tup rfl rfl (qgs_cons (qg_name (i := 6) sc__law_orbit.nd) (qgs_cons (qg_name (i := 7) sc__law_orbit.nd) qgs_nil))))
      (qs_cons (qs_set (i := 8) sc__law_orbit.nd (q_ifE (qt_val (q_var 5)) (q_tup (qa_cons (q_ix ix_seq ok_ix (q_var 4) (q_var 6) (fun _ _ => rfl)) (qa_cons (q_ix ix_seq ok_ix (q_var 4) (q_var 7) (fun _ _ => rfl)) qa_nil))) (q_tup (qa_cons (q_ix ix_seq ok_ix (q_var 4) (q_var 7) (fun _ _ => rfl)) (qa_cons (q_ix ix_seq ok_ix (q_var 4) (q_var 6) (fun _ _ => rfl)) qa_nil)))))
      (qs_one (qs_if (qt_cmp (or_notInZ rfl (hr.mono (by decide : 0 ≤ 0))) ok_inZ (q_var 8) (q_var 2) (by rfl)) (qs_one (qs_expr (q_bm rfl ok_append PySem.F.plainAttrs_list PySem.F.slot_list_append PySem.F.type_list_append mt_append (q_var 2) (qa_cons (q_var 8) qa_nil)))) qs_nil))))))))
      (qs_one (qs_ret (q_var 2)))))
theorem sc__law_window : FnScope ["_law_source_here", "_law_rests", "_law_beat_here", "_law_parts", "_law_fits", "_law_number", "_law_low", "_law_width", "_law_other", "_law_room", "_law_ahead", "_law_further"] ["_law_source_here", "_law_rests", "_law_beat_here", "_law_parts"] (defScope (top 45)) := ⟨rfl, rfl, rfl, by decide +kernel, rfl, by decide +kernel, by decide +kernel⟩
theorem ok__law_window (T : Txt K mg) : ∃ fd, FnOk P w K mg base (L2.CX P w) 4 (He.ga K "_law_window") fd ["_law_source_here", "_law_rests", "_law_beat_here", "_law_parts"] (spOf (Gm K w) 4 f__law_window) ∧ Binds K fd ["_law_source_here", "_law_rests", "_law_beat_here", "_law_parts"] [] ∧ PySem.W.keepIn K (.ref (He.ga K "_law_window")) = true := by
  obtain ⟨fd, Fd⟩ := T.says.def_ 14
  obtain ⟨d__law_draw, G__law_draw, b__law_draw, k__law_draw⟩ := ok__law_draw (P := P) (w := w) (base := base) T
  refine ⟨fd, ?_, Fd.bindsN fun _ _ _ _ _ _ us hl => match us, hl with | [_, _, _, _], _ => rfl, Fd.kp⟩
  refine ok_def (Γ := Gm K w) (n := 12) (m := b__law_window) rfl Fd sc__law_window rfl fun cdv A outer s H E0 hr => ?_
  unfold b__law_window
  exact (qs_cons (qs_set (i := 4) sc__law_window.nd (q_lst qa_nil))
      (qs_cons (qs_for (passes_of rfl) rfl (qi_seq rfl (q_var 1)) (qg_name (i := 5) sc__law_window.nd) (qs_cons (qs_set (i := 6) sc__law_window.nd (q_op op_fdivA ok_div (q_var 5) (q_var 3)))
      (qs_cons (qs_set (i := 7) sc__law_window.nd (q_un un_neg ok_neg (q_op op_fdivA ok_div (q_un un_neg ok_neg (q_callB (cr_max rfl) ok_max (T.free 20) (by decide +kernel) (qa_cons (q_lc (own := [("_law_other", 8)]) (g := (.nm 8)) rfl rfl sc__law_window.nd (qi_seq rfl (q_var 1)) (blkOk_by (N := ["_law_source_here", "_law_rests", "_law_beat_here", "_law_parts", "_law_fits", "_law_number", "_law_low", "_law_width", "_law_other", "_law_room", "_law_ahead", "_law_further"]) (sc := defScope (top 45)) (by decide +kernel)) (fun _ _ _ _ _ => (qr_nm (Γ := Gm K w) (i := 8) sc__law_window.nd)) (fun _ _ _ _ _ => qts_nil) (fun _ _ _ _ _ => (q_op op_modN ok_mod (q_callTy call_int1 ok_int (T.free 0) (by decide +kernel) (qa_cons (q_op op_sub ok_sub (q_var 8) (q_op or_mul ok_mul (q_var 6) (q_var 3))) qa_nil)) (q_op or_mul ok_mul (q_var 2) (q_var 3))))) qa_nil))) (q_var 3))))
      (qs_one (qs_if (PW.pt (qw_and (qt_cmp op_le ok_cmp (q_var 7) (q_op op_sub ok_sub (q_var 2) q_int) (nomark _)) (qw_and1 (qt_cmp (or_notInZ rfl (hr.mono (by decide : 0 ≤ 3))) ok_inZ (q_tup (qa_cons (q_var 6) (qa_cons (q_var 7) qa_nil))) (q_var 4) (by rfl))))) (qs_one (qs_expr (q_bm rfl ok_append PySem.F.plainAttrs_list PySem.F.slot_list_append PySem.F.type_list_append mt_append (q_var 4) (qa_cons (q_tup (qa_cons (q_var 6) (qa_cons (q_var 7) qa_nil))) qa_nil)))) qs_nil)))))
      (qs_cons (qs_if (qt_cmp (or_eqZ rfl (hr.mono (by decide : 3 ≤ 3)) (eqc T)) (ok_eqZ T.ins) (q_var 4) (q_lst qa_nil) (nomark _)) (qs_one (qs_ret q_non)) qs_nil)
      (qs_cons (qs_asg (q_ix ix_seq ok_ix (q_var 4) (q_call G__law_draw (hr.mono (by decide : 1 ≤ 3)) (T.glo 2) k__law_draw b__law_draw (takes_of rfl rfl rfl rfl) (qa_cons (q_var 0) (qa_cons (q_callB cr_len ok_len (T.free 1) (by decide +kernel) (qa_cons (q_var 4) qa_nil)) qa_nil))) (fun _ _ => rfl)) (qg_tup rfl rfl (qgs_cons (qg_name (i := 6) sc__law_window.nd) (qgs_cons (qg_name (i := 7) sc__law_window.nd) qgs_nil))))
      (qs_cons (qs_set (i := 9) sc__law_window.nd (q_callB (call_min2 rfl) ok_min2 (T.free 19) (by decide +kernel) (qa_cons (q_op op_sub ok_sub (q_op op_sub ok_sub (q_var 2) q_int) (q_var 7)) (qa_cons (q_ix ix_seq ok_ix (q_tup (qa_cons q_int (qa_cons q_int (qa_cons (q_var 2) qa_nil)))) (q_call G__law_draw (hr.mono (by decide : 1 ≤ 3)) (T.glo 2) k__law_draw b__law_draw (takes_of rfl rfl rfl rfl) (qa_cons (q_var 0) (qa_cons q_int qa_nil))) (fun _ _ => rfl)) qa_nil))))
      (qs_cons (qs_set (i := 10) sc__law_window.nd (q_call G__law_draw (hr.mono (by decide : 1 ≤ 3)) (T.glo 2) k__law_draw b__law_draw (takes_of rfl rfl rfl rfl) (qa_cons (q_var 0) (qa_cons (q_op or_add ok_add (q_var 9) q_int) qa_nil))))
      (qs_cons (qs_set (i := 11) sc__law_window.nd (q_call G__law_draw (hr.mono (by decide : 1 ≤ 3)) (T.glo 2) k__law_draw b__law_draw (takes_of rfl rfl rfl rfl) (qa_cons (q_var 0) (qa_cons (q_op or_add ok_add (q_op op_sub ok_sub (q_var 9) (q_var 10)) q_int) qa_nil))))
      (qs_cons (qs_set (i := 6) sc__law_window.nd (q_op op_sub ok_sub (q_var 6) (q_var 10)))
      (qs_cons (qs_if (PW.pt (qw_or (qt_cmp op_lt ok_cmp (q_var 6) q_int (nomark _)) (qw_or1 (PW.pt (qw_and (qt_cmp op_le ok_cmp (q_op or_add ok_add (q_op or_add ok_add (q_op or_add ok_add (q_op or_add ok_add (q_var 6) (q_var 2)) (q_var 10)) (q_var 7)) (q_var 11)) q_int (nomark _)) (qw_and1 (qt_cmp (or_eqZ rfl (hr.mono (by decide : 3 ≤ 3)) (eqc T)) (ok_eqZ T.ins) (q_call G__law_draw (hr.mono (by decide : 1 ≤ 3)) (T.glo 2) k__law_draw b__law_draw (takes_of rfl rfl rfl rfl) (qa_cons (q_var 0) (qa_cons q_int qa_nil))) q_int (nomark _)))))))) (qs_one (qs_set (i := 6) sc__law_window.nd (q_op or_add ok_add (q_var 6) (q_var 2)))) qs_nil)
      (qs_one (qs_ret (q_tup (qa_cons (q_var 6) (qa_cons (q_op or_add ok_add (q_op or_add ok_add (q_op or_add ok_add (q_var 6) (q_var 10)) (q_var 7)) (q_var 11)) qa_nil))))))))))))))
theorem sc__law_spans : FnScope ["_law_source_here", "_law_beat_here", "_law_gens", "_law_tops", "_law_parts", "_law_limit", "_law_spans_here", "_law_many", "_law_turn", "_law_one", "_law_other", "_law_orbit_here", "_law_rests", "_law_pair", "_law_bounds"] ["_law_source_here", "_law_beat_here", "_law_gens", "_law_tops", "_law_parts", "_law_limit"] (defScope (top 46)) := ⟨rfl, rfl, rfl, by decide +kernel, rfl, by decide +kernel, by decide +kernel⟩
theorem ok__law_spans (T : Txt K mg) : ∃ fd, FnOk P w K mg base (L2.CX P w) 5 (He.ga K "_law_spans") fd ["_law_source_here", "_law_beat_here", "_law_gens", "_law_tops", "_law_parts", "_law_limit"] (spOf (Gm K w) 6 f__law_spans) ∧ Binds K fd ["_law_source_here", "_law_beat_here", "_law_gens", "_law_tops", "_law_parts", "_law_limit"] [] ∧ PySem.W.keepIn K (.ref (He.ga K "_law_spans")) = true := by
  obtain ⟨fd, Fd⟩ := T.says.def_ 15
  obtain ⟨d__law_draw, G__law_draw, b__law_draw, k__law_draw⟩ := ok__law_draw (P := P) (w := w) (base := base) T
  obtain ⟨d__law_orbit, G__law_orbit, b__law_orbit, k__law_orbit⟩ := ok__law_orbit (P := P) (w := w) (base := base) T
  obtain ⟨d__law_window, G__law_window, b__law_window, k__law_window⟩ := ok__law_window (P := P) (w := w) (base := base) T
  refine ⟨fd, ?_, Fd.bindsN fun _ _ _ _ _ _ us hl => match us, hl with | [_, _, _, _, _, _], _ => rfl, Fd.kp⟩
  refine ok_def (Γ := Gm K w) (n := 15) (m := b__law_spans) rfl Fd sc__law_spans rfl fun cdv A outer s H E0 hr => ?_
  unfold b__law_spans
  exact (qs_cons (qs_set (i := 6) sc__law_spans.nd (q_lst qa_nil))
      (qs_cons (qs_set (i := 7) sc__law_spans.nd (q_callB cr_len ok_len (T.free 1) (by decide +kernel) (qa_cons (q_var 3) qa_nil)))
      (qs_cons (qs_for (passes_of rfl) rfl (qi_rng1 (T.free 4) (qa_cons (q_ix ix_seq ok_ix (q_tup (qa_cons q_int (qa_cons q_int (qa_cons q_int (qa_cons q_int (qa_cons q_int (qa_cons q_int (qa_cons q_int (qa_cons q_int qa_nil))))))))) (q_call G__law_draw (hr.mono (by decide : 1 ≤ 4)) (T.glo 2) k__law_draw b__law_draw (takes_of rfl rfl rfl rfl) (qa_cons (q_var 0) (qa_cons q_int qa_nil))) (fun _ _ => rfl)) qa_nil)) (qg_name (i := 8) sc__law_spans.nd) (qs_one (qs_if (qt_cmp op_gt ok_cmp (q_var 7) q_int (nomark _)) (qs_cons (qs_set (i := 9) sc__law_spans.nd (q_call G__law_draw (hr.mono (by decide : 1 ≤ 4)) (T.glo 2) k__law_draw b__law_draw (takes_of rfl rfl rfl rfl) (qa_cons (q_var 0) (qa_cons (q_var 7) qa_nil))))
      (qs_cons (qs_set (i := 10) sc__law_spans.nd (q_op op_modN ok_mod (q_callTy call_int1 ok_int (T.free 0) (by decide +kernel) (qa_cons (q_op or_add ok_add (q_op or_add ok_add (q_var 9) q_int) (q_call G__law_draw (hr.mono (by decide : 1 ≤ 4)) (T.glo 2) k__law_draw b__law_draw (takes_of rfl rfl rfl rfl) (qa_cons (q_var 0) (qa_cons (q_op op_sub ok_sub (q_var 7) q_int) qa_nil)))) qa_nil)) (q_var 7)))
      (qs_cons (qs_set (i := 11) sc__law_spans.nd (q_call G__law_orbit (hr.mono (by decide : 1 ≤ 4)) (T.glo 24) k__law_orbit b__law_orbit (takes_of rfl rfl rfl rfl) (qa_cons (q_tup (qa_cons (q_var 9) (qa_cons (q_var 10) qa_nil))) (qa_cons (q_var 2) qa_nil))))
      (qs_cons (qs_setLc (i := 12) (own := [("_law_pair", 13)]) (g := (.nm 13)) rfl rfl sc__law_spans.nd rfl rfl (sw_true rfl rfl rfl (by decide +kernel)) (qi_seq rfl (q_var 11)) (blkOk_by (N := ["_law_source_here", "_law_beat_here", "_law_gens", "_law_tops", "_law_parts", "_law_limit", "_law_spans_here", "_law_many", "_law_turn", "_law_one", "_law_other", "_law_orbit_here", "_law_rests", "_law_pair", "_law_bounds"]) (sc := defScope (top 46)) (by decide +kernel)) (fun _ _ _ _ _ => (qr_nm (Γ := Gm K w) (i := 13) sc__law_spans.nd)) (fun _ _ _ _ _ => qts_nil) (fun _ _ _ _ _ => (q_op op_modN ok_mod (q_callTy call_int1 ok_int (T.free 0) (by decide +kernel) (qa_cons (q_op op_sub ok_sub (q_ix ix_seq ok_ix (q_var 3) (q_ix ix_seq ok_ix (q_var 13) q_int (fun _ _ => rfl)) (fun _ _ => rfl)) (q_ix ix_seq ok_ix (q_var 3) (q_ix ix_seq ok_ix (q_var 13) q_int (fun _ _ => rfl)) (fun _ _ => rfl))) qa_nil)) (q_op or_mul ok_mul (q_var 1) (q_var 4)))))
      (qs_cons (qs_set (i := 14) sc__law_spans.nd (q_call G__law_window (hr.mono (by decide : 4 ≤ 4)) (T.glo 25) k__law_window b__law_window (takes_of rfl rfl rfl rfl) (qa_cons (q_var 0) (qa_cons (q_var 12) (qa_cons (q_var 1) (qa_cons (q_var 4) qa_nil))))))
      (qs_one (qs_if (PW.pt (qw_and (qt_cmp op_notN ok_notN (q_var 14) q_non (nomark _)) (qw_and (qt_cmp op_le ok_cmp (q_op or_add ok_add (q_callB cr_len ok_len (T.free 1) (by decide +kernel) (qa_cons (q_var 6) qa_nil)) (q_callB cr_len ok_len (T.free 1) (by decide +kernel) (qa_cons (q_var 11) qa_nil))) (q_var 5) (nomark _)) (qw_and1 (qt_cmp (or_notInZ rfl (hr.mono (by decide : 0 ≤ 4))) ok_inZ (q_op or_add ok_add (q_tup (qa_cons (q_var 9) (qa_cons (q_var 10) qa_nil))) (q_var 14)) (q_var 6) (by rfl)))))) (qs_one (qs_for (passes_of rfl) rfl (qi_seq rfl (q_var 11)) (qg_name (i := 13) sc__law_spans.nd) (qs_one (qs_expr (q_bm rfl ok_insert PySem.F.plainAttrs_list PySem.F.slot_list_insert PySem.F.type_list_insert mt_insert (q_var 6) (qa_cons (q_call G__law_draw (hr.mono (by decide : 1 ≤ 4)) (T.glo 2) k__law_draw b__law_draw (takes_of rfl rfl rfl rfl) (qa_cons (q_var 0) (qa_cons (q_op or_add ok_add (q_callB cr_len ok_len (T.free 1) (by decide +kernel) (qa_cons (q_var 6) qa_nil)) q_int) qa_nil))) (qa_cons (q_op or_add ok_add (q_var 13) (q_var 14)) qa_nil))))))) qs_nil))))))) qs_nil)))
      (qs_one (qs_ret (q_var 6))))))
theorem sc__law_once : FnScope ["_law_source_here", "_law_beat_here", "_law_most", "_law_limit", "_law_whole", "_law_gens", "_law_tops", "_law_parts", "_law_many", "_law_k"] ["_law_source_here", "_law_beat_here", "_law_most", "_law_limit", "_law_whole"] (defScope (top 50)) := ⟨rfl, rfl, rfl, by decide +kernel, rfl, by decide +kernel, by decide +kernel⟩
theorem ok__law_once (T : Txt K mg) : ∃ fd, FnOk P w K mg base (L2.CX P w) 6 (He.ga K "_law_once") fd ["_law_source_here", "_law_beat_here", "_law_most", "_law_limit", "_law_whole"] (spOf (Gm K w) 5 f__law_once) ∧ Binds K fd ["_law_source_here", "_law_beat_here", "_law_most", "_law_limit", "_law_whole"] [] ∧ PySem.W.keepIn K (.ref (He.ga K "_law_once")) = true := by
  obtain ⟨fd, Fd⟩ := T.says.def_ 16
  obtain ⟨d__law_draw, G__law_draw, b__law_draw, k__law_draw⟩ := ok__law_draw (P := P) (w := w) (base := base) T
  obtain ⟨d__law_lines, G__law_lines, b__law_lines, k__law_lines⟩ := ok__law_lines (P := P) (w := w) (base := base) T
  obtain ⟨d__law_perm, G__law_perm, b__law_perm, k__law_perm⟩ := ok__law_perm (P := P) (w := w) (base := base) T
  obtain ⟨d__law_spans, G__law_spans, b__law_spans, k__law_spans⟩ := ok__law_spans (P := P) (w := w) (base := base) T
  refine ⟨fd, ?_, Fd.bindsN fun _ _ _ _ _ _ us hl => match us, hl with | [_, _, _, _, _], _ => rfl, Fd.kp⟩
  refine ok_def (Γ := Gm K w) (n := 10) (m := b__law_once) rfl Fd sc__law_once rfl fun cdv A outer s H E0 hr => ?_
  unfold b__law_once
  exact (qs_cons (qs_if (qt_cmp op_gt ok_cmp (q_call G__law_draw (hr.mono (by decide : 1 ≤ 5)) (T.glo 2) k__law_draw b__law_draw (takes_of rfl rfl rfl rfl) (qa_cons (q_var 0) (qa_cons q_int qa_nil))) q_int (nomark _)) (qs_one (qs_asg (q_call G__law_lines (hr.mono (by decide : 5 ≤ 5)) (T.glo 26) k__law_lines b__law_lines (takes_of rfl rfl rfl rfl) (qa_cons (q_var 0) (qa_cons (q_var 1) (qa_cons (q_var 2) (qa_cons (q_var 4) qa_nil))))) (qg_seqU rfl rfl (qgs_cons (qg_name (i := 5) sc__law_once.nd) (qgs_cons (qg_name (i := 6) sc__law_once.nd) (qgs_cons (qg_name (i := 7) sc__law_once.nd) qgs_nil)))))) (qs_cons (qs_set (i := 8) sc__law_once.nd (q_op or_add ok_add q_int (q_call G__law_draw (hr.mono (by decide : 1 ≤ 5)) (T.glo 2) k__law_draw b__law_draw (takes_of rfl rfl rfl rfl) (qa_cons (q_var 0) (qa_cons (q_callB (call_min2 rfl) ok_min2 (T.free 19) (by decide +kernel) (qa_cons q_int (qa_cons (q_var 2) qa_nil))) qa_nil)))))
      (qs_cons (qs_setLc (i := 5) (own := [("_law_k", 9)]) (g := (.nm 9)) rfl rfl sc__law_once.nd rfl rfl (sw_true rfl rfl rfl (by decide +kernel)) (qi_rng1 (T.free 4) (qa_cons (q_call G__law_draw (hr.mono (by decide : 1 ≤ 5)) (T.glo 2) k__law_draw b__law_draw (takes_of rfl rfl rfl rfl) (qa_cons (q_var 0) (qa_cons q_int qa_nil))) qa_nil)) (blkOk_by (N := ["_law_source_here", "_law_beat_here", "_law_most", "_law_limit", "_law_whole", "_law_gens", "_law_tops", "_law_parts", "_law_many", "_law_k"]) (sc := defScope (top 50)) (by decide +kernel)) (fun _ _ _ _ _ => (qr_nm (Γ := Gm K w) (i := 9) sc__law_once.nd)) (fun _ _ _ _ _ => qts_nil) (fun _ _ _ _ _ => (q_tup (qa_cons (q_callTy call_tuple_of ok_tuple (T.free 18) (by decide +kernel) (qa_cons (q_call G__law_perm (hr.mono (by decide : 2 ≤ 5)) (T.glo 21) k__law_perm b__law_perm takes0 (qa_cons (q_var 0) (qa_cons (q_var 8) qa_nil))) qa_nil)) (qa_cons (q_cmp (or_eqZ rfl (hr.mono (by decide : 3 ≤ 5)) (eqc T)) (ok_eqZ T.ins) (q_call G__law_draw (hr.mono (by decide : 1 ≤ 5)) (T.glo 2) k__law_draw b__law_draw takes0 (qa_cons (q_var 0) (qa_cons q_int qa_nil))) q_int (nomark _)) qa_nil)))))
      (qs_cons (qs_set (i := 7) sc__law_once.nd (q_ifE (qt_val (q_var 4)) q_int (q_op or_add ok_add q_int (q_call G__law_draw (hr.mono (by decide : 1 ≤ 5)) (T.glo 2) k__law_draw b__law_draw (takes_of rfl rfl rfl rfl) (qa_cons (q_var 0) (qa_cons q_int qa_nil))))))
      (qs_cons (qs_set (i := 6) sc__law_once.nd (q_lc (own := [("_law_k", 9)]) (g := (.nm 9)) rfl rfl sc__law_once.nd (qi_rng1 (T.free 4) (qa_cons (q_var 8) qa_nil)) (blkOk_by (N := ["_law_source_here", "_law_beat_here", "_law_most", "_law_limit", "_law_whole", "_law_gens", "_law_tops", "_law_parts", "_law_many", "_law_k"]) (sc := defScope (top 50)) (by decide +kernel)) (fun _ _ _ _ _ => (qr_nm (Γ := Gm K w) (i := 9) sc__law_once.nd)) (fun _ _ _ _ _ => qts_nil) (fun _ _ _ _ _ => (q_call G__law_draw (hr.mono (by decide : 1 ≤ 5)) (T.glo 2) k__law_draw b__law_draw takes0 (qa_cons (q_var 0) (qa_cons (q_op or_mul ok_mul (q_var 1) (q_var 7)) qa_nil))))))
      (qs_one (qs_if (qt_cmp (or_eqZ rfl (hr.mono (by decide : 3 ≤ 5)) (eqc T)) (ok_eqZ T.ins) (q_call G__law_draw (hr.mono (by decide : 1 ≤ 5)) (T.glo 2) k__law_draw b__law_draw (takes_of rfl rfl rfl rfl) (qa_cons (q_var 0) (qa_cons q_int qa_nil))) q_int (nomark _)) (qs_one (qs_set (i := 6) sc__law_once.nd (q_lc (own := [("_law_k", 9)]) (g := (.nm 9)) rfl rfl sc__law_once.nd (qi_rng1 (T.free 4) (qa_cons (q_var 8) qa_nil)) (blkOk_by (N := ["_law_source_here", "_law_beat_here", "_law_most", "_law_limit", "_law_whole", "_law_gens", "_law_tops", "_law_parts", "_law_many", "_law_k"]) (sc := defScope (top 50)) (by decide +kernel)) (fun _ _ _ _ _ => (qr_nm (Γ := Gm K w) (i := 9) sc__law_once.nd)) (fun _ _ _ _ _ => qts_nil) (fun _ _ _ _ _ => (q_ix ix_seq ok_ix (q_var 6) q_int (fun _ _ => rfl)))))) qs_nil)))))))
      (qs_one (qs_ret (q_lst (qa_cons (q_call G__law_spans (hr.mono (by decide : 5 ≤ 5)) (T.glo 27) k__law_spans b__law_spans (takes_of rfl rfl rfl rfl) (qa_cons (q_var 0) (qa_cons (q_var 1) (qa_cons (q_var 5) (qa_cons (q_var 6) (qa_cons (q_var 7) (qa_cons (q_var 3) qa_nil))))))) (qa_cons (q_var 6) (qa_cons (q_var 7) (qa_cons (q_var 5) qa_nil))))))))
theorem sc__law_world : FnScope ["_law_source_here", "_law_beat_here", "_law_most", "_law_limit", "_law_whole", "_law_found", "_law_turn", "_law_one"] ["_law_source_here", "_law_beat_here", "_law_most", "_law_limit", "_law_whole"] (defScope (top 51)) := ⟨rfl, rfl, rfl, by decide +kernel, rfl, by decide +kernel, by decide +kernel⟩
theorem ok__law_world (T : Txt K mg) : ∃ fd, FnOk P w K mg base (L2.CX P w) 7 (He.ga K "_law_world") fd ["_law_source_here", "_law_beat_here", "_law_most", "_law_limit", "_law_whole"] (spOf (Gm K w) 5 f__law_world) ∧ Binds K fd ["_law_source_here", "_law_beat_here", "_law_most", "_law_limit", "_law_whole"] [] ∧ PySem.W.keepIn K (.ref (He.ga K "_law_world")) = true := by
  obtain ⟨fd, Fd⟩ := T.says.def_ 17
  obtain ⟨d__law_draw, G__law_draw, b__law_draw, k__law_draw⟩ := ok__law_draw (P := P) (w := w) (base := base) T
  obtain ⟨d__law_once, G__law_once, b__law_once, k__law_once⟩ := ok__law_once (P := P) (w := w) (base := base) T
  refine ⟨fd, ?_, Fd.bindsN fun _ _ _ _ _ _ us hl => match us, hl with | [_, _, _, _, _], _ => rfl, Fd.kp⟩
  refine ok_def (Γ := Gm K w) (n := 8) (m := b__law_world) rfl Fd sc__law_world rfl fun cdv A outer s H E0 hr => ?_
  unfold b__law_world
  exact (qs_cons (qs_set (i := 5) sc__law_world.nd (q_lst qa_nil))
      (qs_cons (qs_for (passes_of rfl) rfl (qi_rng1 (T.free 4) (qa_cons q_int qa_nil)) (qg_name (i := 6) sc__law_world.nd) (qs_one (qs_if (PW.pt (qw_or (qt_cmp (or_eqZ rfl (hr.mono (by decide : 3 ≤ 6)) (eqc T)) (ok_eqZ T.ins) (q_var 5) (q_lst qa_nil) (nomark _)) (qw_or (qt_cmp (or_eqZ rfl (hr.mono (by decide : 3 ≤ 6)) (eqc T)) (ok_eqZ T.ins) (q_ix ix_seq ok_ix (q_var 5) q_int (fun _ _ => rfl)) (q_lst qa_nil) (nomark _)) (qw_or1 (qt_val (q_callB (cr_all rfl) ok_all (T.free 28) (by decide +kernel) (qa_cons (q_lc (own := [("_law_one", 7)]) (g := (.nm 7)) rfl rfl sc__law_world.nd (qi_seq rfl (q_ix ix_seq ok_ix (q_var 5) q_int (fun _ _ => rfl))) (blkOk_by (N := ["_law_source_here", "_law_beat_here", "_law_most", "_law_limit", "_law_whole", "_law_found", "_law_turn", "_law_one"]) (sc := defScope (top 51)) (by decide +kernel)) (fun _ _ _ _ _ => (qr_nm (Γ := Gm K w) (i := 7) sc__law_world.nd)) (fun _ _ _ _ _ => qts_nil) (fun _ _ _ _ _ => (q_cmp (or_eqZ rfl (hr.mono (by decide : 3 ≤ 6)) (eqc T)) (ok_eqZ T.ins) (q_ix ix_seq ok_ix (q_var 7) q_int (fun _ _ => rfl)) (q_tupRg1 rfl (T.free 18) (T.free 4) (q_callB cr_len ok_len (T.free 1) (by decide +kernel) (qa_cons (q_ix ix_seq ok_ix (q_var 7) q_int (fun _ _ => rfl)) qa_nil))) (nomark _)))) qa_nil))))))) (qs_one (qs_if (PW.pt (qw_or (qt_cmp (or_eqZ rfl (hr.mono (by decide : 3 ≤ 6)) (eqc T)) (ok_eqZ T.ins) (q_var 5) (q_lst qa_nil) (nomark _)) (qw_or1 (qt_cmp op_gt ok_cmp (q_call G__law_draw (hr.mono (by decide : 1 ≤ 6)) (T.glo 2) k__law_draw b__law_draw (takes_of rfl rfl rfl rfl) (qa_cons (q_var 0) (qa_cons q_int qa_nil))) q_int (nomark _))))) (qs_one (qs_set (i := 5) sc__law_world.nd (q_call G__law_once (hr.mono (by decide : 6 ≤ 6)) (T.glo 29) k__law_once b__law_once (takes_of rfl rfl rfl rfl) (qa_cons (q_var 0) (qa_cons (q_var 1) (qa_cons (q_var 2) (qa_cons (q_var 3) (qa_cons (q_var 4) qa_nil)))))))) qs_nil)) qs_nil)))
      (qs_one (qs_ret (q_var 5)))))
theorem sc_is_below : FnScope ["limit", "thing"] ["limit", "thing"] (defScope (top 12)) := ⟨rfl, rfl, rfl, by decide +kernel, rfl, by decide +kernel, by decide +kernel⟩
theorem ok_is_below (T : Txt K mg) : ∃ fd, FnOk P w K mg base (L2.CX P w) 2 (He.ga K "is_below") fd ["limit", "thing"] (spOf (Gm K w) 2 f_is_below) ∧ Binds K fd ["limit", "thing"] [] ∧ PySem.W.keepIn K (.ref (He.ga K "is_below")) = true := by
  obtain ⟨fd, Fd⟩ := T.says.def_ 18
  obtain ⟨d_is_integer, G_is_integer, b_is_integer, k_is_integer⟩ := ok_is_integer (P := P) (w := w) (base := base) T
  refine ⟨fd, ?_, Fd.bindsN fun _ _ _ _ _ _ us hl => match us, hl with | [_, _], _ => rfl, Fd.kp⟩
  refine ok_def (Γ := Gm K w) (n := 2) (m := b_is_below) rfl Fd sc_is_below rfl fun cdv A outer s H E0 hr => ?_
  unfold b_is_below
  exact (qs_one (qs_ret (q_and (q_call G_is_integer (hr.mono (by decide : 1 ≤ 1)) (T.glo 11) k_is_integer b_is_integer (takes_of rfl rfl rfl rfl) (qa_cons (q_var 1) qa_nil)) (q_one (q_chain op_le ok_cmp op_lt ok_cmp q_int (q_var 1) (q_var 0))))))
theorem nec (T : Txt K mg) : ∀ C m, oe C = some m → NeC (Gm K w) P w mg base 3 C m := by
  intro C m e
  unfold oe at e
  split at e
  · rename_i c; subst c; cases e
    obtain ⟨fd, G1, b1, _⟩ := ok_Ratio___eq__ (P := P) (w := w) (base := base) T
    exact ⟨_, fd, _, ownNeB_ok (T.says.fact 121 (q := fun K => ownNeB K (He.ga K "Ratio") (He.ma K (He.ga K "Ratio") "__eq__"))), G1.mono (by decide), b1⟩
  split at e
  · rename_i c; subst c; cases e
    obtain ⟨fd, G1, b1, _⟩ := ok_Net___eq__ (P := P) (w := w) (base := base) T
    exact ⟨_, fd, _, ownNeB_ok (T.says.fact 124 (q := fun K => ownNeB K (He.ga K "Net") (He.ma K (He.ga K "Net") "__eq__"))), G1.mono (by decide), b1⟩
  cases e
theorem sc_is_span : FnScope ["beat", "events", "thing", "part", "i", "j", "low", "high"] ["beat", "events", "thing"] (defScope (top 25)) := ⟨rfl, rfl, rfl, by decide +kernel, rfl, by decide +kernel, by decide +kernel⟩
theorem ok_is_span (T : Txt K mg) : ∃ fd, FnOk P w K mg base (L2.CX P w) 5 (He.ga K "is_span") fd ["beat", "events", "thing"] (spOf (Gm K w) 3 f_is_span) ∧ Binds K fd ["beat", "events", "thing"] [] ∧ PySem.W.keepIn K (.ref (He.ga K "is_span")) = true := by
  obtain ⟨fd, Fd⟩ := T.says.def_ 19
  obtain ⟨d_is_integer, G_is_integer, b_is_integer, k_is_integer⟩ := ok_is_integer (P := P) (w := w) (base := base) T
  obtain ⟨d_is_below, G_is_below, b_is_below, k_is_below⟩ := ok_is_below (P := P) (w := w) (base := base) T
  refine ⟨fd, ?_, Fd.bindsN fun _ _ _ _ _ _ us hl => match us, hl with | [_, _, _], _ => rfl, Fd.kp⟩
  refine ok_def (Γ := Gm K w) (n := 8) (m := b_is_span) rfl Fd sc_is_span rfl fun cdv A outer s H E0 hr => ?_
  unfold b_is_span
  exact (qs_cons (qs_if (PW.pt (qw_or (qt_not (qt_val (q_isi (T := (.bi "tuple")) rfl T.ins (T.is_ 30) (T.free 7) (q_var 2) (pe_bltn (v := .ty "tuple") rfl (T.free 18) (by decide +kernel) rfl)))) (qw_or1 (qt_cmp (or_ne (k := 3) rfl (hr.mono (by decide : 4 ≤ 4)) (nec T)) ok_neX (q_callB cr_len ok_len (T.free 1) (by decide +kernel) (qa_cons (q_var 2) qa_nil)) q_int (nomark _))))) (qs_one (qs_ret q_bl)) qs_nil)
      (qs_cons (qs_if (qt_not (qt_val (q_callB (cr_all rfl) ok_all (T.free 28) (by decide +kernel) (qa_cons (q_lc (own := [("part", 3)]) (g := (.nm 3)) rfl rfl sc_is_span.nd (qi_seq rfl (q_var 2)) (blkOk_by (N := ["beat", "events", "thing", "part", "i", "j", "low", "high"]) (sc := defScope (top 25)) (by decide +kernel)) (fun _ _ _ _ _ => (qr_nm (Γ := Gm K w) (i := 3) sc_is_span.nd)) (fun _ _ _ _ _ => qts_nil) (fun _ _ _ _ _ => (q_call G_is_integer (hr.mono (by decide : 1 ≤ 4)) (T.glo 11) k_is_integer b_is_integer takes0 (qa_cons (q_var 3) qa_nil)))) qa_nil)))) (qs_one (qs_ret q_bl)) qs_nil)
      (qs_cons (qs_asg (q_var 2) (qg_tup rfl rfl (qgs_cons (qg_name (i := 4) sc_is_span.nd) (qgs_cons (qg_name (i := 5) sc_is_span.nd) (qgs_cons (qg_name (i := 6) sc_is_span.nd) (qgs_cons (qg_name (i := 7) sc_is_span.nd) qgs_nil))))))
      (qs_cons (qs_if (PW.pt (qw_or (qt_not (qt_val (q_call G_is_below (hr.mono (by decide : 2 ≤ 4)) (T.glo 31) k_is_below b_is_below (takes_of rfl rfl rfl rfl) (qa_cons (q_var 1) (qa_cons (q_var 4) qa_nil))))) (qw_or (qt_not (qt_val (q_call G_is_below (hr.mono (by decide : 2 ≤ 4)) (T.glo 31) k_is_below b_is_below (takes_of rfl rfl rfl rfl) (qa_cons (q_var 1) (qa_cons (q_var 5) qa_nil))))) (qw_or1 (qt_cmp (or_eqZ rfl (hr.mono (by decide : 3 ≤ 4)) (eqc T)) (ok_eqZ T.ins) (q_var 4) (q_var 5) (nomark _)))))) (qs_one (qs_ret q_bl)) qs_nil)
      (qs_one (qs_ret (q_and (q_chain3 op_le ok_cmp op_le ok_cmp op_le ok_cmp q_int (q_var 6) (q_var 7) (q_gint (T.cint (x := "MOST_HIGH") (v := 2880) 32))) (q_one (q_cmp op_le ok_cmp (q_op op_sub ok_sub (q_var 7) (q_var 6)) (q_op op_sub ok_sub (q_var 0) q_int) (nomark _))))))))))
theorem sc_spans_fault : FnScope ["beat", "events", "thing", "index", "span"] ["beat", "events", "thing"] (defScope (top 26)) := ⟨rfl, rfl, rfl, by decide +kernel, rfl, by decide +kernel, by decide +kernel⟩
theorem ok_spans_fault (T : Txt K mg) : ∃ fd, FnOk P w K mg base (L2.CX P w) 6 (He.ga K "spans_fault") fd ["beat", "events", "thing"] (spOf (Gm K w) 3 f_spans_fault) ∧ Binds K fd ["beat", "events", "thing"] [] ∧ PySem.W.keepIn K (.ref (He.ga K "spans_fault")) = true := by
  obtain ⟨fd, Fd⟩ := T.says.def_ 20
  obtain ⟨d_is_span, G_is_span, b_is_span, k_is_span⟩ := ok_is_span (P := P) (w := w) (base := base) T
  refine ⟨fd, ?_, Fd.bindsN fun _ _ _ _ _ _ us hl => match us, hl with | [_, _, _], _ => rfl, Fd.kp⟩
  refine ok_def (Γ := Gm K w) (n := 5) (m := b_spans_fault) rfl Fd sc_spans_fault rfl fun cdv A outer s H E0 hr => ?_
  unfold b_spans_fault
  exact (qs_cons (qs_if (PW.pt (qw_or (qt_not (qt_val (q_isiT rfl T.ins (all_cons (T.is_ 34) (all_cons (T.is_ 30) (fun _ h => nomatch h))) (T.free 7) (q_var 2) (.cons (pe_bltn (v := .ty "list") rfl (T.free 3) (by decide +kernel) rfl) (.cons (pe_bltn (v := .ty "tuple") rfl (T.free 18) (by decide +kernel) rfl) .nil rfl) rfl)))) (qw_or1 (qt_cmp op_gt ok_cmp (q_callB cr_len ok_len (T.free 1) (by decide +kernel) (qa_cons (q_var 2) qa_nil)) (q_gint (T.cint (x := "MOST_SPANS") (v := 60) 33)) (nomark _))))) (qs_one (qs_ret (q_un un_neg ok_neg q_int))) qs_nil)
      (qs_cons (qs_for (passes_of rfl) rfl (qi_enuZ rfl (T.free 17) (q_var 2)) (qg_tup rfl rfl (qgs_cons (qg_name (i := 3) sc_spans_fault.nd) (qgs_cons (qg_name (i := 4) sc_spans_fault.nd) qgs_nil))) (qs_one (qs_if (PW.pt (qw_or (qt_not (qt_val (q_call G_is_span (hr.mono (by decide : 5 ≤ 5)) (T.glo 35) k_is_span b_is_span (takes_of rfl rfl rfl rfl) (qa_cons (q_var 0) (qa_cons (q_var 1) (qa_cons (q_var 4) qa_nil)))))) (qw_or1 (qt_cmp (or_inZ rfl (hr.mono (by decide : 0 ≤ 5))) ok_inZ (q_var 4) (q_sl rfl (q_var 2) qo_none (qo_some (q_var 3))) (by rfl))))) (qs_one (qs_ret (q_var 3))) qs_nil)))
      (qs_one (qs_ret q_non))))
theorem sc_are_events : FnScope ["thing"] ["thing"] (defScope (top 24)) := ⟨rfl, rfl, rfl, by decide +kernel, rfl, by decide +kernel, by decide +kernel⟩
theorem ok_are_events (T : Txt K mg) : ∃ fd, FnOk P w K mg base (L2.CX P w) 2 (He.ga K "are_events") fd ["thing"] (spOf (Gm K w) 1 f_are_events) ∧ Binds K fd ["thing"] [] ∧ PySem.W.keepIn K (.ref (He.ga K "are_events")) = true := by
  obtain ⟨fd, Fd⟩ := T.says.def_ 21
  obtain ⟨d_is_integer, G_is_integer, b_is_integer, k_is_integer⟩ := ok_is_integer (P := P) (w := w) (base := base) T
  refine ⟨fd, ?_, Fd.bindsN fun _ _ _ _ _ _ us hl => match us, hl with | [_], _ => rfl, Fd.kp⟩
  refine ok_def (Γ := Gm K w) (n := 1) (m := b_are_events) rfl Fd sc_are_events rfl fun cdv A outer s H E0 hr => ?_
  unfold b_are_events
  exact (qs_one (qs_ret (q_and (q_call G_is_integer (hr.mono (by decide : 1 ≤ 1)) (T.glo 11) k_is_integer b_is_integer (takes_of rfl rfl rfl rfl) (qa_cons (q_var 0) qa_nil)) (q_one (q_chain op_le ok_cmp op_le ok_cmp q_int (q_var 0) (q_gint (T.cint (x := "MOST_EVENTS") (v := 24) 36)))))))
theorem sc_Net___init__ : FnScope ["self", "beat", "events", "spans", "fault"] ["self", "beat", "events", "spans"] (defScope (inClass (top 23) 0)) := ⟨rfl, rfl, rfl, by decide +kernel, rfl, by decide +kernel, by decide +kernel⟩
theorem ok_Net___init__ (T : Txt K mg) : ∃ fd, FnOk P w K mg base (L2.CX P w) 7 (He.ma K (He.ga K "Net") "__init__") fd ["self", "beat", "events", "spans"] (spOf (Gm K w) 4 f_Net___init__) ∧ Binds K fd ["self", "beat", "events", "spans"] [] ∧ PySem.W.keepIn K (.ref (He.ma K (He.ga K "Net") "__init__")) = true := by
  obtain ⟨fd, Fd⟩ := T.says.def_ 22
  obtain ⟨d_is_integer, G_is_integer, b_is_integer, k_is_integer⟩ := ok_is_integer (P := P) (w := w) (base := base) T
  obtain ⟨d_are_events, G_are_events, b_are_events, k_are_events⟩ := ok_are_events (P := P) (w := w) (base := base) T
  obtain ⟨d_spans_fault, G_spans_fault, b_spans_fault, k_spans_fault⟩ := ok_spans_fault (P := P) (w := w) (base := base) T
  refine ⟨fd, ?_, Fd.bindsN fun _ _ _ _ _ _ us hl => match us, hl with | [_, _, _, _], _ => rfl, Fd.kp⟩
  refine ok_def (Γ := Gm K w) (n := 5) (m := b_Net___init__) rfl Fd sc_Net___init__ rfl fun cdv A outer s H E0 hr => ?_
  unfold b_Net___init__
  exact (qs_cons (qs_if (PW.pt (qw_or (qt_not (qt_val (q_call G_is_integer (hr.mono (by decide : 1 ≤ 6)) (T.glo 11) k_is_integer b_is_integer (takes_of rfl rfl rfl rfl) (qa_cons (q_var 1) qa_nil)))) (qw_or1 (qt_not (qt_chain op_le ok_cmp op_le ok_cmp (q_gint (T.cint (x := "LEAST_BEAT") (v := 3) 37)) (q_var 1) (q_gint (T.cint (x := "MOST_BEAT") (v := 1440) 38))))))) (qs_one (qs_raise1 rfl (x1_BadBeat T) rfl (takes_of rfl rfl rfl rfl) (hr.mono (by decide : 2 ≤ 6)) (by decide) (q_var 1))) qs_nil)
      (qs_cons (qs_if (qt_not (qt_val (q_call G_are_events (hr.mono (by decide : 2 ≤ 6)) (T.glo 39) k_are_events b_are_events (takes_of rfl rfl rfl rfl) (qa_cons (q_var 2) qa_nil)))) (qs_one (qs_raise1 rfl (x1_BadEvents T) rfl (takes_of rfl rfl rfl rfl) (hr.mono (by decide : 2 ≤ 6)) (by decide) (q_var 2))) qs_nil)
      (qs_cons (qs_set (i := 4) sc_Net___init__.nd (q_call G_spans_fault (hr.mono (by decide : 6 ≤ 6)) (T.glo 40) k_spans_fault b_spans_fault (takes_of rfl rfl rfl rfl) (qa_cons (q_var 1) (qa_cons (q_var 2) (qa_cons (q_var 3) qa_nil)))))
      (qs_cons (qs_if (qt_cmp op_notN ok_notN (q_var 4) q_non (nomark _)) (qs_one (qs_raise1 rfl (x1_BadSpan T) rfl (takes_of rfl rfl rfl rfl) (hr.mono (by decide : 2 ≤ 6)) (by decide) (q_var 4))) qs_nil)
      (qs_cons (qs_setF (i := 0) T.pl rfl (q_var 1))
      (qs_cons (qs_setF (i := 0) T.pl rfl (q_var 2))
      (qs_one (qs_setF (i := 0) T.pl rfl (q_callTy call_tuple_of ok_tuple (T.free 18) (by decide +kernel) (qa_cons (q_var 3) qa_nil))))))))))
theorem sc__law_both : FnScope ["_law_one", "_law_other", "_law_event"] ["_law_one", "_law_other"] (defScope (top 42)) := ⟨rfl, rfl, rfl, by decide +kernel, rfl, by decide +kernel, by decide +kernel⟩
theorem ok__law_both (T : Txt K mg) : ∃ fd, FnOk P w K mg base (L2.CX P w) 4 (He.ga K "_law_both") fd ["_law_one", "_law_other"] (spOf (Gm K w) 2 f__law_both) ∧ Binds K fd ["_law_one", "_law_other"] [] ∧ PySem.W.keepIn K (.ref (He.ga K "_law_both")) = true := by
  obtain ⟨fd, Fd⟩ := T.says.def_ 23
  refine ⟨fd, ?_, Fd.bindsN fun _ _ _ _ _ _ us hl => match us, hl with | [_, _], _ => rfl, Fd.kp⟩
  refine ok_def (Γ := Gm K w) (n := 3) (m := b__law_both) rfl Fd sc__law_both rfl fun cdv A outer s H E0 hr => ?_
  unfold b__law_both
  exact (qs_one (qs_ret (q_tup (qa_cons (q_callTy call_tuple_of ok_tuple (T.free 18) (by decide +kernel) (qa_cons (q_lc (own := [("_law_event", 2)]) (g := (.nm 2)) rfl rfl sc__law_both.nd (qi_seq rfl (q_ix ix_seq ok_ix (q_var 0) q_int (fun _ _ => rfl))) (blkOk_by (N := ["_law_one", "_law_other", "_law_event"]) (sc := defScope (top 42)) (by decide +kernel)) (fun _ _ _ _ _ => (qr_nm (Γ := Gm K w) (i := 2) sc__law_both.nd)) (fun _ _ _ _ _ => qts_nil) (fun _ _ _ _ _ => (q_ix ix_seq ok_ix (q_ix ix_seq ok_ix (q_var 1) q_int (fun _ _ => rfl)) (q_var 2) (fun _ _ => rfl)))) qa_nil)) (qa_cons (q_cmp (or_eqZ rfl (hr.mono (by decide : 3 ≤ 3)) (eqc T)) (ok_eqZ T.ins) (q_ix ix_seq ok_ix (q_var 0) q_int (fun _ _ => rfl)) (q_ix ix_seq ok_ix (q_var 1) q_int (fun _ _ => rfl)) (nomark _)) qa_nil)))))
theorem sc__law_word : FnScope ["_law_source_here", "_law_gens", "_law_many", "_law_found", "_law_k"] ["_law_source_here", "_law_gens", "_law_many"] (defScope (top 43)) := ⟨rfl, rfl, rfl, by decide +kernel, rfl, by decide +kernel, by decide +kernel⟩
theorem ok__law_word (T : Txt K mg) : ∃ fd, FnOk P w K mg base (L2.CX P w) 5 (He.ga K "_law_word") fd ["_law_source_here", "_law_gens", "_law_many"] (spOf (Gm K w) 3 f__law_word) ∧ Binds K fd ["_law_source_here", "_law_gens", "_law_many"] [] ∧ PySem.W.keepIn K (.ref (He.ga K "_law_word")) = true := by
  obtain ⟨fd, Fd⟩ := T.says.def_ 24
  obtain ⟨d__law_draw, G__law_draw, b__law_draw, k__law_draw⟩ := ok__law_draw (P := P) (w := w) (base := base) T
  obtain ⟨d__law_both, G__law_both, b__law_both, k__law_both⟩ := ok__law_both (P := P) (w := w) (base := base) T
  refine ⟨fd, ?_, Fd.bindsN fun _ _ _ _ _ _ us hl => match us, hl with | [_, _, _], _ => rfl, Fd.kp⟩
  refine ok_def (Γ := Gm K w) (n := 5) (m := b__law_word) rfl Fd sc__law_word rfl fun cdv A outer s H E0 hr => ?_
  unfold b__law_word
  exact (qs_cons (qs_set (i := 3) sc__law_word.nd (q_tup (qa_cons (q_tupRg1 rfl (T.free 18) (T.free 4) (q_var 2)) (qa_cons q_bl qa_nil))))
      (qs_cons (qs_for (passes_of rfl) rfl (qi_rng1 (T.free 4) (qa_cons (q_ifE (qt_cmp (or_ne (k := 3) rfl (hr.mono (by decide : 4 ≤ 4)) (nec T)) ok_neX (q_var 1) (q_lst qa_nil) (nomark _)) (q_op or_add ok_add q_int (q_call G__law_draw (hr.mono (by decide : 1 ≤ 4)) (T.glo 2) k__law_draw b__law_draw (takes_of rfl rfl rfl rfl) (qa_cons (q_var 0) (qa_cons q_int qa_nil)))) q_int) qa_nil)) (qg_name (i := 4) sc__law_word.nd) (qs_one (qs_set (i := 3) sc__law_word.nd (q_call G__law_both (hr.mono (by decide : 4 ≤ 4)) (T.glo 41) k__law_both b__law_both (takes_of rfl rfl rfl rfl) (qa_cons (q_var 3) (qa_cons (q_ix ix_seq ok_ix (q_var 1) (q_call G__law_draw (hr.mono (by decide : 1 ≤ 4)) (T.glo 2) k__law_draw b__law_draw (takes_of rfl rfl rfl rfl) (qa_cons (q_var 0) (qa_cons (q_callB cr_len ok_len (T.free 1) (by decide +kernel) (qa_cons (q_var 1) qa_nil)) qa_nil))) (fun _ _ => rfl)) qa_nil))))))
      (qs_one (qs_ret (q_var 3)))))
theorem sc_Ratio___init__ : FnScope ["self", "top", "bottom", "value", "common"] ["self", "top", "bottom"] (defScope (inClass (top 16) 0)) := ⟨rfl, rfl, rfl, by decide +kernel, rfl, by decide +kernel, by decide +kernel⟩
theorem ok_Ratio___init__ (T : Txt K mg) : ∃ fd, FnOk P w K mg base (L2.CX P w) 4 (He.ma K (He.ga K "Ratio") "__init__") fd ["self", "top", "bottom"] (spOf (Gm K w) 3 f_Ratio___init__) ∧ Binds K fd ["self", "top", "bottom"] [] ∧ PySem.W.keepIn K (.ref (He.ma K (He.ga K "Ratio") "__init__")) = true := by
  obtain ⟨fd, Fd⟩ := T.says.def_ 25
  obtain ⟨d_is_integer, G_is_integer, b_is_integer, k_is_integer⟩ := ok_is_integer (P := P) (w := w) (base := base) T
  refine ⟨fd, ?_, Fd.bindsN fun _ _ _ _ _ _ us hl => match us, hl with | [_, _, _], _ => rfl, Fd.kp⟩
  refine ok_def (Γ := Gm K w) (n := 5) (m := b_Ratio___init__) rfl Fd sc_Ratio___init__ rfl fun cdv A outer s H E0 hr => ?_
  unfold b_Ratio___init__
  exact (qs_cons (qs_for (passes_of rfl) rfl (qi_seq rfl (q_tup (qa_cons (q_var 1) (qa_cons (q_var 2) qa_nil)))) (qg_name (i := 3) sc_Ratio___init__.nd) (qs_one (qs_if (qt_not (qt_val (q_call G_is_integer (hr.mono (by decide : 1 ≤ 3)) (T.glo 11) k_is_integer b_is_integer (takes_of rfl rfl rfl rfl) (qa_cons (q_var 3) qa_nil)))) (qs_one (qs_raise1 rfl (x1_BadNumber T) rfl (takes_of rfl rfl rfl rfl) (hr.mono (by decide : 2 ≤ 3)) (by decide) (q_var 3))) qs_nil)))
      (qs_cons (qs_if (qt_cmp (or_eqZ rfl (hr.mono (by decide : 3 ≤ 3)) (eqc T)) (ok_eqZ T.ins) (q_var 2) q_int (nomark _)) (qs_one (qs_raise1 rfl (x1_BadNumber T) rfl (takes_of rfl rfl rfl rfl) (hr.mono (by decide : 2 ≤ 3)) (by decide) (q_var 2))) qs_nil)
      (qs_cons (qs_set (i := 4) sc_Ratio___init__.nd (q_ifE (qt_cmp op_gt ok_cmp (q_var 2) q_int (nomark _)) (q_callG cr_gcd ok_gcd (T.bi 42) (qa_cons (q_var 1) (qa_cons (q_var 2) qa_nil))) (q_un un_neg ok_neg (q_callG cr_gcd ok_gcd (T.bi 42) (qa_cons (q_var 1) (qa_cons (q_var 2) qa_nil))))))
      (qs_cons (qs_setF (i := 0) T.pl rfl (q_op op_fdivA ok_div (q_var 1) (q_var 4)))
      (qs_one (qs_setF (i := 0) T.pl rfl (q_op op_fdivA ok_div (q_var 2) (q_var 4))))))))
theorem sc__law_spoiled : FnScope ["_law_source_here", "_law_likeness", "_law_goes", "_law_place", "_law_strange", "_law_pick", "_law_other"] ["_law_source_here", "_law_likeness"] (defScope (top 53)) := ⟨rfl, rfl, rfl, by decide +kernel, rfl, by decide +kernel, by decide +kernel⟩
theorem ok__law_spoiled (T : Txt K mg) : ∃ fd, FnOk P w K mg base (L2.CX P w) 6 (He.ga K "_law_spoiled") fd ["_law_source_here", "_law_likeness"] (spOf (Gm K w) 2 f__law_spoiled) ∧ Binds K fd ["_law_source_here", "_law_likeness"] [] ∧ PySem.W.keepIn K (.ref (He.ga K "_law_spoiled")) = true := by
  obtain ⟨fd, Fd⟩ := T.says.def_ 26
  obtain ⟨d__law_draw, G__law_draw, b__law_draw, k__law_draw⟩ := ok__law_draw (P := P) (w := w) (base := base) T
  obtain ⟨d_Ratio___init__, G_Ratio___init__, b_Ratio___init__, k_Ratio___init__⟩ := ok_Ratio___init__ (P := P) (w := w) (base := base) T
  refine ⟨fd, ?_, Fd.bindsN fun _ _ _ _ _ _ us hl => match us, hl with | [_, _], _ => rfl, Fd.kp⟩
  refine ok_def (Γ := Gm K w) (n := 7) (m := b__law_spoiled) rfl Fd sc__law_spoiled rfl fun cdv A outer s H E0 hr => ?_
  unfold b__law_spoiled
  exact (qs_cons (qs_set (i := 2) sc__law_spoiled.nd (q_callTy call_list_of ok_list (T.free 3) (by decide +kernel) (qa_cons (q_ix ix_seq ok_ix (q_var 1) q_int (fun _ _ => rfl)) qa_nil)))
      (qs_cons (qs_set (i := 3) sc__law_spoiled.nd (q_call G__law_draw (hr.mono (by decide : 1 ≤ 5)) (T.glo 2) k__law_draw b__law_draw (takes_of rfl rfl rfl rfl) (qa_cons (q_var 0) (qa_cons (q_callB cr_len ok_len (T.free 1) (by decide +kernel) (qa_cons (q_var 2) qa_nil)) qa_nil))))
      (qs_cons (qs_set (i := 4) sc__law_spoiled.nd (q_tup (qa_cons q_bl (qa_cons q_bl (qa_cons (q_un un_neg ok_neg q_int) (qa_cons (q_callB cr_len ok_len (T.free 1) (by decide +kernel) (qa_cons (q_var 2) qa_nil)) (qa_cons (q_op op_pow ok_pow q_int q_int) (qa_cons q_non (qa_cons q_str (qa_cons (q_tup (qa_cons q_int qa_nil)) (qa_cons (q_lst qa_nil) (qa_cons (q_un un_neg ok_neg (q_op op_pow ok_pow q_int q_int)) (qa_cons (q_make (C := "Ratio") (T.pl.1 _ (by decide)).sub (T.mkr 43) G_Ratio___init__ (hr.mono (by decide : 5 ≤ 5)) (T.glo 9) b_Ratio___init__ (takes_of rfl rfl rfl rfl) (qa_cons (q_var 3) (qa_cons q_int qa_nil))) (qa_cons (q_make (C := "Ratio") (T.pl.1 _ (by decide)).sub (T.mkr 43) G_Ratio___init__ (hr.mono (by decide : 5 ≤ 5)) (T.glo 9) b_Ratio___init__ (takes_of rfl rfl rfl rfl) (qa_cons q_int (qa_cons q_int qa_nil))) qa_nil))))))))))))))
      (qs_cons (qs_set (i := 5) sc__law_spoiled.nd (q_call G__law_draw (hr.mono (by decide : 1 ≤ 5)) (T.glo 2) k__law_draw b__law_draw (takes_of rfl rfl rfl rfl) (qa_cons (q_var 0) (qa_cons q_int qa_nil))))
      (qs_cons (qs_if (qt_cmp (or_eqZ rfl (hr.mono (by decide : 3 ≤ 5)) (eqc T)) (ok_eqZ T.ins) (q_var 5) q_int (nomark _)) (qs_one (qs_ret (q_tup (qa_cons (q_callTy call_tuple_of ok_tuple (T.free 18) (by decide +kernel) (qa_cons (q_var 2) qa_nil)) (qa_cons (q_ix ix_seq ok_ix (q_tup (qa_cons q_int (qa_cons q_int (qa_cons q_non (qa_cons q_str (qa_cons (q_tup (qa_cons q_bl qa_nil)) qa_nil)))))) (q_call G__law_draw (hr.mono (by decide : 1 ≤ 5)) (T.glo 2) k__law_draw b__law_draw (takes_of rfl rfl rfl rfl) (qa_cons (q_var 0) (qa_cons q_int qa_nil))) (fun _ _ => rfl)) qa_nil))))) qs_nil)
      (qs_cons (qs_if (qt_cmp (or_eqZ rfl (hr.mono (by decide : 3 ≤ 5)) (eqc T)) (ok_eqZ T.ins) (q_var 5) q_int (nomark _)) (qs_one (qs_ret (q_ix ix_seq ok_ix (q_tup (qa_cons (q_lst (qa_cons (q_var 2) (qa_cons (q_ix ix_seq ok_ix (q_var 1) q_int (fun _ _ => rfl)) qa_nil))) (qa_cons (q_tup (qa_cons (q_var 2) (qa_cons (q_ix ix_seq ok_ix (q_var 1) q_int (fun _ _ => rfl)) qa_nil))) (qa_cons (q_tup (qa_cons (q_callTy call_tuple_of ok_tuple (T.free 18) (by decide +kernel) (qa_cons (q_var 2) qa_nil)) qa_nil)) (qa_cons q_int (qa_cons q_non qa_nil)))))) (q_call G__law_draw (hr.mono (by decide : 1 ≤ 5)) (T.glo 2) k__law_draw b__law_draw (takes_of rfl rfl rfl rfl) (qa_cons (q_var 0) (qa_cons q_int qa_nil))) (fun _ _ => rfl)))) qs_nil)
      (qs_cons (qs_if (qt_cmp (or_eqZ rfl (hr.mono (by decide : 3 ≤ 5)) (eqc T)) (ok_eqZ T.ins) (q_var 5) q_int (nomark _)) (qs_one (qs_ret (q_tup (qa_cons (q_callTy call_tuple_of ok_tuple (T.free 18) (by decide +kernel) (qa_cons (q_op or_add ok_add (q_var 2) (q_lst (qa_cons (q_var 3) qa_nil))) qa_nil)) (qa_cons (q_ix ix_seq ok_ix (q_var 1) q_int (fun _ _ => rfl)) qa_nil))))) qs_nil)
      (qs_cons (qs_if (qt_cmp (or_eqZ rfl (hr.mono (by decide : 3 ≤ 5)) (eqc T)) (ok_eqZ T.ins) (q_var 5) q_int (nomark _)) (qs_one (qs_ret (q_tup (qa_cons (q_callTy call_tuple_of ok_tuple (T.free 18) (by decide +kernel) (qa_cons (q_op or_add ok_add (q_sl rfl (q_var 2) qo_none (qo_some (q_var 3))) (q_sl rfl (q_var 2) (qo_some (q_op or_add ok_add (q_var 3) q_int)) qo_none)) qa_nil)) (qa_cons (q_ix ix_seq ok_ix (q_var 1) q_int (fun _ _ => rfl)) qa_nil))))) qs_nil)
      (qs_cons (qs_if (qt_cmp (or_eqZ rfl (hr.mono (by decide : 3 ≤ 5)) (eqc T)) (ok_eqZ T.ins) (q_var 5) q_int (nomark _)) (qs_one (qs_ret (q_tup (qa_cons (q_callTy call_tuple_of ok_tuple (T.free 18) (by decide +kernel) (qa_cons (q_var 2) qa_nil)) (qa_cons (q_not (q_ix ix_seq ok_ix (q_var 1) q_int (fun _ _ => rfl))) qa_nil))))) qs_nil)
      (qs_cons (qs_if (qt_cmp op_gt ok_cmp (q_var 5) q_int (nomark _)) (qs_one (qs_asg (q_ix ix_seq ok_ix (q_var 4) (q_call G__law_draw (hr.mono (by decide : 1 ≤ 5)) (T.glo 2) k__law_draw b__law_draw (takes_of rfl rfl rfl rfl) (qa_cons (q_var 0) (qa_cons q_int qa_nil))) (fun _ _ => rfl)) (qg_sub (W := WF E0) (q_var 2) (q_var 3)))) qs_nil)
      (qs_cons (qs_if (qt_cmp (or_inZ rfl (hr.mono (by decide : 0 ≤ 5))) ok_inZ (q_var 5) (q_tup (qa_cons q_int (qa_cons q_int qa_nil))) (by rfl)) (qs_cons (qs_set (i := 6) sc__law_spoiled.nd (q_call G__law_draw (hr.mono (by decide : 1 ≤ 5)) (T.glo 2) k__law_draw b__law_draw (takes_of rfl rfl rfl rfl) (qa_cons (q_var 0) (qa_cons (q_callB cr_len ok_len (T.free 1) (by decide +kernel) (qa_cons (q_var 2) qa_nil)) qa_nil))))
      (qs_one (qs_asg (q_ix ix_seq ok_ix (q_var 2) (q_call G__law_draw (hr.mono (by decide : 1 ≤ 5)) (T.glo 2) k__law_draw b__law_draw (takes_of rfl rfl rfl rfl) (qa_cons (q_var 0) (qa_cons (q_callB cr_len ok_len (T.free 1) (by decide +kernel) (qa_cons (q_var 2) qa_nil)) qa_nil))) (fun _ _ => rfl)) (qg_sub (W := WF E0) (q_var 2) (q_var 6))))) qs_nil)
      (qs_cons (qs_if (qt_cmp (or_inZ rfl (hr.mono (by decide : 0 ≤ 5))) ok_inZ (q_var 5) (q_tup (qa_cons q_int (qa_cons q_int qa_nil))) (by rfl)) (qs_cons (qs_set (i := 6) sc__law_spoiled.nd (q_call G__law_draw (hr.mono (by decide : 1 ≤ 5)) (T.glo 2) k__law_draw b__law_draw (takes_of rfl rfl rfl rfl) (qa_cons (q_var 0) (qa_cons (q_callB cr_len ok_len (T.free 1) (by decide +kernel) (qa_cons (q_var 2) qa_nil)) qa_nil))))
      (qs_one (qs_asg (q_tup (qa_cons (q_ix ix_seq ok_ix (q_var 2) (q_var 6) (fun _ _ => rfl)) (qa_cons (q_ix ix_seq ok_ix (q_var 2) (q_var 3) (fun _ _ => rfl)) qa_nil))) (qg_tup rfl rfl (qgs_cons (qg_sub (W := WF E0) (q_var 2) (q_var 3)) (qgs_cons (qg_sub (W := WF E0) (q_var 2) (q_var 6)) qgs_nil)))))) qs_nil)
      (qs_one (qs_ret (q_tup (qa_cons (q_callTy call_tuple_of ok_tuple (T.free 18) (by decide +kernel) (qa_cons (q_var 2) qa_nil)) (qa_cons (q_ix ix_seq ok_ix (q_var 1) q_int (fun _ _ => rfl)) qa_nil)))))))))))))))))
theorem sc_span_led : FnScope ["span", "moved", "forth", "i", "j", "low", "high"] ["span", "moved", "forth"] (defScope (top 30)) := ⟨rfl, rfl, rfl, by decide +kernel, rfl, by decide +kernel, by decide +kernel⟩
theorem ok_span_led (T : Txt K mg) : ∃ fd, FnOk P w K mg base (L2.CX P w) 1 (He.ga K "span_led") fd ["span", "moved", "forth"] (spOf (Gm K w) 3 f_span_led) ∧ Binds K fd ["span", "moved", "forth"] [] ∧ PySem.W.keepIn K (.ref (He.ga K "span_led")) = true := by
  obtain ⟨fd, Fd⟩ := T.says.def_ 27
  refine ⟨fd, ?_, Fd.bindsN fun _ _ _ _ _ _ us hl => match us, hl with | [_, _, _], _ => rfl, Fd.kp⟩
  refine ok_def (Γ := Gm K w) (n := 7) (m := b_span_led) rfl Fd sc_span_led rfl fun cdv A outer s H E0 hr => ?_
  unfold b_span_led
  exact (qs_cons (qs_asg (q_var 0) (qg_tup rfl rfl (qgs_cons (qg_name (i := 3) sc_span_led.nd) (qgs_cons (qg_name (i := 4) sc_span_led.nd) (qgs_cons (qg_name (i := 5) sc_span_led.nd) (qgs_cons (qg_name (i := 6) sc_span_led.nd) qgs_nil))))))
      (qs_one (qs_ret (q_ifE (qt_val (q_var 2)) (q_tup (qa_cons (q_ix ix_seq ok_ix (q_var 1) (q_var 3) (fun _ _ => rfl)) (qa_cons (q_ix ix_seq ok_ix (q_var 1) (q_var 4) (fun _ _ => rfl)) (qa_cons (q_var 5) (qa_cons (q_var 6) qa_nil))))) (q_tup (qa_cons (q_ix ix_seq ok_ix (q_var 1) (q_var 4) (fun _ _ => rfl)) (qa_cons (q_ix ix_seq ok_ix (q_var 1) (q_var 3) (fun _ _ => rfl)) (qa_cons (q_var 5) (qa_cons (q_var 6) qa_nil)))))))))
theorem sc_is_event : FnScope ["net", "thing"] ["net", "thing"] (defScope (top 28)) := ⟨rfl, rfl, rfl, by decide +kernel, rfl, by decide +kernel, by decide +kernel⟩
theorem ok_is_event (T : Txt K mg) : ∃ fd, FnOk P w K mg base (L2.CX P w) 3 (He.ga K "is_event") fd ["net", "thing"] (spOf (Gm K w) 2 f_is_event) ∧ Binds K fd ["net", "thing"] [] ∧ PySem.W.keepIn K (.ref (He.ga K "is_event")) = true := by
  obtain ⟨fd, Fd⟩ := T.says.def_ 28
  obtain ⟨d_is_below, G_is_below, b_is_below, k_is_below⟩ := ok_is_below (P := P) (w := w) (base := base) T
  refine ⟨fd, ?_, Fd.bindsN fun _ _ _ _ _ _ us hl => match us, hl with | [_, _], _ => rfl, Fd.kp⟩
  refine ok_def (Γ := Gm K w) (n := 2) (m := b_is_event) rfl Fd sc_is_event rfl fun cdv A outer s H E0 hr => ?_
  unfold b_is_event
  exact (qs_one (qs_ret (q_call G_is_below (hr.mono (by decide : 2 ≤ 2)) (T.glo 31) k_is_below b_is_below (takes_of rfl rfl rfl rfl) (qa_cons (q_fld T.pl rfl (q_var 0)) (qa_cons (q_var 1) qa_nil)))))
theorem sc_likeness_fault : FnScope ["net", "thing", "moved", "forth", "index", "event", "span"] ["net", "thing"] (defScope (top 31)) := ⟨rfl, rfl, rfl, by decide +kernel, rfl, by decide +kernel, by decide +kernel⟩
theorem ok_likeness_fault (T : Txt K mg) : ∃ fd, FnOk P w K mg base (L2.CX P w) 5 (He.ga K "likeness_fault") fd ["net", "thing"] (spOf (Gm K w) 2 f_likeness_fault) ∧ Binds K fd ["net", "thing"] [] ∧ PySem.W.keepIn K (.ref (He.ga K "likeness_fault")) = true := by
  obtain ⟨fd, Fd⟩ := T.says.def_ 29
  obtain ⟨d_is_event, G_is_event, b_is_event, k_is_event⟩ := ok_is_event (P := P) (w := w) (base := base) T
  obtain ⟨d_span_led, G_span_led, b_span_led, k_span_led⟩ := ok_span_led (P := P) (w := w) (base := base) T
  refine ⟨fd, ?_, Fd.bindsN fun _ _ _ _ _ _ us hl => match us, hl with | [_, _], _ => rfl, Fd.kp⟩
  refine ok_def (Γ := Gm K w) (n := 7) (m := b_likeness_fault) rfl Fd sc_likeness_fault rfl fun cdv A outer s H E0 hr => ?_
  unfold b_likeness_fault
  exact (qs_cons (qs_if (PW.pt (qw_or (qt_not (qt_val (q_isi (T := (.bi "tuple")) rfl T.ins (T.is_ 30) (T.free 7) (q_var 1) (pe_bltn (v := .ty "tuple") rfl (T.free 18) (by decide +kernel) rfl)))) (qw_or1 (qt_cmp (or_ne (k := 3) rfl (hr.mono (by decide : 4 ≤ 4)) (nec T)) ok_neX (q_callB cr_len ok_len (T.free 1) (by decide +kernel) (qa_cons (q_var 1) qa_nil)) q_int (nomark _))))) (qs_one (qs_ret (q_tup (qa_cons q_str (qa_cons (q_un un_neg ok_neg q_int) qa_nil))))) qs_nil)
      (qs_cons (qs_asg (q_var 1) (qg_tup rfl rfl (qgs_cons (qg_name (i := 2) sc_likeness_fault.nd) (qgs_cons (qg_name (i := 3) sc_likeness_fault.nd) qgs_nil))))
      (qs_cons (qs_if (PW.pt (qw_or (qt_not (qt_val (q_isi (T := (.bi "tuple")) rfl T.ins (T.is_ 30) (T.free 7) (q_var 2) (pe_bltn (v := .ty "tuple") rfl (T.free 18) (by decide +kernel) rfl)))) (qw_or (qt_cmp (or_ne (k := 3) rfl (hr.mono (by decide : 4 ≤ 4)) (nec T)) ok_neX (q_callB cr_len ok_len (T.free 1) (by decide +kernel) (qa_cons (q_var 2) qa_nil)) (q_fld T.pl rfl (q_var 0)) (nomark _)) (qw_or1 (qt_not (qt_val (q_isi (T := (.bi "bool")) rfl T.ins (T.is_ 6) (T.free 7) (q_var 3) (pe_bltn (v := .ty "bool") rfl (T.free 5) (by decide +kernel) rfl)))))))) (qs_one (qs_ret (q_tup (qa_cons q_str (qa_cons (q_un un_neg ok_neg q_int) qa_nil))))) qs_nil)
      (qs_cons (qs_for (passes_of rfl) rfl (qi_enuZ rfl (T.free 17) (q_var 2)) (qg_tup rfl rfl (qgs_cons (qg_name (i := 4) sc_likeness_fault.nd) (qgs_cons (qg_name (i := 5) sc_likeness_fault.nd) qgs_nil))) (qs_one (qs_if (PW.pt (qw_or (qt_not (qt_val (q_call G_is_event (hr.mono (by decide : 3 ≤ 4)) (T.glo 44) k_is_event b_is_event (takes_of rfl rfl rfl rfl) (qa_cons (q_var 0) (qa_cons (q_var 5) qa_nil))))) (qw_or1 (qt_cmp (or_inZ rfl (hr.mono (by decide : 0 ≤ 4))) ok_inZ (q_var 5) (q_sl rfl (q_var 2) qo_none (qo_some (q_var 4))) (by rfl))))) (qs_one (qs_ret (q_tup (qa_cons q_str (qa_cons (q_var 4) qa_nil))))) qs_nil)))
      (qs_cons (qs_for (passes_of rfl) rfl (qi_enuZ rfl (T.free 17) (q_fld T.pl rfl (q_var 0))) (qg_tup rfl rfl (qgs_cons (qg_name (i := 4) sc_likeness_fault.nd) (qgs_cons (qg_name (i := 6) sc_likeness_fault.nd) qgs_nil))) (qs_one (qs_if (qt_cmp (or_notInZ rfl (hr.mono (by decide : 0 ≤ 4))) ok_inZ (q_call G_span_led (hr.mono (by decide : 1 ≤ 4)) (T.glo 45) k_span_led b_span_led (takes_of rfl rfl rfl rfl) (qa_cons (q_var 6) (qa_cons (q_var 2) (qa_cons (q_var 3) qa_nil)))) (q_fld T.pl rfl (q_var 0)) (by rfl)) (qs_one (qs_ret (q_tup (qa_cons q_str (qa_cons (q_var 4) qa_nil))))) qs_nil)))
      (qs_one (qs_ret q_non)))))))
theorem sc_is_likeness : FnScope ["net", "thing"] ["net", "thing"] (defScope (top 32)) := ⟨rfl, rfl, rfl, by decide +kernel, rfl, by decide +kernel, by decide +kernel⟩
theorem ok_is_likeness (T : Txt K mg) : ∃ fd, FnOk P w K mg base (L2.CX P w) 6 (He.ga K "is_likeness") fd ["net", "thing"] (spOf (Gm K w) 2 f_is_likeness) ∧ Binds K fd ["net", "thing"] [] ∧ PySem.W.keepIn K (.ref (He.ga K "is_likeness")) = true := by
  obtain ⟨fd, Fd⟩ := T.says.def_ 30
  obtain ⟨d_likeness_fault, G_likeness_fault, b_likeness_fault, k_likeness_fault⟩ := ok_likeness_fault (P := P) (w := w) (base := base) T
  refine ⟨fd, ?_, Fd.bindsN fun _ _ _ _ _ _ us hl => match us, hl with | [_, _], _ => rfl, Fd.kp⟩
  refine ok_def (Γ := Gm K w) (n := 2) (m := b_is_likeness) rfl Fd sc_is_likeness rfl fun cdv A outer s H E0 hr => ?_
  unfold b_is_likeness
  exact (qs_one (qs_ret (q_cmp op_isN ok_isN (q_call G_likeness_fault (hr.mono (by decide : 5 ≤ 5)) (T.glo 46) k_likeness_fault b_likeness_fault (takes_of rfl rfl rfl rfl) (qa_cons (q_var 0) (qa_cons (q_var 1) qa_nil))) q_non (nomark _))))
theorem sc__law_is_integer : FnScope ["_law_thing"] ["_law_thing"] (defScope (top 37)) := ⟨rfl, rfl, rfl, by decide +kernel, rfl, by decide +kernel, by decide +kernel⟩
theorem ok__law_is_integer (T : Txt K mg) : ∃ fd, FnOk P w K mg base (L2.CX P w) 1 (He.ga K "_law_is_integer") fd ["_law_thing"] (spOf (Gm K w) 1 f__law_is_integer) ∧ Binds K fd ["_law_thing"] [] ∧ PySem.W.keepIn K (.ref (He.ga K "_law_is_integer")) = true := by
  obtain ⟨fd, Fd⟩ := T.says.def_ 31
  refine ⟨fd, ?_, Fd.bindsN fun _ _ _ _ _ _ us hl => match us, hl with | [_], _ => rfl, Fd.kp⟩
  refine ok_def (Γ := Gm K w) (n := 1) (m := b__law_is_integer) rfl Fd sc__law_is_integer rfl fun cdv A outer s H E0 hr => ?_
  unfold b__law_is_integer
  exact (qs_one (qs_ret (q_and (q_isi (T := (.bi "int")) rfl T.ins (T.is_ 8) (T.free 7) (q_var 0) (pe_bltn (v := .ty "int") rfl (T.free 0) (by decide +kernel) rfl)) (q_one (q_not (q_isi (T := (.bi "bool")) rfl T.ins (T.is_ 6) (T.free 7) (q_var 0) (pe_bltn (v := .ty "bool") rfl (T.free 5) (by decide +kernel) rfl)))))))
theorem sc__law_same : FnScope ["_law_told", "_law_due"] ["_law_told", "_law_due"] (defScope (top 55)) := ⟨rfl, rfl, rfl, by decide +kernel, rfl, by decide +kernel, by decide +kernel⟩
theorem ok__law_same (T : Txt K mg) : ∃ fd, FnOk P w K mg base (L2.CX P w) 5 (He.ga K "_law_same") fd ["_law_told", "_law_due"] (spOf (Gm K w) 2 f__law_same) ∧ Binds K fd ["_law_told", "_law_due"] [] ∧ PySem.W.keepIn K (.ref (He.ga K "_law_same")) = true := by
  obtain ⟨fd, Fd⟩ := T.says.def_ 32
  obtain ⟨d__law_is_integer, G__law_is_integer, b__law_is_integer, k__law_is_integer⟩ := ok__law_is_integer (P := P) (w := w) (base := base) T
  refine ⟨fd, ?_, Fd.bindsN fun _ _ _ _ _ _ us hl => match us, hl with | [_, _], _ => rfl, Fd.kp⟩
  refine ok_def (Γ := Gm K w) (n := 2) (m := b__law_same) rfl Fd sc__law_same rfl fun cdv A outer s H E0 hr => ?_
  unfold b__law_same
  exact (qs_cons (qs_if (PW.pt (qw_or (qt_cmp op_isN ok_isN (q_var 1) q_non (nomark _)) (qw_or1 (qt_cmp op_isN ok_isN (q_var 0) q_non (nomark _))))) (qs_one (qs_ret (q_and (q_cmp op_isN ok_isN (q_var 1) q_non (nomark _)) (q_one (q_cmp op_isN ok_isN (q_var 0) q_non (nomark _)))))) qs_nil)
      (qs_cons (qs_if (PW.pt (qw_or (qt_not (qt_val (q_isi (T := (.bi "tuple")) rfl T.ins (T.is_ 30) (T.free 7) (q_var 0) (pe_bltn (v := .ty "tuple") rfl (T.free 18) (by decide +kernel) rfl)))) (qw_or (qt_cmp (or_ne (k := 3) rfl (hr.mono (by decide : 4 ≤ 4)) (nec T)) ok_neX (q_callB cr_len ok_len (T.free 1) (by decide +kernel) (qa_cons (q_var 0) qa_nil)) q_int (nomark _)) (qw_or (qt_not (qt_val (q_isi (T := (.bi "str")) rfl T.ins (T.is_ 49) (T.free 7) (q_ix ix_seq ok_ix (q_var 0) q_int (fun _ _ => rfl)) (pe_bltn (v := .ty "str") rfl (T.free 48) (by decide +kernel) rfl)))) (qw_or1 (qt_not (qt_val (q_call G__law_is_integer (hr.mono (by decide : 1 ≤ 4)) (T.glo 47) k__law_is_integer b__law_is_integer (takes_of rfl rfl rfl rfl) (qa_cons (q_ix ix_seq ok_ix (q_var 0) q_int (fun _ _ => rfl)) qa_nil))))))))) (qs_one (qs_ret q_bl)) qs_nil)
      (qs_one (qs_ret (q_cmp (or_eqZ rfl (hr.mono (by decide : 3 ≤ 4)) (eqc T)) (ok_eqZ T.ins) (q_var 0) (q_var 1) (nomark _))))))
theorem sc_check_likeness : FnScope ["net", "thing"] ["net", "thing"] (defScope (top 33)) := ⟨rfl, rfl, rfl, by decide +kernel, rfl, by decide +kernel, by decide +kernel⟩
theorem ok_check_likeness (T : Txt K mg) : ∃ fd, FnOk P w K mg base (L2.CX P w) 7 (He.ga K "check_likeness") fd ["net", "thing"] (spOf (Gm K w) 2 f_check_likeness) ∧ Binds K fd ["net", "thing"] [] ∧ PySem.W.keepIn K (.ref (He.ga K "check_likeness")) = true := by
  obtain ⟨fd, Fd⟩ := T.says.def_ 33
  obtain ⟨d_is_likeness, G_is_likeness, b_is_likeness, k_is_likeness⟩ := ok_is_likeness (P := P) (w := w) (base := base) T
  refine ⟨fd, ?_, Fd.bindsN fun _ _ _ _ _ _ us hl => match us, hl with | [_, _], _ => rfl, Fd.kp⟩
  refine ok_def (Γ := Gm K w) (n := 2) (m := b_check_likeness) rfl Fd sc_check_likeness rfl fun cdv A outer s H E0 hr => ?_
  unfold b_check_likeness
  exact (qs_one (qs_if (qt_not (qt_val (q_call G_is_likeness (hr.mono (by decide : 6 ≤ 6)) (T.glo 50) k_is_likeness b_is_likeness (takes_of rfl rfl rfl rfl) (qa_cons (q_var 0) (qa_cons (q_var 1) qa_nil))))) (qs_one (qs_raise0 rfl (x0_BadLikeness T) rfl (takes_of rfl rfl rfl rfl) (hr.mono (by decide : 2 ≤ 6)) (by decide))) qs_nil))
theorem sc_indexes_led : FnScope ["net", "likeness", "moved", "forth", "indexes", "index", "span"] ["net", "likeness"] (defScope (top 34)) := ⟨rfl, rfl, rfl, by decide +kernel, rfl, by decide +kernel, by decide +kernel⟩
theorem ok_indexes_led (T : Txt K mg) : ∃ fd, FnOk P w K mg base (L2.CX P w) 2 (He.ga K "indexes_led") fd ["net", "likeness"] (spOf (Gm K w) 2 f_indexes_led) ∧ Binds K fd ["net", "likeness"] [] ∧ PySem.W.keepIn K (.ref (He.ga K "indexes_led")) = true := by
  obtain ⟨fd, Fd⟩ := T.says.def_ 34
  obtain ⟨d_span_led, G_span_led, b_span_led, k_span_led⟩ := ok_span_led (P := P) (w := w) (base := base) T
  refine ⟨fd, ?_, Fd.bindsN fun _ _ _ _ _ _ us hl => match us, hl with | [_, _], _ => rfl, Fd.kp⟩
  refine ok_def (Γ := Gm K w) (n := 7) (m := b_indexes_led) rfl Fd sc_indexes_led rfl fun cdv A outer s H E0 hr => ?_
  unfold b_indexes_led
  exact (qs_cons (qs_asg (q_var 1) (qg_tup rfl rfl (qgs_cons (qg_name (i := 2) sc_indexes_led.nd) (qgs_cons (qg_name (i := 3) sc_indexes_led.nd) qgs_nil))))
      (qs_cons (qs_set (i := 4) sc_indexes_led.nd (q_dcN (own := [("index", 5), ("span", 6)]) (g := (.tp [5, 6])) rfl rfl rfl (hr.mono (by decide : 0 ≤ 1)) rfl sc_indexes_led.nd (qi_enuZ rfl (T.free 17) (q_fld T.pl rfl (q_var 0))) (blkOk_by (N := ["net", "likeness", "moved", "forth", "indexes", "index", "span"]) (sc := defScope (top 34)) (by decide +kernel)) (fun _ _ _ _ _ => (pg_tup rfl (pgs_cons (pg_name (i := 5) sc_indexes_led.nd rfl (by first | exact Or.inl rfl | exact Or.inr rfl)) (pgs_cons (pg_name (i := 6) sc_indexes_led.nd rfl (by first | exact Or.inl rfl | exact Or.inr rfl)) pgs_nil)))) (fun _ _ _ _ _ => qts_nil) (fun _ _ _ _ _ => (q_var 6)) (fun _ _ _ _ _ => (q_var 5))))
      (qs_one (qs_ret (q_callTy call_tuple_of ok_tuple (T.free 18) (by decide +kernel) (qa_cons (q_lc (own := [("span", 6)]) (g := (.nm 6)) rfl rfl sc_indexes_led.nd (qi_seq rfl (q_fld T.pl rfl (q_var 0))) (blkOk_by (N := ["net", "likeness", "moved", "forth", "indexes", "index", "span"]) (sc := defScope (top 34)) (by decide +kernel)) (fun _ _ _ _ _ => (qr_nm (Γ := Gm K w) (i := 6) sc_indexes_led.nd)) (fun _ _ _ _ _ => qts_nil) (fun _ _ _ _ _ => (q_ix (ix_N rfl rfl (hr.mono (by decide : 0 ≤ 1))) ok_ixN (q_var 4) (q_call G_span_led (hr.mono (by decide : 1 ≤ 1)) (T.glo 45) k_span_led b_span_led takes0 (qa_cons (q_var 6) (qa_cons (q_var 2) (qa_cons (q_var 3) qa_nil)))) (fun _ _ => rfl)))) qa_nil))))))
theorem sc_spans_led : FnScope ["net", "likeness"] ["net", "likeness"] (defScope (top 35)) := ⟨rfl, rfl, rfl, by decide +kernel, rfl, by decide +kernel, by decide +kernel⟩
theorem ok_spans_led (T : Txt K mg) : ∃ fd, FnOk P w K mg base (L2.CX P w) 8 (He.ga K "spans_led") fd ["net", "likeness"] (spOf (Gm K w) 2 f_spans_led) ∧ Binds K fd ["net", "likeness"] [] ∧ PySem.W.keepIn K (.ref (He.ga K "spans_led")) = true := by
  obtain ⟨fd, Fd⟩ := T.says.def_ 35
  obtain ⟨d_check_likeness, G_check_likeness, b_check_likeness, k_check_likeness⟩ := ok_check_likeness (P := P) (w := w) (base := base) T
  obtain ⟨d_indexes_led, G_indexes_led, b_indexes_led, k_indexes_led⟩ := ok_indexes_led (P := P) (w := w) (base := base) T
  refine ⟨fd, ?_, Fd.bindsN fun _ _ _ _ _ _ us hl => match us, hl with | [_, _], _ => rfl, Fd.kp⟩
  refine ok_def (Γ := Gm K w) (n := 2) (m := b_spans_led) rfl Fd sc_spans_led rfl fun cdv A outer s H E0 hr => ?_
  unfold b_spans_led
  exact (qs_cons (qs_expr (q_call G_check_likeness (hr.mono (by decide : 7 ≤ 7)) (T.glo 51) k_check_likeness b_check_likeness (takes_of rfl rfl rfl rfl) (qa_cons (q_var 0) (qa_cons (q_var 1) qa_nil))))
      (qs_one (qs_ret (q_call G_indexes_led (hr.mono (by decide : 2 ≤ 7)) (T.glo 52) k_indexes_led b_indexes_led (takes_of rfl rfl rfl rfl) (qa_cons (q_var 0) (qa_cons (q_var 1) qa_nil))))))
theorem sc__law_judged : FnScope ["_law_net", "_law_thing", "_law_due", "_law_judged_here", "e"] ["_law_net", "_law_thing", "_law_due"] (defScope (top 56)) := ⟨rfl, rfl, rfl, by decide +kernel, rfl, by decide +kernel, by decide +kernel⟩
theorem ok__law_judged (T : Txt K mg) : ∃ fd, FnOk P w K mg base (L2.CX P w) 9 (He.ga K "_law_judged") fd ["_law_net", "_law_thing", "_law_due"] (spOf (Gm K w) 3 f__law_judged) ∧ Binds K fd ["_law_net", "_law_thing", "_law_due"] [] ∧ PySem.W.keepIn K (.ref (He.ga K "_law_judged")) = true := by
  obtain ⟨fd, Fd⟩ := T.says.def_ 36
  obtain ⟨d__law_same, G__law_same, b__law_same, k__law_same⟩ := ok__law_same (P := P) (w := w) (base := base) T
  obtain ⟨d_likeness_fault, G_likeness_fault, b_likeness_fault, k_likeness_fault⟩ := ok_likeness_fault (P := P) (w := w) (base := base) T
  obtain ⟨d_is_likeness, G_is_likeness, b_is_likeness, k_is_likeness⟩ := ok_is_likeness (P := P) (w := w) (base := base) T
  obtain ⟨d_spans_led, G_spans_led, b_spans_led, k_spans_led⟩ := ok_spans_led (P := P) (w := w) (base := base) T
  refine ⟨fd, ?_, Fd.bindsN fun _ _ _ _ _ _ us hl => match us, hl with | [_, _, _], _ => rfl, Fd.kp⟩
  refine ok_def (Γ := Gm K w) (n := 5) (m := b__law_judged) rfl Fd sc__law_judged rfl fun cdv A outer s H E0 hr => ?_
  unfold b__law_judged
  exact (qs_cons (qs_if (qt_not (qt_val (q_call G__law_same (hr.mono (by decide : 5 ≤ 8)) (T.glo 53) k__law_same b__law_same (takes_of rfl rfl rfl rfl) (qa_cons (q_call G_likeness_fault (hr.mono (by decide : 5 ≤ 8)) (T.glo 46) k_likeness_fault b_likeness_fault (takes_of rfl rfl rfl rfl) (qa_cons (q_var 0) (qa_cons (q_var 1) qa_nil))) (qa_cons (q_var 2) qa_nil))))) (qs_one (qs_ret q_bl)) qs_nil)
      (qs_cons (qs_set (i := 3) sc__law_judged.nd (q_call G_is_likeness (hr.mono (by decide : 6 ≤ 8)) (T.glo 50) k_is_likeness b_is_likeness (takes_of rfl rfl rfl rfl) (qa_cons (q_var 0) (qa_cons (q_var 1) qa_nil))))
      (qs_cons (qs_if (PW.pt (qw_or (qt_not (qt_val (q_isi (T := (.bi "bool")) rfl T.ins (T.is_ 6) (T.free 7) (q_var 3) (pe_bltn (v := .ty "bool") rfl (T.free 5) (by decide +kernel) rfl)))) (qw_or1 (qt_cmp (or_ne (k := 3) rfl (hr.mono (by decide : 4 ≤ 8)) (nec T)) ok_neX (q_var 3) (q_cmp op_isN ok_isN (q_var 2) q_non (nomark _)) (nomark _))))) (qs_one (qs_ret q_bl)) qs_nil)
      (qs_cons (qs_tryAs (i := 4) (sb := sb "BadLikeness") rfl rfl (T.sb "BadLikeness") rfl rfl sc__law_judged.nd rfl rfl ⟨rfl, by decide, .inl (T.glo 58)⟩ (takes_of rfl rfl rfl rfl) (fun W' pn xe tk hp => (qs_one (qs_expr (q_call G_spans_led (hr.mono (by decide : 8 ≤ 8)) (T.glo 54) k_spans_led b_spans_led tk (qa_cons (q_var 0) (qa_cons (q_var 1) qa_nil)))))) (fun a oe E xs o pn hz hd => (qs_one (qs_ret (q_and (q_cmp op_notN ok_notN (q_var 2) q_non (nomark _)) (q_and (q_xis (T := (.own "SpansError")) rfl (T.xk (.own "SpansError")) hz hd (T.free 7) (pe_glob (v := .ref (He.ga K "SpansError")) rfl (T.glo 57) rfl)) (q_and (q_xis (T := (.bi "ValueError")) rfl (T.xk (.bi "ValueError")) hz hd (T.free 7) (pe_bltn (v := .ty "ValueError") rfl (T.free 56) (by decide +kernel) rfl)) (q_one (q_not (q_xis (T := (.own "BadLot")) rfl (T.xk (.own "BadLot")) hz hd (T.free 7) (pe_glob (v := .ref (He.ga K "BadLot")) rfl (T.glo 55) rfl)))))))))))
      (qs_one (qs_ret (q_cmp op_isN ok_isN (q_var 2) q_non (nomark _))))))))
theorem sc__law_span_led : FnScope ["_law_span", "_law_likeness", "_law_goes", "_law_forth"] ["_law_span", "_law_likeness"] (defScope (top 52)) := ⟨rfl, rfl, rfl, by decide +kernel, rfl, by decide +kernel, by decide +kernel⟩
theorem ok__law_span_led (T : Txt K mg) : ∃ fd, FnOk P w K mg base (L2.CX P w) 1 (He.ga K "_law_span_led") fd ["_law_span", "_law_likeness"] (spOf (Gm K w) 2 f__law_span_led) ∧ Binds K fd ["_law_span", "_law_likeness"] [] ∧ PySem.W.keepIn K (.ref (He.ga K "_law_span_led")) = true := by
  obtain ⟨fd, Fd⟩ := T.says.def_ 37
  refine ⟨fd, ?_, Fd.bindsN fun _ _ _ _ _ _ us hl => match us, hl with | [_, _], _ => rfl, Fd.kp⟩
  refine ok_def (Γ := Gm K w) (n := 4) (m := b__law_span_led) rfl Fd sc__law_span_led rfl fun cdv A outer s H E0 hr => ?_
  unfold b__law_span_led
  exact (qs_cons (qs_asg (q_var 1) (qg_tup rfl rfl (qgs_cons (qg_name (i := 2) sc__law_span_led.nd) (qgs_cons (qg_name (i := 3) sc__law_span_led.nd) qgs_nil))))
      (qs_cons (qs_if (qt_val (q_var 3)) (qs_one (qs_ret (q_tup (qa_cons (q_ix ix_seq ok_ix (q_var 2) (q_ix ix_seq ok_ix (q_var 0) q_int (fun _ _ => rfl)) (fun _ _ => rfl)) (qa_cons (q_ix ix_seq ok_ix (q_var 2) (q_ix ix_seq ok_ix (q_var 0) q_int (fun _ _ => rfl)) (fun _ _ => rfl)) (qa_cons (q_ix ix_seq ok_ix (q_var 0) q_int (fun _ _ => rfl)) (qa_cons (q_ix ix_seq ok_ix (q_var 0) q_int (fun _ _ => rfl)) qa_nil))))))) qs_nil)
      (qs_one (qs_ret (q_tup (qa_cons (q_ix ix_seq ok_ix (q_var 2) (q_ix ix_seq ok_ix (q_var 0) q_int (fun _ _ => rfl)) (fun _ _ => rfl)) (qa_cons (q_ix ix_seq ok_ix (q_var 2) (q_ix ix_seq ok_ix (q_var 0) q_int (fun _ _ => rfl)) (fun _ _ => rfl)) (qa_cons (q_ix ix_seq ok_ix (q_var 0) q_int (fun _ _ => rfl)) (qa_cons (q_ix ix_seq ok_ix (q_var 0) q_int (fun _ _ => rfl)) qa_nil)))))))))
theorem sc__law_fault : FnScope ["_law_spans_here", "_law_many", "_law_thing", "_law_k", "_law_item", "_law_span"] ["_law_spans_here", "_law_many", "_law_thing"] (defScope (top 54)) := ⟨rfl, rfl, rfl, by decide +kernel, rfl, by decide +kernel, by decide +kernel⟩
theorem ok__law_fault (T : Txt K mg) : ∃ fd, FnOk P w K mg base (L2.CX P w) 5 (He.ga K "_law_fault") fd ["_law_spans_here", "_law_many", "_law_thing"] (spOf (Gm K w) 3 f__law_fault) ∧ Binds K fd ["_law_spans_here", "_law_many", "_law_thing"] [] ∧ PySem.W.keepIn K (.ref (He.ga K "_law_fault")) = true := by
  obtain ⟨fd, Fd⟩ := T.says.def_ 38
  obtain ⟨d__law_is_integer, G__law_is_integer, b__law_is_integer, k__law_is_integer⟩ := ok__law_is_integer (P := P) (w := w) (base := base) T
  obtain ⟨d__law_span_led, G__law_span_led, b__law_span_led, k__law_span_led⟩ := ok__law_span_led (P := P) (w := w) (base := base) T
  refine ⟨fd, ?_, Fd.bindsN fun _ _ _ _ _ _ us hl => match us, hl with | [_, _, _], _ => rfl, Fd.kp⟩
  refine ok_def (Γ := Gm K w) (n := 6) (m := b__law_fault) rfl Fd sc__law_fault rfl fun cdv A outer s H E0 hr => ?_
  unfold b__law_fault
  exact (qs_cons (qs_if (PW.pt (qw_or (qt_not (qt_val (q_isi (T := (.bi "tuple")) rfl T.ins (T.is_ 30) (T.free 7) (q_var 2) (pe_bltn (v := .ty "tuple") rfl (T.free 18) (by decide +kernel) rfl)))) (qw_or (qt_cmp (or_ne (k := 3) rfl (hr.mono (by decide : 4 ≤ 4)) (nec T)) ok_neX (q_callB cr_len ok_len (T.free 1) (by decide +kernel) (qa_cons (q_var 2) qa_nil)) q_int (nomark _)) (qw_or1 (qt_not (qt_val (q_isi (T := (.bi "bool")) rfl T.ins (T.is_ 6) (T.free 7) (q_ix ix_seq ok_ix (q_var 2) q_int (fun _ _ => rfl)) (pe_bltn (v := .ty "bool") rfl (T.free 5) (by decide +kernel) rfl)))))))) (qs_one (qs_ret (q_tup (qa_cons q_str (qa_cons (q_un un_neg ok_neg q_int) qa_nil))))) qs_nil)
      (qs_cons (qs_if (PW.pt (qw_or (qt_not (qt_val (q_isi (T := (.bi "tuple")) rfl T.ins (T.is_ 30) (T.free 7) (q_ix ix_seq ok_ix (q_var 2) q_int (fun _ _ => rfl)) (pe_bltn (v := .ty "tuple") rfl (T.free 18) (by decide +kernel) rfl)))) (qw_or1 (qt_cmp (or_ne (k := 3) rfl (hr.mono (by decide : 4 ≤ 4)) (nec T)) ok_neX (q_callB cr_len ok_len (T.free 1) (by decide +kernel) (qa_cons (q_ix ix_seq ok_ix (q_var 2) q_int (fun _ _ => rfl)) qa_nil)) (q_var 1) (nomark _))))) (qs_one (qs_ret (q_tup (qa_cons q_str (qa_cons (q_un un_neg ok_neg q_int) qa_nil))))) qs_nil)
      (qs_cons (qs_for (passes_of rfl) rfl (qi_enuZ rfl (T.free 17) (q_ix ix_seq ok_ix (q_var 2) q_int (fun _ _ => rfl))) (qg_tup rfl rfl (qgs_cons (qg_name (i := 3) sc__law_fault.nd) (qgs_cons (qg_name (i := 4) sc__law_fault.nd) qgs_nil))) (qs_one (qs_if (PW.pt (qw_or (qt_not (qt_val (q_call G__law_is_integer (hr.mono (by decide : 1 ≤ 4)) (T.glo 47) k__law_is_integer b__law_is_integer (takes_of rfl rfl rfl rfl) (qa_cons (q_var 4) qa_nil)))) (qw_or (qt_not (qt_chain op_le ok_cmp op_lt ok_cmp q_int (q_var 4) (q_var 1))) (qw_or1 (qt_cmp (or_inZ rfl (hr.mono (by decide : 0 ≤ 4))) ok_inZ (q_var 4) (q_sl rfl (q_ix ix_seq ok_ix (q_var 2) q_int (fun _ _ => rfl)) qo_none (qo_some (q_var 3))) (by rfl)))))) (qs_one (qs_ret (q_tup (qa_cons q_str (qa_cons (q_var 3) qa_nil))))) qs_nil)))
      (qs_cons (qs_for (passes_of rfl) rfl (qi_enuZ rfl (T.free 17) (q_var 0)) (qg_tup rfl rfl (qgs_cons (qg_name (i := 3) sc__law_fault.nd) (qgs_cons (qg_name (i := 5) sc__law_fault.nd) qgs_nil))) (qs_one (qs_if (qt_cmp (or_notInZ rfl (hr.mono (by decide : 0 ≤ 4))) ok_inZ (q_call G__law_span_led (hr.mono (by decide : 1 ≤ 4)) (T.glo 59) k__law_span_led b__law_span_led (takes_of rfl rfl rfl rfl) (qa_cons (q_var 5) (qa_cons (q_var 2) qa_nil))) (q_var 0) (by rfl)) (qs_one (qs_ret (q_tup (qa_cons q_str (qa_cons (q_var 3) qa_nil))))) qs_nil)))
      (qs_one (qs_ret q_non))))))
theorem sc_law : FnScope ["_law_script", "_law_source_here", "_law_beat_here", "_law_spans_here", "_law_tops", "_law_parts", "_law_gens", "_law_many", "_law_net", "_law_things", "_law_k", "_law_other", "_law_likeness", "_law_thing"] ["_law_script"] (defScope (top 57)) := ⟨rfl, rfl, rfl, by decide +kernel, rfl, by decide +kernel, by decide +kernel⟩
theorem ok_law (T : Txt K mg) : ∃ fd, (∀ (s : Shared) (u : Value), BindsTo s fd ⟨[u], []⟩ [("_law_script", u)]) ∧ ∀ base : Heap, FnOk P w K mg base (L2.CX P w) 10 (He.ga K "law") fd ["_law_script"] (spOf (Gm K w) 1 f_law) := by
  obtain ⟨fd, Fd⟩ := T.says.def_ 39
  refine ⟨fd, fun s v => FunD.bindsA (ps := ["_law_script"]) Fd (fun _ _ _ _ _ _ us hl => match us, hl with | [_], _ => rfl) s [v] rfl, fun base => ?_⟩
  obtain ⟨d__law_source, G__law_source, b__law_source, k__law_source⟩ := ok__law_source (P := P) (w := w) (base := base) T
  obtain ⟨d__law_beat, G__law_beat, b__law_beat, k__law_beat⟩ := ok__law_beat (P := P) (w := w) (base := base) T
  obtain ⟨d__law_world, G__law_world, b__law_world, k__law_world⟩ := ok__law_world (P := P) (w := w) (base := base) T
  obtain ⟨d_Net___init__, G_Net___init__, b_Net___init__, k_Net___init__⟩ := ok_Net___init__ (P := P) (w := w) (base := base) T
  obtain ⟨d__law_word, G__law_word, b__law_word, k__law_word⟩ := ok__law_word (P := P) (w := w) (base := base) T
  obtain ⟨d__law_spoiled, G__law_spoiled, b__law_spoiled, k__law_spoiled⟩ := ok__law_spoiled (P := P) (w := w) (base := base) T
  obtain ⟨d__law_perm, G__law_perm, b__law_perm, k__law_perm⟩ := ok__law_perm (P := P) (w := w) (base := base) T
  obtain ⟨d__law_draw, G__law_draw, b__law_draw, k__law_draw⟩ := ok__law_draw (P := P) (w := w) (base := base) T
  obtain ⟨d__law_judged, G__law_judged, b__law_judged, k__law_judged⟩ := ok__law_judged (P := P) (w := w) (base := base) T
  obtain ⟨d__law_fault, G__law_fault, b__law_fault, k__law_fault⟩ := ok__law_fault (P := P) (w := w) (base := base) T
  refine ok_def (Γ := Gm K w) (n := 14) (m := b_law) rfl Fd sc_law rfl fun cdv A outer s H E0 hr => ?_
  unfold b_law b_law_t1 b_law_t2 b_law_t3 b_law_t4 b_law_t5 b_law_t6 b_law_t7 b_law_t8
  exact (qs_cons (qs_set (i := 1) sc_law.nd (q_call G__law_source (hr.mono (by decide : 1 ≤ 9)) (T.glo 60) k__law_source b__law_source (takes_of rfl rfl rfl rfl) (qa_cons (q_var 0) (qa_cons q_int qa_nil))))
      (qs_cons (qs_set (i := 2) sc_law.nd (q_call G__law_beat (hr.mono (by decide : 2 ≤ 9)) (T.glo 61) k__law_beat b__law_beat (takes_of rfl rfl rfl rfl) (qa_cons (q_var 1) qa_nil)))
      (qs_cons (qs_asg (q_call G__law_world (hr.mono (by decide : 7 ≤ 9)) (T.glo 62) k__law_world b__law_world (takes_of rfl rfl rfl rfl) (qa_cons (q_var 1) (qa_cons (q_var 2) (qa_cons q_int (qa_cons q_int (qa_cons q_bl qa_nil)))))) (qg_seqU rfl rfl (qgs_cons (qg_name (i := 3) sc_law.nd) (qgs_cons (qg_name (i := 4) sc_law.nd) (qgs_cons (qg_name (i := 5) sc_law.nd) (qgs_cons (qg_name (i := 6) sc_law.nd) qgs_nil))))))
      (qs_cons (qs_set (i := 7) sc_law.nd (q_callB cr_len ok_len (T.free 1) (by decide +kernel) (qa_cons (q_var 4) qa_nil)))
      (qs_cons (qs_set (i := 8) sc_law.nd (q_make (C := "Net") (T.pl.1 _ (by decide)).sub (T.mkr 63) G_Net___init__ (hr.mono (by decide : 8 ≤ 9)) (T.glo 15) b_Net___init__ (takes_of rfl rfl rfl rfl) (qa_cons (q_var 2) (qa_cons (q_var 7) (qa_cons (q_callTy call_list_of ok_list (T.free 3) (by decide +kernel) (qa_cons (q_var 3) qa_nil)) qa_nil)))))
      (qs_cons (qs_set (i := 9) sc_law.nd (q_lst qa_nil))
      (qs_cons (qs_for (passes_of rfl) rfl (qi_rng1 (T.free 4) (qa_cons q_int qa_nil)) (qg_name (i := 10) sc_law.nd) (qs_cons (qs_set (i := 11) sc_law.nd (q_call G__law_source (hr.mono (by decide : 1 ≤ 9)) (T.glo 60) k__law_source b__law_source (takes_of rfl rfl rfl rfl) (qa_cons (q_var 0) (qa_cons (q_op or_add ok_add q_int (q_var 10)) qa_nil))))
      (qs_cons (qs_set (i := 12) sc_law.nd (q_call G__law_word (hr.mono (by decide : 5 ≤ 9)) (T.glo 64) k__law_word b__law_word (takes_of rfl rfl rfl rfl) (qa_cons (q_var 11) (qa_cons (q_var 6) (qa_cons (q_var 7) qa_nil)))))
      (qs_cons (qs_expr (q_bm rfl ok_append PySem.F.plainAttrs_list PySem.F.slot_list_append PySem.F.type_list_append mt_append (q_var 9) (qa_cons (q_var 12) qa_nil)))
      (qs_cons (qs_expr (q_bm rfl ok_append PySem.F.plainAttrs_list PySem.F.slot_list_append PySem.F.type_list_append mt_append (q_var 9) (qa_cons (q_call G__law_spoiled (hr.mono (by decide : 6 ≤ 9)) (T.glo 65) k__law_spoiled b__law_spoiled (takes_of rfl rfl rfl rfl) (qa_cons (q_var 11) (qa_cons (q_var 12) qa_nil))) qa_nil)))
      (qs_cons (qs_expr (q_bm rfl ok_append PySem.F.plainAttrs_list PySem.F.slot_list_append PySem.F.type_list_append mt_append (q_var 9) (qa_cons (q_tup (qa_cons (q_callTy call_tuple_of ok_tuple (T.free 18) (by decide +kernel) (qa_cons (q_call G__law_perm (hr.mono (by decide : 2 ≤ 9)) (T.glo 21) k__law_perm b__law_perm (takes_of rfl rfl rfl rfl) (qa_cons (q_var 11) (qa_cons (q_var 7) qa_nil))) qa_nil)) (qa_cons (q_cmp (or_eqZ rfl (hr.mono (by decide : 3 ≤ 9)) (eqc T)) (ok_eqZ T.ins) (q_call G__law_draw (hr.mono (by decide : 1 ≤ 9)) (T.glo 2) k__law_draw b__law_draw (takes_of rfl rfl rfl rfl) (qa_cons (q_var 11) (qa_cons q_int qa_nil))) q_int (nomark _)) qa_nil))) qa_nil)))
      (qs_cons (qs_set (i := 12) sc_law.nd (q_call G__law_word (hr.mono (by decide : 5 ≤ 9)) (T.glo 64) k__law_word b__law_word (takes_of rfl rfl rfl rfl) (qa_cons (q_var 11) (qa_cons (q_var 6) (qa_cons (q_var 7) qa_nil)))))
      (qs_cons (qs_expr (q_bm rfl ok_append PySem.F.plainAttrs_list PySem.F.slot_list_append PySem.F.type_list_append mt_append (q_var 9) (qa_cons (q_call G__law_spoiled (hr.mono (by decide : 6 ≤ 9)) (T.glo 65) k__law_spoiled b__law_spoiled (takes_of rfl rfl rfl rfl) (qa_cons (q_var 11) (qa_cons (q_var 12) qa_nil))) qa_nil)))
      (qs_one (qs_expr (q_bm rfl ok_append PySem.F.plainAttrs_list PySem.F.slot_list_append PySem.F.type_list_append mt_append (q_var 9) (qa_cons (q_var 12) qa_nil))))))))))))
      (qs_cons (qs_for (passes_of rfl) rfl (qi_seq rfl (q_op or_add ok_add (q_var 9) (q_revA rfl (q_var 9)))) (qg_name (i := 13) sc_law.nd) (qs_one (qs_if (qt_not (qt_val (q_call G__law_judged (hr.mono (by decide : 9 ≤ 9)) (T.glo 67) k__law_judged b__law_judged (takes_of rfl rfl rfl rfl) (qa_cons (q_var 8) (qa_cons (q_var 13) (qa_cons (q_call G__law_fault (hr.mono (by decide : 5 ≤ 9)) (T.glo 66) k__law_fault b__law_fault (takes_of rfl rfl rfl rfl) (qa_cons (q_var 3) (qa_cons (q_var 7) (qa_cons (q_var 13) qa_nil)))) qa_nil)))))) (qs_one (qs_ret q_bl)) qs_nil)))
      (qs_one (qs_ret (q_and (q_cmp (or_eqZ rfl (hr.mono (by decide : 3 ≤ 9)) (eqc T)) (ok_eqZ T.ins) (q_fld T.pl rfl (q_var 8)) (q_var 2) (nomark _)) (q_and (q_cmp (or_eqZ rfl (hr.mono (by decide : 3 ≤ 9)) (eqc T)) (ok_eqZ T.ins) (q_fld T.pl rfl (q_var 8)) (q_var 7) (nomark _)) (q_one (q_cmp (or_eqZ rfl (hr.mono (by decide : 3 ≤ 9)) (eqc T)) (ok_eqZ T.ins) (q_fld T.pl rfl (q_var 8)) (q_callTy call_tuple_of ok_tuple (T.free 18) (by decide +kernel) (qa_cons (q_var 3) qa_nil)) (nomark _)))))))))))))))
end
/-! ### the head -/
theorem ob_eq (s : PySem.W.SharedT) : ob s = hk.obs s.abs := obsLG_eq (HandSHeadRun.getT_eq s)
end Mi_k25
open PySem PySem.W PySem.Calls PyProof.Rows in
theorem Mi_k25.holds_of (h : ∀ ns : List Int, ns.length ≤ 63 → ∃ S', Mi_k25.f_law [.rol (ns.map Lk.D.int)] [] = .ok (.bl true) S') : PySem.Challenge.rw_likespans_k25_faults_of_likenesses.Holds := by
  w_on; o_law
  refine HandSHeadRun.head_imp (r := OpenLaw.row PySem.Challenge.rw_likespans_k25_faults_of_likenesses) (q := view (OpenLaw.row PySem.Challenge.rw_likespans_k25_faults_of_likenesses).prog [0, 57]) (H := Mi_k25.hk) (ob := Mi_k25.ob) (M := 12000) (loose := Mi_k25.loose) (d := HandSHeadRun.topDef (OpenLaw.row PySem.Challenge.rw_likespans_k25_faults_of_likenesses).prog 57) (kwd := []) Mi_k25.ob_eq
     Mi_k25.run (by kernel_rfl) (by kernel_rfl) (by kernel_rfl) (by rfl) (by first | assumption | decide +kernel) (by decide +kernel) ⟨rfl, rfl, rfl, rfl, rfl, by decide +kernel⟩ ?hw ?hc
  case hw => w_witness2
  case hc =>
    refine Lk.walk_fin (l := PySem.Challenge.rw_likespans_k25_faults_of_likenesses) (n := 63) (k := 10) (x := "_law_script") (m := Mi_k25.f_law) rfl (by decide) (by kernel_rfl) ⟨rfl, by decide, by decide⟩ h ?F
    intro w mg fa h' Y G hmg0
    obtain ⟨K, KX, c⟩ := Y
    have hmg : mg ("law" : PySem.Str) = some (.ref fa) := by
      have e : (HandSHeadRun.topDef (OpenLaw.row PySem.Challenge.rw_likespans_k25_faults_of_likenesses).prog 57).name = ("law" : PySem.Str) := by kernel_rfl
      rw [← e]
      exact hmg0
    have T : Mi_k25.Txt K mg := ⟨c, h', KX, G⟩
    obtain ⟨fd, b, F⟩ := Mi_k25.ok_law (P := (PySem.Challenge.rw_likespans_k25_faults_of_likenesses).prog) (w := w) T
    have e := hmg.symm.trans (T.glo 68)
    cases e
    exact ⟨Mi_k25.Gm K w, fd, rfl, KX, b, fun base _ _ => F base⟩

set_option linter.all false
set_option autoImplicit false
set_option maxRecDepth 100000
/-! least sums along arcs: what repeated lowering comes to (for settled: k15, k16, k13, k12, k19, ..) -/
namespace Bf
abbrev Arc := Nat × Nat × Int
/-- a walk along arcs of A, from a to b -/
def Wlk (A : List Arc) : Nat → List Arc → Nat → Prop
  | a, [], b => a = b
  | a, e :: L, b => e ∈ A ∧ e.1 = a ∧ Wlk A e.2.1 L b
def wt : List Arc → Int
  | [] => 0
  | e :: L => e.2.2 + wt L
theorem Wlk.app {A : List Arc} : ∀ {K L : List Arc} {a m b : Nat}, Wlk A a K m → Wlk A m L b → Wlk A a (K ++ L) b
  | [], L, a, m, b, h1, h2 => by
    have : a = m := h1
    rw [this]; exact h2
  | e :: K, L, a, m, b, h1, h2 => ⟨h1.1, h1.2.1, Wlk.app h1.2.2 h2⟩
theorem Wlk.split {A : List Arc} : ∀ {K L : List Arc} {a b : Nat}, Wlk A a (K ++ L) b → ∃ m, Wlk A a K m ∧ Wlk A m L b
  | [], L, a, b, h => ⟨a, rfl, h⟩
  | e :: K, L, a, b, h => by
    obtain ⟨m, h1, h2⟩ := Wlk.split (K := K) h.2.2
    exact ⟨m, ⟨h.1, h.2.1, h1⟩, h2⟩
theorem nd_len : ∀ {n : Nat} {l : List Nat}, l.Nodup → (∀ x ∈ l, x < n) → l.length ≤ n
  | 0, l, _, h => by
    cases l with
    | nil => simp
    | cons x l => have := h x List.mem_cons_self; omega
  | n + 1, l, nd, h => by
    by_cases z : n ∈ l
    · have h1 := nd_len (n := n) (nd.erase n) fun x hx => by
        have := (nd.mem_erase_iff).mp hx
        have := h x this.2
        omega
      rw [List.length_erase_of_mem z] at h1
      omega
    · have h1 := nd_len (n := n) nd fun x hx => by
        have := h x hx
        have : x ≠ n := fun y => z (y ▸ hx)
        omega
      omega
/-! the sums: a number for each event, or none yet -/
abbrev Sm := Nat → Option Int
def put (s : Sm) (v : Nat) (x : Int) : Sm := fun u => if u = v then some x else s u
def Le (s t : Sm) : Prop := ∀ v y, t v = some y → ∃ x, s v = some x ∧ x ≤ y
theorem Le.refl {s : Sm} : Le s s := fun v y h => ⟨y, h, Int.le_refl _⟩
theorem Le.trans {r s t : Sm} (h : Le r s) (h' : Le s t) : Le r t := fun v y hy => by
  obtain ⟨x, hx, l⟩ := h' v y hy
  obtain ⟨w, hw, l'⟩ := h v x hx
  exact ⟨w, hw, Int.le_trans l' l⟩
/-- each sum is that of a walk from a start -/
def Real (A : List Arc) (st : List Nat) (s : Sm) : Prop := ∀ v x, s v = some x → ∃ a ∈ st, ∃ K, Wlk A a K v ∧ wt K = x
/-- what the lowering comes to -/
structure Fin (A : List Arc) (st : List Nat) (s : Sm) : Prop where
  real : Real A st s
  zero : ∀ a ∈ st, ∃ x, s a = some x ∧ x ≤ 0
  fix : ∀ e ∈ A, ∀ x, s e.1 = some x → ∃ y, s e.2.1 = some y ∧ y ≤ x + e.2.2
end Bf

set_option linter.all false
set_option autoImplicit false
set_option maxRecDepth 100000
set_option maxHeartbeats 4000000
namespace Bf
/-- arcs that bind -/
def Tgt (A : List Arc) (s : Nat → Int) : List Arc := A.filter fun e => decide (s e.2.1 = s e.1 + e.2.2)
/-- within n arcs of a start -/
def Rc (A : List Arc) (st : List Nat) (n v : Nat) : Prop := ∃ a ∈ st, ∃ K, Wlk A a K v ∧ K.length ≤ n
theorem Rc.zero {A : List Arc} {st : List Nat} {v : Nat} (h : Rc A st 0 v) : v ∈ st := by
  obtain ⟨a, ha, K, w, l⟩ := h
  have : K = [] := List.length_eq_zero_iff.mp (by omega)
  subst this
  rw [← show a = v from w]
  exact ha
theorem Rc.succ {A : List Arc} {st : List Nat} {n v : Nat} (h : Rc A st (n + 1) v) : Rc A st n v ∨ ∃ u w, Rc A st n u ∧ (u, v, w) ∈ A := by
  obtain ⟨a, ha, K, w, l⟩ := h
  by_cases z : K.length ≤ n
  · exact .inl ⟨a, ha, K, w, z⟩
  · have ne : K ≠ [] := fun y => by rw [y] at z; simp at z
    rw [← List.dropLast_concat_getLast ne] at w
    obtain ⟨m, w1, w2, w3, w4⟩ := w.split
    refine .inr ⟨m, (K.getLast ne).2.2, ⟨a, ha, _, w1, by rw [List.length_dropLast]; omega⟩, ?_⟩
    rw [← w3, ← show (K.getLast ne).2.1 = v from w4]
    exact w2
end Bf

set_option linter.all false
set_option autoImplicit false
set_option maxRecDepth 100000
set_option maxHeartbeats 4000000
namespace Mi_k25
open PySem Lk L2
theorem eqd_int (S : Store) (i j : Int) : gEqX cs oe (.int i) (.int j) S = .ok (.bl (decide (i = j))) S := by
  unfold gEqX eqData
  simp only [pyD]
  have sh : ∀ k : Int, SeqAt.shaped (.int k) = true := fun k => by
    simp [SeqAt.shaped, PyData.canLay0, PyData.depth]
  simp only [sh, and_self, if_true, PyData.eqv]
  rfl
theorem eqz_int (S : Store) (i j : Int) : gEqZ cs oe (.int i) (.int j) S = .ok (.bl (decide (i = j))) S := by
  unfold gEqZ
  exact eqd_int S i j
theorem at40 (x y z w : D) : atI [x, y, z, w] 0 = some x := rfl
theorem at41 (x y z w : D) : atI [x, y, z, w] 1 = some y := rfl
theorem at42 (x y z w : D) : atI [x, y, z, w] 2 = some z := rfl
theorem at43 (x y z w : D) : atI [x, y, z, w] 3 = some w := rfl
theorem ix40 : ixN 4 0 = some 0 := rfl
theorem ix41 : ixN 4 1 = some 1 := rfl
theorem ix42 : ixN 4 2 = some 2 := rfl
theorem ix43 : ixN 4 3 = some 3 := rfl
theorem pow1010 (S : Store) : Lk.gPow (.int 10) (.int 10) S = .ok (.int 10000000000) S := by
  unfold Lk.gPow
  dsimp only
  rw [if_pos (by decide)]
  rfl
theorem pow1018 (S : Store) : Lk.gPow (.int 10) (.int 18) S = .ok (.int 1000000000000000000) S := by
  unfold Lk.gPow
  dsimp only
  rw [if_pos (by decide)]
  rfl
theorem pow1019 (S : Store) : Lk.gPow (.int 10) (.int 19) S = .ok (.int 10000000000000000000) S := by
  unfold Lk.gPow
  dsimp only
  rw [if_pos (by decide)]
  rfl
theorem gc_len {S S' : Store} {d : D} (h : S'.length = S.length) : gc S d S' = .ok d S' := by
  unfold Lk.gc
  split
  · rename_i c
    have : S'.take S.length = S' := by rw [← h, List.take_length]
    rw [← this, c.2]
  · rfl
theorem bits_lt {i : Int} (k : Nat) (h : i.natAbs < 2 ^ k) (hk : 0 < k) : bits i < k := by
  unfold bits
  by_cases z : i.natAbs = 0
  · rw [z]; simpa using hk
  · exact (Nat.log2_lt z).mpr h
theorem small {i : Int} (h1 : -1606938044258990275541962092341162602522202993782792835301376 ≤ i) (h2 : i ≤ 1606938044258990275541962092341162602522202993782792835301376) : i.natAbs < 2 ^ 1000 := by
  have e : (1606938044258990275541962092341162602522202993782792835301376 : Nat) < 2 ^ 1000 := by decide +kernel
  have : i.natAbs ≤ 1606938044258990275541962092341162602522202993782792835301376 := by omega
  exact Nat.lt_of_le_of_lt this e
theorem fdv_pos {i j : Int} (h : 0 < j) : fdv i j = i / j := if_pos h
def Src4 (S : Store) (n : Nat) (a b c d : Int) : Prop := S[n]? = some (.lst [.int a, .int b, .int c, .int d])
/-- the source after some draws -/
def Src (S : Store) (n : Nat) (k : Int) : Prop := ∃ a b c d, Src4 S n a b c d ∧ 0 ≤ c ∧ c ≤ k ∧ 0 ≤ d ∧ d < 2 ^ 60
/-- what a draw leaves: the source alone is changed -/
def Ch (S : Store) (n : Nat) (S' : Store) : Prop := ∃ o, S' = S.set n o
theorem Src.mono {S : Store} {n : Nat} {j k : Int} (h : Src S n j) (hk : j ≤ k) : Src S n k := by
  obtain ⟨a, b, c, d, h, h1, h2, h3, h4⟩ := h
  exact ⟨a, b, c, d, h, h1, by omega, h3, h4⟩
theorem Ch.len {S S' : Store} {n : Nat} (h : Ch S n S') : S'.length = S.length := by
  obtain ⟨o, rfl⟩ := h; simp
theorem Ch.trans {S S' S'' : Store} {n : Nat} (h : Ch S n S') (h' : Ch S' n S'') : Ch S n S'' := by
  obtain ⟨o, rfl⟩ := h
  obtain ⟨o', rfl⟩ := h'
  exact ⟨o', by simp⟩
theorem bits_small {i : Int} (h1 : -1606938044258990275541962092341162602522202993782792835301376 ≤ i) (h2 : i ≤ 1606938044258990275541962092341162602522202993782792835301376) : bits i < 1000 := bits_lt 1000 (small h1 h2) (by decide)
def isInt : D → Bool | .int _ => true | _ => false
def isBl : D → Bool | .bl _ => true | _ => false
def isR : D → Bool | .ins C _ => C == ("Ratio" : Str) | _ => false
def isTup : D → Bool | .tup _ => true | _ => false
def Kn (S : Store) (d : D) : Prop := ∃ t, tyK S d = some t ∧ okK cs t = true
theorem gI_any {S : Store} {d : D} (h : Kn S d) : gIsi cs [.bi "int"] d S = .ok (.bl (isInt d || isBl d)) S ∧ gIsi cs [.bi "bool"] d S = .ok (.bl (isBl d)) S ∧ gIsi cs [.own "Ratio"] d S = .ok (.bl (isR d)) S := by
  obtain ⟨t, h1, h2⟩ := h
  unfold gIsi
  rw [h1]
  dsimp only
  rw [if_pos h2, if_pos h2, if_pos h2]
  have key : ∀ (t : CK) (x y z : Bool), isA t (.bi "int") = x → isA t (.bi "bool") = y → isA t (.own "Ratio") = z → (R.ok (D.bl ([CK.bi "int"].any fun T => isA t T)) S = R.ok (D.bl x) S ∧ R.ok (D.bl ([CK.bi "bool"].any fun T => isA t T)) S = R.ok (D.bl y) S ∧ R.ok (D.bl ([CK.own "Ratio"].any fun T => isA t T)) S = R.ok (D.bl z) S) := fun t x y z h1 h2 h3 => by
    simp [h1, h2, h3]
  cases d with
  | non => cases h1; exact key _ _ _ _ (by decide) (by decide) (by decide)
  | bl b => cases h1; exact key _ _ _ _ (by simp [isInt, isBl, isA]) (by simp [isInt, isBl, isA]) (by simp [isR, isA])
  | int b => cases h1; exact key _ _ _ _ (by simp [isInt, isBl, isA]) (by simp [isInt, isBl, isA]) (by simp [isR, isA])
  | str b => cases h1; exact key _ _ _ _ (by simp [isInt, isBl, isA]) (by simp [isInt, isBl, isA]) (by simp [isR, isA])
  | tup b => cases h1; exact key _ _ _ _ (by simp [isInt, isBl, isA]) (by simp [isInt, isBl, isA]) (by simp [isR, isA])
  | rol b => cases h1; exact key _ _ _ _ (by simp [isInt, isBl, isA]) (by simp [isInt, isBl, isA]) (by simp [isR, isA])
  | ref n =>
    have h1 : (match S[n]? with
      | some (.lst _) => some (CK.bi "list")
      | some (.dk _) => some (.bi "dict")
      | some (.dt _) => some (.bi "dict")
      | _ => none) = some t := h1
    split at h1 <;> cases h1 <;> exact key _ _ _ _ (by simp [isInt, isBl, isA]) (by simp [isInt, isBl, isA]) (by simp [isR, isA])
  | ins C ds => cases h1; exact key _ _ _ _ (by simp [isInt, isBl, isA]) (by simp [isInt, isBl, isA]) (by simp [isR, isA])
theorem gc_eq {S : Store} {d : D} : gc S d S = .ok d S := gc_self
theorem isint {S : Store} {d : D} (h : Kn S d) : f_is_integer [d] S = .ok (.bl (isInt d)) S := by
  obtain ⟨h1, h2, h3⟩ := gI_any h
  unfold f_is_integer mDef b_is_integer
  cases q : isInt d <;> cases q2 : isBl d <;> rw [q, q2] at h1 <;> rw [q2] at h2 <;> simp only [mSeq, RS.seq, mIfS, mTest, mSet, mRet, mVar, mC, mNil, mCons, Lk.m1, Lk.m2, mB, mAnd, mOr, mNot, mAndT, mOrT, mNotT, mIf, mAsg, mNext, mCall, R.bind, R.bindS, R.nxt, asB, gSub', mTup, mLst, List.getElem?_cons_succ, List.getElem?_cons_zero, List.getElem?_nil, List.set_cons_succ, List.set_cons_zero, List.map_cons, List.map_nil, List.cons_append, List.nil_append, List.length_cons, List.length_nil, List.replicate, Lk.gIx, Lk.gAdd, Lk.gSub, Lk.gMul, Lk.gDiv, Lk.gMod, gInt, gCmp, gNeg, gAbs, gGcd, gLen, List.length_map, Lk.listOf, stIx, if_true, if_false, Bool.false_eq_true, reduceIte, Nat.reduceAdd, Nat.reduceSub, Nat.zero_add, eqz_int, pow1010, pow1018, pow1019, Int.reduceMul, Int.reduceAdd, ix40, ix41, ix42, ix43, at40, at41, at42, at43, and_true, true_and, and_self, ne_eq, not_false_eq_true, decide_true, decide_false, decide_eq_true_eq, Bool.and_true, Bool.true_and, *] <;> first | exact gc_eq | (cases d <;> cases q <;> cases q2) | trace_state
theorem kn_int (S : Store) (i : Int) : Kn S (.int i) := ⟨.bi "int", rfl, by decide⟩
theorem kn_bl (S : Store) (i : Bool) : Kn S (.bl i) := ⟨.bi "bool", rfl, by decide⟩
theorem kn_rat (S : Store) (i : List D) : Kn S (.ins "Ratio" i) := ⟨.own "Ratio", rfl, by decide⟩
/-- the things that are no integers -/
inductive Odd (S : Store) : D → Prop
  | non : Odd S .non
  | bl (b : Bool) : Odd S (.bl b)
  | str (x : Str) : PyData.strOk x = true → Odd S (.str x)
  | rt (p q : Int) : Odd S (.ins "Ratio" [.int p, .int q])
  | t0 : Odd S (.tup [])
  | t1 : Odd S (.tup [.int 3])
  | l0 {n : Nat} : S[n]? = some (.lst []) → Odd S (.ref n)
  | l1 {n : Nat} : S[n]? = some (.lst [.int 5]) → Odd S (.ref n)
  | d0 {n : Nat} : S[n]? = some (.dk []) → Odd S (.ref n)
  | d1 {n : Nat} : S[n]? = some (.dk [(.inl 1, .int 2)]) → Odd S (.ref n)
theorem Odd.kn {S : Store} {d : D} (h : Odd S d) : Kn S d := by
  cases h with
  | l0 h => exact ⟨.bi "list", by simp [tyK, h], by decide⟩
  | l1 h => exact ⟨.bi "list", by simp [tyK, h], by decide⟩
  | d0 h => exact ⟨.bi "dict", by simp [tyK, h], by decide⟩
  | d1 h => exact ⟨.bi "dict", by simp [tyK, h], by decide⟩
  | non => exact ⟨.bi "NoneType", rfl, by decide⟩
  | bl b => exact kn_bl S b
  | str => exact ⟨.bi "str", rfl, by decide⟩
  | rt p q => exact kn_rat S _
  | t0 => exact ⟨.bi "tuple", rfl, by decide⟩
  | t1 => exact ⟨.bi "tuple", rfl, by decide⟩
theorem getlt {S : Store} {n : Nat} {o : Ob} (h : S[n]? = some o) : n < S.length := by
  rcases Nat.lt_or_ge n S.length with z | z
  · exact z
  · rw [List.getElem?_eq_none z] at h; cases h
theorem forGo_n {g : MG} {mb : MS} {env : Lk.Env} {S : Store} : forGo (fun _ => True) g mb [] env S = .nx env S := by unfold forGo; exact if_pos trivial
theorem lim_le {n : Nat} (h : n ≤ 100) : (n ≤ lim) = True := by
  have : lim = 16777216 := rfl
  simp only [eq_iff_iff, iff_true]
  omega
theorem forGo_c {g : MG} {mb : MS} {env : Lk.Env} {S : Store} {d : D} {ds : List D} : forGo (fun _ => True) g mb (d :: ds) env S = (match g d env S with
    | .ok e1 S1 => (match mb e1 S1 with
      | .nx e2 S2 => forGo (fun _ => True) g mb ds e2 S2
      | .ct e2 S2 => forGo (fun _ => True) g mb ds e2 S2
      | .bk e2 S2 => .nx e2 S2
      | r => r)
    | _ => .bad) := by
  rw [forGo, if_pos trivial]
  all_goals (cases g d env S <;> first | rfl | (rename_i e1 S1; dsimp only; cases mb e1 S1 <;> rfl))
/-- integers and odd things -/
def Pt (S : Store) (d : D) : Prop := (∃ i, d = .int i) ∨ Odd S d
theorem Pt.kn {S : Store} {d : D} (h : Pt S d) : Kn S d := by
  rcases h with ⟨i, rfl⟩ | h
  · exact kn_int S i
  · exact h.kn
theorem Kn.app {S T : Store} {d : D} (h : Kn S d) : Kn (S ++ T) d := by
  obtain ⟨t, h1, h2⟩ := h
  refine ⟨t, ?_, h2⟩
  cases d with
  | ref n =>
    have h1 : (match S[n]? with
      | some (.lst _) => some (CK.bi "list")
      | some (.dk _) => some (.bi "dict")
      | some (.dt _) => some (.bi "dict")
      | _ => none) = some t := h1
    show (match (S ++ T)[n]? with
      | some (.lst _) => some (CK.bi "list")
      | some (.dk _) => some (.bi "dict")
      | some (.dt _) => some (.bi "dict")
      | _ => none) = some t
    have hn : n < S.length := by
      rcases Nat.lt_or_ge n S.length with z | z
      · exact z
      · rw [List.getElem?_eq_none z] at h1; cases h1
    rw [List.getElem?_append_left hn]
    exact h1
  | _ => exact h1
/-- what may stand in a row of spans -/
inductive SV (S : Store) : D → Prop
  | odd {d : D} : Odd S d → SV S d
  | int (i : Int) : SV S (.int i)
  | tup {xs : List D} : xs.length ≤ 5 → (∀ x ∈ xs, Pt S x) → SV S (.tup xs)
  | lst {n : Nat} {a b c d : Int} : S[n]? = some (.lst [.int a, .int b, .int c, .int d]) → SV S (.ref n)
theorem SV.kn {S : Store} {d : D} (h : SV S d) : Kn S d := by
  cases h with
  | odd h => exact h.kn
  | int i => exact kn_int S i
  | tup _ _ => exact ⟨.bi "tuple", rfl, by decide⟩
  | lst h => exact ⟨.bi "list", by simp [tyK, h], by decide⟩
def spanB (b e : Int) : D → Bool
  | .tup [.int i, .int j, .int lo, .int hi] => decide (0 ≤ i ∧ i < e ∧ 0 ≤ j ∧ j < e ∧ i ≠ j ∧ 0 ≤ lo ∧ lo ≤ hi ∧ hi ≤ 2880 ∧ hi - lo ≤ b - 2)
  | _ => false
theorem gIt {S : Store} {d : D} (h : Kn S d) : gIsi cs [.bi "tuple"] d S = .ok (.bl (isTup d)) S := by
  obtain ⟨t, h1, h2⟩ := h
  unfold gIsi
  rw [h1]
  dsimp only
  rw [if_pos h2]
  have key : ∀ (t : CK) (x : Bool), isA t (.bi "tuple") = x → R.ok (D.bl ([CK.bi "tuple"].any fun T => isA t T)) S = R.ok (D.bl x) S := fun t x h1 => by simp [h1]
  cases d with
  | non => cases h1; exact key _ _ (by decide)
  | bl b => cases h1; exact key _ _ (by simp [isTup, isA])
  | int b => cases h1; exact key _ _ (by simp [isTup, isA])
  | str b => cases h1; exact key _ _ (by simp [isTup, isA])
  | tup b => cases h1; exact key _ _ (by simp [isTup, isA])
  | rol b => cases h1; exact key _ _ (by simp [isTup, isA])
  | ref n =>
    have h1 : (match S[n]? with
      | some (.lst _) => some (CK.bi "list")
      | some (.dk _) => some (.bi "dict")
      | some (.dt _) => some (.bi "dict")
      | _ => none) = some t := h1
    split at h1 <;> cases h1 <;> exact key _ _ (by simp [isTup, isA])
  | ins C ds => cases h1; exact key _ _ (by simp [isTup, isA])
theorem gn_int {S : Store} {i j : Int} : gNeX oe (.int i) (.int j) S = .ok (.bl (!decide (i = j))) S := by
  have sh : ∀ k : Int, SeqAt.shaped (.int k) = true := fun k => by
    simp [SeqAt.shaped, PyData.canLay0, PyData.depth]
  have e : eqData S (.int i) (.int j) = some (decide (i = j)) := by
    unfold eqData
    simp only [pyD, sh, and_self, if_true, PyData.eqv]
    rfl
  show gNe (.int i) (.int j) S = _
  unfold gNe
  rw [e]
theorem all_ints {S : Store} {bs : List Bool} : gAll [.ref S.length] (S ++ [.lst (bs.map D.bl)]) = .ok (.bl (bs.all id)) (S ++ [.lst (bs.map D.bl)]) := by
  have e : ∀ bs : List Bool, dBools (bs.map D.bl) = some bs := fun bs => by
    induction bs with
    | nil => rfl
    | cons b bs ih => simp [dBools, ih]
  unfold gAll onL
  simp [e, Lk.listOf]
theorem gc_bl {S : Store} {v : Bool} {T : Store} : gc S (.bl v) (S ++ T) = .ok (.bl v) S := gc_ok (by simp [D.cl])
theorem below {S : Store} {l i : Int} : f_is_below [.int l, .int i] S = .ok (.bl (decide (0 ≤ i ∧ i < l))) S := by
  have hi := isint (kn_int S i)
  simp only [isInt] at hi
  unfold f_is_below mDef b_is_below
  by_cases h1 : 0 ≤ i
  · by_cases h2 : i < l
    · rw [decide_eq_true ⟨h1, h2⟩]
      simp only [mSeq, RS.seq, mIfS, mTest, mSet, mRet, mVar, mC, mNil, mCons, Lk.m1, Lk.m2, mB, mAnd, mOr, mNot, mAndT, mOrT, mNotT, mIf, mAsg, mNext, mCall, R.bind, R.bindS, R.nxt, asB, gSub', mTup, mLst, List.getElem?_cons_succ, List.getElem?_cons_zero, List.getElem?_nil, List.set_cons_succ, List.set_cons_zero, List.map_cons, List.map_nil, List.cons_append, List.nil_append, List.length_cons, List.length_nil, List.replicate, Lk.gIx, Lk.gAdd, Lk.gSub, Lk.gMul, Lk.gDiv, Lk.gMod, gInt, gCmp, gNeg, gAbs, gGcd, gLen, List.length_map, Lk.listOf, stIx, if_true, if_false, Bool.false_eq_true, reduceIte, Nat.reduceAdd, Nat.reduceSub, Nat.zero_add, eqz_int, pow1010, pow1018, pow1019, Int.reduceMul, Int.reduceAdd, ix40, ix41, ix42, ix43, at40, at41, at42, at43, and_true, true_and, and_self, ne_eq, not_false_eq_true, decide_true, decide_false, decide_eq_true_eq, Bool.and_true, Bool.true_and, mFor, iSeq, srcOf, vals, forGo_n, forGo_c, gSet, mRaise1, mSetF, setF, lim_le, Nat.reduceLeDiff, Bool.not_false, Bool.not_true, Nat.lt_irrefl, List.length_append, List.append_assoc, hi, mCh2, mLink, mLast, h1, h2]
      exact gc_self
    · rw [decide_eq_false (fun z => h2 z.2)]
      simp only [mSeq, RS.seq, mIfS, mTest, mSet, mRet, mVar, mC, mNil, mCons, Lk.m1, Lk.m2, mB, mAnd, mOr, mNot, mAndT, mOrT, mNotT, mIf, mAsg, mNext, mCall, R.bind, R.bindS, R.nxt, asB, gSub', mTup, mLst, List.getElem?_cons_succ, List.getElem?_cons_zero, List.getElem?_nil, List.set_cons_succ, List.set_cons_zero, List.map_cons, List.map_nil, List.cons_append, List.nil_append, List.length_cons, List.length_nil, List.replicate, Lk.gIx, Lk.gAdd, Lk.gSub, Lk.gMul, Lk.gDiv, Lk.gMod, gInt, gCmp, gNeg, gAbs, gGcd, gLen, List.length_map, Lk.listOf, stIx, if_true, if_false, Bool.false_eq_true, reduceIte, Nat.reduceAdd, Nat.reduceSub, Nat.zero_add, eqz_int, pow1010, pow1018, pow1019, Int.reduceMul, Int.reduceAdd, ix40, ix41, ix42, ix43, at40, at41, at42, at43, and_true, true_and, and_self, ne_eq, not_false_eq_true, decide_true, decide_false, decide_eq_true_eq, Bool.and_true, Bool.true_and, mFor, iSeq, srcOf, vals, forGo_n, forGo_c, gSet, mRaise1, mSetF, setF, lim_le, Nat.reduceLeDiff, Bool.not_false, Bool.not_true, Nat.lt_irrefl, List.length_append, List.append_assoc, hi, mCh2, mLink, mLast, h1, h2]
      exact gc_self
  · rw [decide_eq_false (fun z => h1 z.1)]
    simp only [mSeq, RS.seq, mIfS, mTest, mSet, mRet, mVar, mC, mNil, mCons, Lk.m1, Lk.m2, mB, mAnd, mOr, mNot, mAndT, mOrT, mNotT, mIf, mAsg, mNext, mCall, R.bind, R.bindS, R.nxt, asB, gSub', mTup, mLst, List.getElem?_cons_succ, List.getElem?_cons_zero, List.getElem?_nil, List.set_cons_succ, List.set_cons_zero, List.map_cons, List.map_nil, List.cons_append, List.nil_append, List.length_cons, List.length_nil, List.replicate, Lk.gIx, Lk.gAdd, Lk.gSub, Lk.gMul, Lk.gDiv, Lk.gMod, gInt, gCmp, gNeg, gAbs, gGcd, gLen, List.length_map, Lk.listOf, stIx, if_true, if_false, Bool.false_eq_true, reduceIte, Nat.reduceAdd, Nat.reduceSub, Nat.zero_add, eqz_int, pow1010, pow1018, pow1019, Int.reduceMul, Int.reduceAdd, ix40, ix41, ix42, ix43, at40, at41, at42, at43, and_true, true_and, and_self, ne_eq, not_false_eq_true, decide_true, decide_false, decide_eq_true_eq, Bool.and_true, Bool.true_and, mFor, iSeq, srcOf, vals, forGo_n, forGo_c, gSet, mRaise1, mSetF, setF, lim_le, Nat.reduceLeDiff, Bool.not_false, Bool.not_true, Nat.lt_irrefl, List.length_append, List.append_assoc, hi, mCh2, mLink, mLast, h1]
    exact gc_self
theorem own_span {S : Store} {d : D} {b e : Int} (h : SV S d) : f_is_span [.int b, .int e, d] S = .ok (.bl (spanB b e d)) S := by
  have ht := gIt h.kn
  by_cases tp : isTup d = true
  · rw [tp] at ht
    obtain ⟨xs, rfl⟩ : ∃ xs, d = .tup xs := by cases d <;> first | exact ⟨_, rfl⟩ | cases tp
    have hp : xs.length ≤ 5 ∧ ∀ x ∈ xs, Pt S x := by
      cases h with
      | odd h =>
        cases h with
        | t0 => exact ⟨by simp, by simp⟩
        | t1 => exact ⟨by simp, fun x hx => .inl ⟨3, by simpa using hx⟩⟩
      | tup h1 h2 => exact ⟨h1, h2⟩
    by_cases l4 : xs.length = 4
    · have hl : ([] : List D).length + xs.length ≤ lim := by
        have : lim = 16777216 := rfl
        simp only [List.length_nil]
        omega
      have cm := lc_map (i := 3) (env := [some (.int b), some (.int e), some (D.tup xs), none, none, none, none, none]) (me := mCall 1 f_is_integer (mCons (mVar 3) mNil)) (S := S) (fun d => D.bl (isInt d)) xs [] hl fun x hx a => by
        have hi := isint ((hp.2 x hx).kn.app (T := [.lst a]))
        simp only [mSeq, RS.seq, mIfS, mTest, mSet, mRet, mVar, mC, mNil, mCons, Lk.m1, Lk.m2, mB, mAnd, mOr, mNot, mAndT, mOrT, mNotT, mIf, mAsg, mNext, mCall, R.bind, R.bindS, R.nxt, asB, gSub', mTup, mLst, List.getElem?_cons_succ, List.getElem?_cons_zero, List.getElem?_nil, List.set_cons_succ, List.set_cons_zero, List.map_cons, List.map_nil, List.cons_append, List.nil_append, List.length_cons, List.length_nil, List.replicate, Lk.gIx, Lk.gAdd, Lk.gSub, Lk.gMul, Lk.gDiv, Lk.gMod, gInt, gCmp, gNeg, gAbs, gGcd, gLen, List.length_map, Lk.listOf, stIx, if_true, if_false, Bool.false_eq_true, reduceIte, Nat.reduceAdd, Nat.reduceSub, Nat.zero_add, eqz_int, pow1010, pow1018, pow1019, Int.reduceMul, Int.reduceAdd, ix40, ix41, ix42, ix43, at40, at41, at42, at43, and_true, true_and, and_self, ne_eq, not_false_eq_true, decide_true, decide_false, decide_eq_true_eq, Bool.and_true, Bool.true_and, mFor, iSeq, srcOf, vals, forGo_n, forGo_c, gSet, mRaise1, mSetF, setF, lim_le, Nat.reduceLeDiff, Bool.not_false, Bool.not_true, Nat.lt_irrefl, List.length_append, List.append_assoc, hi]
      have em : xs.map (fun d => D.bl (isInt d)) = (xs.map isInt).map D.bl := by simp
      rw [List.nil_append, em] at cm
      have ga := all_ints (S := S) (bs := xs.map isInt)
      have hn : gNeX oe (.int (xs.length : Nat)) (.int 4) S = .ok (.bl false) S := by
        rw [l4]
        exact gn_int
      unfold f_is_span mDef b_is_span
      by_cases ai : (xs.map isInt).all id = true
      · rw [ai] at ga
        obtain ⟨i, j, lo, hi, rfl⟩ : ∃ i j lo hi, xs = [.int i, .int j, .int lo, .int hi] := by
          match xs, l4, ai with
          | [x1, x2, x3, x4], _, ai =>
            simp only [List.map_cons, List.map_nil, List.all_cons, List.all_nil, Bool.and_true, Bool.and_eq_true, id] at ai
            obtain ⟨a1, a2, a3, a4⟩ := ai
            cases x1 <;> first | cases a1 | skip
            cases x2 <;> first | cases a2 | skip
            cases x3 <;> first | cases a3 | skip
            cases x4 <;> first | cases a4 | skip
            exact ⟨_, _, _, _, rfl⟩
        simp only [List.map_cons, List.map_nil, isInt, List.length_cons, List.length_nil, Nat.zero_add, Nat.reduceAdd] at cm ga hn
        have tr : spanB b e (.tup [.int i, .int j, .int lo, .int hi]) = decide (0 ≤ i ∧ i < e ∧ 0 ≤ j ∧ j < e ∧ i ≠ j ∧ 0 ≤ lo ∧ lo ≤ hi ∧ hi ≤ 2880 ∧ hi - lo ≤ b - 2) := rfl
        rw [tr]
        have b1 : ∀ S : Store, f_is_below [.int e, .int i] S = .ok (.bl (decide (0 ≤ i ∧ i < e))) S := fun S => below
        have b2 : ∀ S : Store, f_is_below [.int e, .int j] S = .ok (.bl (decide (0 ≤ j ∧ j < e))) S := fun S => below
        by_cases h1 : 0 ≤ i ∧ i < e
        rotate_left
        · rw [decide_eq_false (by omega)]
          rw [decide_eq_false h1] at b1
          simp only [mSeq, RS.seq, mIfS, mTest, mSet, mRet, mVar, mC, mNil, mCons, Lk.m1, Lk.m2, mB, mAnd, mOr, mNot, mAndT, mOrT, mNotT, mIf, mAsg, mNext, mCall, R.bind, R.bindS, R.nxt, asB, gSub', mTup, mLst, List.getElem?_cons_succ, List.getElem?_cons_zero, List.getElem?_nil, List.set_cons_succ, List.set_cons_zero, List.map_cons, List.map_nil, List.cons_append, List.nil_append, List.length_cons, List.length_nil, List.replicate, Lk.gIx, Lk.gAdd, Lk.gSub, Lk.gMul, Lk.gDiv, Lk.gMod, gInt, gCmp, gNeg, gAbs, gGcd, gLen, List.length_map, Lk.listOf, stIx, if_true, if_false, Bool.false_eq_true, reduceIte, Nat.reduceAdd, Nat.reduceSub, Nat.zero_add, eqz_int, pow1010, pow1018, pow1019, Int.reduceMul, Int.reduceAdd, ix40, ix41, ix42, ix43, at40, at41, at42, at43, and_true, true_and, and_self, ne_eq, not_false_eq_true, decide_true, decide_false, decide_eq_true_eq, Bool.and_true, Bool.true_and, mFor, iSeq, srcOf, vals, forGo_n, forGo_c, gSet, mRaise1, mSetF, setF, lim_le, Nat.reduceLeDiff, Bool.not_false, Bool.not_true, Nat.lt_irrefl, List.length_append, List.append_assoc, ht, hn, mLc, wipeE, cm, ga, gUnpack, gCons', gNil', b1]
          exact gc_bl
        rw [decide_eq_true h1] at b1
        by_cases h2 : 0 ≤ j ∧ j < e
        rotate_left
        · rw [decide_eq_false (by omega)]
          rw [decide_eq_false h2] at b2
          simp only [mSeq, RS.seq, mIfS, mTest, mSet, mRet, mVar, mC, mNil, mCons, Lk.m1, Lk.m2, mB, mAnd, mOr, mNot, mAndT, mOrT, mNotT, mIf, mAsg, mNext, mCall, R.bind, R.bindS, R.nxt, asB, gSub', mTup, mLst, List.getElem?_cons_succ, List.getElem?_cons_zero, List.getElem?_nil, List.set_cons_succ, List.set_cons_zero, List.map_cons, List.map_nil, List.cons_append, List.nil_append, List.length_cons, List.length_nil, List.replicate, Lk.gIx, Lk.gAdd, Lk.gSub, Lk.gMul, Lk.gDiv, Lk.gMod, gInt, gCmp, gNeg, gAbs, gGcd, gLen, List.length_map, Lk.listOf, stIx, if_true, if_false, Bool.false_eq_true, reduceIte, Nat.reduceAdd, Nat.reduceSub, Nat.zero_add, eqz_int, pow1010, pow1018, pow1019, Int.reduceMul, Int.reduceAdd, ix40, ix41, ix42, ix43, at40, at41, at42, at43, and_true, true_and, and_self, ne_eq, not_false_eq_true, decide_true, decide_false, decide_eq_true_eq, Bool.and_true, Bool.true_and, mFor, iSeq, srcOf, vals, forGo_n, forGo_c, gSet, mRaise1, mSetF, setF, lim_le, Nat.reduceLeDiff, Bool.not_false, Bool.not_true, Nat.lt_irrefl, List.length_append, List.append_assoc, ht, hn, mLc, wipeE, cm, ga, gUnpack, gCons', gNil', b1, b2]
          exact gc_bl
        rw [decide_eq_true h2] at b2
        by_cases h5 : i = j
        · subst h5
          rw [decide_eq_false (by omega)]
          simp only [mSeq, RS.seq, mIfS, mTest, mSet, mRet, mVar, mC, mNil, mCons, Lk.m1, Lk.m2, mB, mAnd, mOr, mNot, mAndT, mOrT, mNotT, mIf, mAsg, mNext, mCall, R.bind, R.bindS, R.nxt, asB, gSub', mTup, mLst, List.getElem?_cons_succ, List.getElem?_cons_zero, List.getElem?_nil, List.set_cons_succ, List.set_cons_zero, List.map_cons, List.map_nil, List.cons_append, List.nil_append, List.length_cons, List.length_nil, List.replicate, Lk.gIx, Lk.gAdd, Lk.gSub, Lk.gMul, Lk.gDiv, Lk.gMod, gInt, gCmp, gNeg, gAbs, gGcd, gLen, List.length_map, Lk.listOf, stIx, if_true, if_false, Bool.false_eq_true, reduceIte, Nat.reduceAdd, Nat.reduceSub, Nat.zero_add, eqz_int, pow1010, pow1018, pow1019, Int.reduceMul, Int.reduceAdd, ix40, ix41, ix42, ix43, at40, at41, at42, at43, and_true, true_and, and_self, ne_eq, not_false_eq_true, decide_true, decide_false, decide_eq_true_eq, Bool.and_true, Bool.true_and, mFor, iSeq, srcOf, vals, forGo_n, forGo_c, gSet, mRaise1, mSetF, setF, lim_le, Nat.reduceLeDiff, Bool.not_false, Bool.not_true, Nat.lt_irrefl, List.length_append, List.append_assoc, ht, hn, mLc, wipeE, cm, ga, gUnpack, gCons', gNil', b1, b2, eq_self]
          exact gc_bl
        by_cases k1 : 0 ≤ lo
        rotate_left
        · rw [decide_eq_false (by omega)]
          simp only [mSeq, RS.seq, mIfS, mTest, mSet, mRet, mVar, mC, mNil, mCons, Lk.m1, Lk.m2, mB, mAnd, mOr, mNot, mAndT, mOrT, mNotT, mIf, mAsg, mNext, mCall, R.bind, R.bindS, R.nxt, asB, gSub', mTup, mLst, List.getElem?_cons_succ, List.getElem?_cons_zero, List.getElem?_nil, List.set_cons_succ, List.set_cons_zero, List.map_cons, List.map_nil, List.cons_append, List.nil_append, List.length_cons, List.length_nil, List.replicate, Lk.gIx, Lk.gAdd, Lk.gSub, Lk.gMul, Lk.gDiv, Lk.gMod, gInt, gCmp, gNeg, gAbs, gGcd, gLen, List.length_map, Lk.listOf, stIx, if_true, if_false, Bool.false_eq_true, reduceIte, Nat.reduceAdd, Nat.reduceSub, Nat.zero_add, eqz_int, pow1010, pow1018, pow1019, Int.reduceMul, Int.reduceAdd, ix40, ix41, ix42, ix43, at40, at41, at42, at43, and_true, true_and, and_self, ne_eq, not_false_eq_true, decide_true, decide_false, decide_eq_true_eq, Bool.and_true, Bool.true_and, mFor, iSeq, srcOf, vals, forGo_n, forGo_c, gSet, mRaise1, mSetF, setF, lim_le, Nat.reduceLeDiff, Bool.not_false, Bool.not_true, Nat.lt_irrefl, List.length_append, List.append_assoc, ht, hn, mLc, wipeE, cm, ga, gUnpack, gCons', gNil', b1, b2, h5, mCh3, mLink, mLast, k1]
          exact gc_bl
        by_cases k2 : lo ≤ hi
        rotate_left
        · rw [decide_eq_false (by omega)]
          simp only [mSeq, RS.seq, mIfS, mTest, mSet, mRet, mVar, mC, mNil, mCons, Lk.m1, Lk.m2, mB, mAnd, mOr, mNot, mAndT, mOrT, mNotT, mIf, mAsg, mNext, mCall, R.bind, R.bindS, R.nxt, asB, gSub', mTup, mLst, List.getElem?_cons_succ, List.getElem?_cons_zero, List.getElem?_nil, List.set_cons_succ, List.set_cons_zero, List.map_cons, List.map_nil, List.cons_append, List.nil_append, List.length_cons, List.length_nil, List.replicate, Lk.gIx, Lk.gAdd, Lk.gSub, Lk.gMul, Lk.gDiv, Lk.gMod, gInt, gCmp, gNeg, gAbs, gGcd, gLen, List.length_map, Lk.listOf, stIx, if_true, if_false, Bool.false_eq_true, reduceIte, Nat.reduceAdd, Nat.reduceSub, Nat.zero_add, eqz_int, pow1010, pow1018, pow1019, Int.reduceMul, Int.reduceAdd, ix40, ix41, ix42, ix43, at40, at41, at42, at43, and_true, true_and, and_self, ne_eq, not_false_eq_true, decide_true, decide_false, decide_eq_true_eq, Bool.and_true, Bool.true_and, mFor, iSeq, srcOf, vals, forGo_n, forGo_c, gSet, mRaise1, mSetF, setF, lim_le, Nat.reduceLeDiff, Bool.not_false, Bool.not_true, Nat.lt_irrefl, List.length_append, List.append_assoc, ht, hn, mLc, wipeE, cm, ga, gUnpack, gCons', gNil', b1, b2, h5, mCh3, mLink, mLast, k1, k2]
          exact gc_bl
        by_cases k3 : hi ≤ 2880
        rotate_left
        · rw [decide_eq_false (by omega)]
          simp only [mSeq, RS.seq, mIfS, mTest, mSet, mRet, mVar, mC, mNil, mCons, Lk.m1, Lk.m2, mB, mAnd, mOr, mNot, mAndT, mOrT, mNotT, mIf, mAsg, mNext, mCall, R.bind, R.bindS, R.nxt, asB, gSub', mTup, mLst, List.getElem?_cons_succ, List.getElem?_cons_zero, List.getElem?_nil, List.set_cons_succ, List.set_cons_zero, List.map_cons, List.map_nil, List.cons_append, List.nil_append, List.length_cons, List.length_nil, List.replicate, Lk.gIx, Lk.gAdd, Lk.gSub, Lk.gMul, Lk.gDiv, Lk.gMod, gInt, gCmp, gNeg, gAbs, gGcd, gLen, List.length_map, Lk.listOf, stIx, if_true, if_false, Bool.false_eq_true, reduceIte, Nat.reduceAdd, Nat.reduceSub, Nat.zero_add, eqz_int, pow1010, pow1018, pow1019, Int.reduceMul, Int.reduceAdd, ix40, ix41, ix42, ix43, at40, at41, at42, at43, and_true, true_and, and_self, ne_eq, not_false_eq_true, decide_true, decide_false, decide_eq_true_eq, Bool.and_true, Bool.true_and, mFor, iSeq, srcOf, vals, forGo_n, forGo_c, gSet, mRaise1, mSetF, setF, lim_le, Nat.reduceLeDiff, Bool.not_false, Bool.not_true, Nat.lt_irrefl, List.length_append, List.append_assoc, ht, hn, mLc, wipeE, cm, ga, gUnpack, gCons', gNil', b1, b2, h5, mCh3, mLink, mLast, k1, k2, k3]
          exact gc_bl
        by_cases k4 : hi - lo ≤ b - 2
        · rw [decide_eq_true (by omega)]
          simp only [mSeq, RS.seq, mIfS, mTest, mSet, mRet, mVar, mC, mNil, mCons, Lk.m1, Lk.m2, mB, mAnd, mOr, mNot, mAndT, mOrT, mNotT, mIf, mAsg, mNext, mCall, R.bind, R.bindS, R.nxt, asB, gSub', mTup, mLst, List.getElem?_cons_succ, List.getElem?_cons_zero, List.getElem?_nil, List.set_cons_succ, List.set_cons_zero, List.map_cons, List.map_nil, List.cons_append, List.nil_append, List.length_cons, List.length_nil, List.replicate, Lk.gIx, Lk.gAdd, Lk.gSub, Lk.gMul, Lk.gDiv, Lk.gMod, gInt, gCmp, gNeg, gAbs, gGcd, gLen, List.length_map, Lk.listOf, stIx, if_true, if_false, Bool.false_eq_true, reduceIte, Nat.reduceAdd, Nat.reduceSub, Nat.zero_add, eqz_int, pow1010, pow1018, pow1019, Int.reduceMul, Int.reduceAdd, ix40, ix41, ix42, ix43, at40, at41, at42, at43, and_true, true_and, and_self, ne_eq, not_false_eq_true, decide_true, decide_false, decide_eq_true_eq, Bool.and_true, Bool.true_and, mFor, iSeq, srcOf, vals, forGo_n, forGo_c, gSet, mRaise1, mSetF, setF, lim_le, Nat.reduceLeDiff, Bool.not_false, Bool.not_true, Nat.lt_irrefl, List.length_append, List.append_assoc, ht, hn, mLc, wipeE, cm, ga, gUnpack, gCons', gNil', b1, b2, h5, mCh3, mLink, mLast, k1, k2, k3, k4]
          exact gc_bl
        · rw [decide_eq_false (by omega)]
          simp only [mSeq, RS.seq, mIfS, mTest, mSet, mRet, mVar, mC, mNil, mCons, Lk.m1, Lk.m2, mB, mAnd, mOr, mNot, mAndT, mOrT, mNotT, mIf, mAsg, mNext, mCall, R.bind, R.bindS, R.nxt, asB, gSub', mTup, mLst, List.getElem?_cons_succ, List.getElem?_cons_zero, List.getElem?_nil, List.set_cons_succ, List.set_cons_zero, List.map_cons, List.map_nil, List.cons_append, List.nil_append, List.length_cons, List.length_nil, List.replicate, Lk.gIx, Lk.gAdd, Lk.gSub, Lk.gMul, Lk.gDiv, Lk.gMod, gInt, gCmp, gNeg, gAbs, gGcd, gLen, List.length_map, Lk.listOf, stIx, if_true, if_false, Bool.false_eq_true, reduceIte, Nat.reduceAdd, Nat.reduceSub, Nat.zero_add, eqz_int, pow1010, pow1018, pow1019, Int.reduceMul, Int.reduceAdd, ix40, ix41, ix42, ix43, at40, at41, at42, at43, and_true, true_and, and_self, ne_eq, not_false_eq_true, decide_true, decide_false, decide_eq_true_eq, Bool.and_true, Bool.true_and, mFor, iSeq, srcOf, vals, forGo_n, forGo_c, gSet, mRaise1, mSetF, setF, lim_le, Nat.reduceLeDiff, Bool.not_false, Bool.not_true, Nat.lt_irrefl, List.length_append, List.append_assoc, ht, hn, mLc, wipeE, cm, ga, gUnpack, gCons', gNil', b1, b2, h5, mCh3, mLink, mLast, k1, k2, k3, k4]
          exact gc_bl
      · have ai : (xs.map isInt).all id = false := eq_false_of_ne_true ai
        rw [ai] at ga
        have eb : spanB b e (.tup xs) = false := by
          unfold spanB
          split
          · rename_i i j lo hi heq
            cases heq
            simp [isInt] at ai
          · rfl
        rw [eb]
        simp only [mSeq, RS.seq, mIfS, mTest, mSet, mRet, mVar, mC, mNil, mCons, Lk.m1, Lk.m2, mB, mAnd, mOr, mNot, mAndT, mOrT, mNotT, mIf, mAsg, mNext, mCall, R.bind, R.bindS, R.nxt, asB, gSub', mTup, mLst, List.getElem?_cons_succ, List.getElem?_cons_zero, List.getElem?_nil, List.set_cons_succ, List.set_cons_zero, List.map_cons, List.map_nil, List.cons_append, List.nil_append, List.length_cons, List.length_nil, List.replicate, Lk.gIx, Lk.gAdd, Lk.gSub, Lk.gMul, Lk.gDiv, Lk.gMod, gInt, gCmp, gNeg, gAbs, gGcd, gLen, List.length_map, Lk.listOf, stIx, if_true, if_false, Bool.false_eq_true, reduceIte, Nat.reduceAdd, Nat.reduceSub, Nat.zero_add, eqz_int, pow1010, pow1018, pow1019, Int.reduceMul, Int.reduceAdd, ix40, ix41, ix42, ix43, at40, at41, at42, at43, and_true, true_and, and_self, ne_eq, not_false_eq_true, decide_true, decide_false, decide_eq_true_eq, Bool.and_true, Bool.true_and, mFor, iSeq, srcOf, vals, forGo_n, forGo_c, gSet, mRaise1, mSetF, setF, lim_le, Nat.reduceLeDiff, Bool.not_false, Bool.not_true, Nat.lt_irrefl, List.length_append, List.append_assoc, ht, hn, mLc, wipeE, cm, ga]
        exact gc_ok (by simp [D.cl])
    · have hn : gNeX oe (.int (xs.length : Nat)) (.int 4) S = .ok (.bl true) S := by
        rw [gn_int, decide_eq_false (by omega)]
        rfl
      have eb : spanB b e (.tup xs) = false := by
        unfold spanB
        split
        · rename_i heq
          cases heq
          exact absurd rfl l4
        · rfl
      rw [eb]
      unfold f_is_span mDef b_is_span
      simp only [mSeq, RS.seq, mIfS, mTest, mSet, mRet, mVar, mC, mNil, mCons, Lk.m1, Lk.m2, mB, mAnd, mOr, mNot, mAndT, mOrT, mNotT, mIf, mAsg, mNext, mCall, R.bind, R.bindS, R.nxt, asB, gSub', mTup, mLst, List.getElem?_cons_succ, List.getElem?_cons_zero, List.getElem?_nil, List.set_cons_succ, List.set_cons_zero, List.map_cons, List.map_nil, List.cons_append, List.nil_append, List.length_cons, List.length_nil, List.replicate, Lk.gIx, Lk.gAdd, Lk.gSub, Lk.gMul, Lk.gDiv, Lk.gMod, gInt, gCmp, gNeg, gAbs, gGcd, gLen, List.length_map, Lk.listOf, stIx, if_true, if_false, Bool.false_eq_true, reduceIte, Nat.reduceAdd, Nat.reduceSub, Nat.zero_add, eqz_int, pow1010, pow1018, pow1019, Int.reduceMul, Int.reduceAdd, ix40, ix41, ix42, ix43, at40, at41, at42, at43, and_true, true_and, and_self, ne_eq, not_false_eq_true, decide_true, decide_false, decide_eq_true_eq, Bool.and_true, Bool.true_and, mFor, iSeq, srcOf, vals, forGo_n, forGo_c, gSet, mRaise1, mSetF, setF, lim_le, Nat.reduceLeDiff, Bool.not_false, Bool.not_true, Nat.lt_irrefl, List.length_append, List.append_assoc, ht, hn]
      exact gc_self
  · have tp : isTup d = false := eq_false_of_ne_true tp
    rw [tp] at ht
    have eb : spanB b e d = false := by
      cases d <;> first | rfl | cases tp
    rw [eb]
    unfold f_is_span mDef b_is_span
    simp only [mSeq, RS.seq, mIfS, mTest, mSet, mRet, mVar, mC, mNil, mCons, Lk.m1, Lk.m2, mB, mAnd, mOr, mNot, mAndT, mOrT, mNotT, mIf, mAsg, mNext, mCall, R.bind, R.bindS, R.nxt, asB, gSub', mTup, mLst, List.getElem?_cons_succ, List.getElem?_cons_zero, List.getElem?_nil, List.set_cons_succ, List.set_cons_zero, List.map_cons, List.map_nil, List.cons_append, List.nil_append, List.length_cons, List.length_nil, List.replicate, Lk.gIx, Lk.gAdd, Lk.gSub, Lk.gMul, Lk.gDiv, Lk.gMod, gInt, gCmp, gNeg, gAbs, gGcd, gLen, List.length_map, Lk.listOf, stIx, if_true, if_false, Bool.false_eq_true, reduceIte, Nat.reduceAdd, Nat.reduceSub, Nat.zero_add, eqz_int, pow1010, pow1018, pow1019, Int.reduceMul, Int.reduceAdd, ix40, ix41, ix42, ix43, at40, at41, at42, at43, and_true, true_and, and_self, ne_eq, not_false_eq_true, decide_true, decide_false, decide_eq_true_eq, Bool.and_true, Bool.true_and, mFor, iSeq, srcOf, vals, forGo_n, forGo_c, gSet, mRaise1, mSetF, setF, lim_le, Nat.reduceLeDiff, Bool.not_false, Bool.not_true, Nat.lt_irrefl, List.length_append, List.append_assoc, ht]
    exact gc_self
/-- a row: a tuple, or a list in the store -/
def Row (S : Store) (th : D) (ds : List D) : Prop := th = .tup ds ∨ ∃ n, th = .ref n ∧ S[n]? = some (.lst ds)
theorem Row.app {S T : Store} {th : D} {ds : List D} (h : Row S th ds) : Row (S ++ T) th ds := by
  rcases h with h | ⟨n, e, h⟩
  · exact .inl h
  · exact .inr ⟨n, e, by rw [List.getElem?_append_left (getlt h)]; exact h⟩
def V4 (d : D) : Prop := ∃ i j lo hi, d = .tup [.int i, .int j, .int lo, .int hi]
def pv : D → PyData
  | .tup [.int i, .int j, .int lo, .int hi] => .tuple [.int i, .int j, .int lo, .int hi]
  | _ => .none
theorem spanB_v4 {b e : Int} {d : D} (h : spanB b e d = true) : V4 d := by
  unfold spanB at h
  split at h
  · exact ⟨_, _, _, _, rfl⟩
  · cases h
theorem pyD_v4 {S : Store} {d : D} {n : Nat} (h : V4 d) : pyD S (n + 2) d = some (pv d) := by
  obtain ⟨i, j, lo, hi, rfl⟩ := h
  simp [pyD, pv]
theorem pyD_all {S : Store} {n : Nat} : ∀ {ds : List D}, (∀ d ∈ ds, V4 d) → ds.mapM (pyD S (n + 2)) = some (ds.map pv)
  | [], _ => rfl
  | d :: ds, h => by
    rw [List.mapM_cons, pyD_v4 (h d List.mem_cons_self), pyD_all fun x hx => h x (List.mem_cons_of_mem _ hx)]
    rfl
theorem lay_v4 {d : D} (h : V4 d) : (pv d).canLay0 = true ∧ (pv d).depth ≤ 2 := by
  obtain ⟨i, j, lo, hi, rfl⟩ := h
  simp [pv, PyData.canLay0, PyData.depth, PyData.canLayAll0, PyData.depthAll]
theorem lay_all : ∀ {ds : List D}, (∀ d ∈ ds, V4 d) → PyData.canLayAll0 (ds.map pv) = true ∧ PyData.depthAll (ds.map pv) ≤ 2
  | [], _ => by simp [PyData.canLayAll0, PyData.depthAll]
  | d :: ds, h => by
    obtain ⟨a1, a2⟩ := lay_v4 (h d List.mem_cons_self)
    obtain ⟨b1, b2⟩ := lay_all fun x hx => h x (List.mem_cons_of_mem _ hx)
    simp only [List.map_cons, PyData.canLayAll0, PyData.depthAll, a1, b1, Bool.and_true]
    exact ⟨trivial, by omega⟩
def inB (d : D) (ds : List D) : Bool := (ds.map pv).any fun z => PyData.eqv z (pv d)
theorem sh1 {d : D} (h : V4 d) : SeqAt.shaped (pv d) = true := by
  obtain ⟨a, b⟩ := lay_v4 h
  have b' : (pv d).depth ≤ 64 := by omega
  simp [SeqAt.shaped, a, b']
theorem sh2 {ds : List D} (h : ∀ d ∈ ds, V4 d) : SeqAt.shaped (.list (ds.map pv)) = true := by
  obtain ⟨a, b⟩ := lay_all h
  have b' : (PyData.list (ds.map pv)).depth ≤ 64 := by simp only [PyData.depth]; omega
  have a' : (PyData.list (ds.map pv)).canLay0 = true := by simpa only [PyData.canLay0] using a
  simp [SeqAt.shaped, a', b']
theorem sh3 {ds : List D} (h : ∀ d ∈ ds, V4 d) : SeqAt.shaped (.tuple (ds.map pv)) = true := by
  obtain ⟨a, b⟩ := lay_all h
  have b' : (PyData.tuple (ds.map pv)).depth ≤ 64 := by simp only [PyData.depth]; omega
  have a' : (PyData.tuple (ds.map pv)).canLay0 = true := by simpa only [PyData.canLay0] using a
  simp [SeqAt.shaped, a', b']
/-- in, not in: of a span, in a row of spans -/
theorem in_row {S : Store} {th d : D} {ds : List D} {neg : Bool} (hr : Row S th ds) (hd : V4 d) (hs : ∀ x ∈ ds, V4 x) : gInZ neg d th S = .ok (.bl (if neg then !inB d ds else inB d ds)) S := by
  have f1 : flatD d = none := by obtain ⟨i, j, lo, hi, rfl⟩ := hd; rfl
  have g1 : gIn neg d th S = .bad := by
    unfold gIn
    rcases hr with e | ⟨n, e, h⟩
    · subst e
      simp [Lk.listOf, f1]
    · subst e
      simp [Lk.listOf, h, f1]
  have p1 : pyD S 12 d = some (pv d) := pyD_v4 (n := 10) hd
  have p2 : ds.mapM (pyD S 11) = some (ds.map pv) := pyD_all (n := 9) hs
  unfold gInZ
  rw [g1]
  dsimp only
  rcases hr with e | ⟨n, e, h⟩
  · subst e
    have q : pyD S 12 (.tup ds) = some (.tuple (ds.map pv)) := by
      show (ds.mapM (pyD S 11)).map PyData.tuple = _
      rw [p2]
      rfl
    have g2 : gInD neg d (.tup ds) S = .bad := by
      unfold gInD
      rw [p1, q]
    rw [g2]
    dsimp only
    unfold gInT
    rw [p1, q]
    dsimp only
    rw [if_pos ⟨sh1 hd, sh3 hs⟩]
    rfl
  · subst e
    have q : pyD S 12 (.ref n) = some (.list (ds.map pv)) := by
      show (match S[n]? with
        | some (.lst ds) => (ds.mapM (pyD S 11)).map PyData.list
        | _ => none) = _
      rw [h]
      dsimp only
      rw [p2]
      rfl
    have g2 : gInD neg d (.ref n) S = .ok (.bl (if neg then !inB d ds else inB d ds)) S := by
      unfold gInD
      rw [p1, q]
      dsimp only
      rw [if_pos ⟨sh1 hd, sh2 hs⟩]
      rfl
    rw [g2]
/-- the first fault of a row: k told, pre gone through -/
def fault (b e : Int) : List D → Nat → List D → Option Nat
  | _, _, [] => none
  | pre, k, d :: ds => if spanB b e d = true ∧ inB d pre = false then fault b e (pre ++ [d]) (k + 1) ds else some k
theorem Odd.app {S T : Store} {d : D} (h : Odd S d) : Odd (S ++ T) d := by
  have k : ∀ {n : Nat} {o : Ob}, S[n]? = some o → (S ++ T)[n]? = some o := fun h => by rw [List.getElem?_append_left (getlt h)]; exact h
  cases h with
  | l0 h => exact .l0 (k h)
  | l1 h => exact .l1 (k h)
  | d0 h => exact .d0 (k h)
  | d1 h => exact .d1 (k h)
  | non => exact .non
  | bl b => exact .bl b
  | str x hx => exact .str x hx
  | rt p q => exact .rt p q
  | t0 => exact .t0
  | t1 => exact .t1
theorem SV.app {S T : Store} {d : D} (h : SV S d) : SV (S ++ T) d := by
  cases h with
  | odd h => exact .odd h.app
  | int i => exact .int i
  | tup h1 h2 => exact .tup h1 fun x hx => (h2 x hx).imp (fun z => z) fun z => z.app
  | lst h => exact .lst (by rw [List.getElem?_append_left (getlt h)]; exact h)
theorem cut_pre {pre rest : List D} : cutD (pre ++ rest) none (some (pre.length : Nat)) = pre := by
  unfold cutD
  rw [HT.sIx_none, HT.sIx_nat]
  simp
theorem slice_row {S : Store} {th : D} {pre rest : List D} (h : Row S th (pre ++ rest)) : ∃ th' T, gSl th none (some (pre.length : Nat)) S = .ok th' (S ++ T) ∧ Row (S ++ T) th' pre := by
  rcases h with e | ⟨n, e, h⟩
  · subst e
    refine ⟨.tup pre, [], ?_, .inl rfl⟩
    simp [gSl, Lk.listOf, cut_pre]
  · subst e
    refine ⟨.ref S.length, [.lst pre], ?_, .inr ⟨S.length, rfl, by simp⟩⟩
    simp [gSl, Lk.listOf, h, cut_pre]
def pairI (p : D × Nat) : D := .tup [.int (p.2 : Nat), p.1]
theorem forGo_gn {gd : Store → Prop} {g : MG} {mb : MS} {env : Lk.Env} {S : Store} (h : gd S) : forGo gd g mb [] env S = .nx env S := by unfold forGo; exact if_pos h
theorem forGo_gc {gd : Store → Prop} {g : MG} {mb : MS} {env e1 : Lk.Env} {S S1 : Store} {d : D} {ds : List D} (h : gd S) (hg : g d env S = .ok e1 S1) : forGo gd g mb (d :: ds) env S = (match mb e1 S1 with
    | .nx e2 S2 => forGo gd g mb ds e2 S2
    | .ct e2 S2 => forGo gd g mb ds e2 S2
    | .bk e2 S2 => .nx e2 S2
    | r => r) := by
  rw [forGo, if_pos h, hg]
  all_goals (dsimp only; cases mb e1 S1 <;> rfl)
theorem own_loop {b e : Int} {th : D} {ds : List D} {S0 : Store} {gd : Store → Prop} (hgd : ∀ T, gd (S0 ++ T)) (hr : Row S0 th ds) : ∀ (ds' pre : List D) (T : Store) (r3 r4 : Option D), pre ++ ds' = ds → (∀ x ∈ pre, V4 x) → (∀ x ∈ ds', SV S0 x) →
    ∃ T', match fault b e pre pre.length ds' with
      | some k => forGo gd (gUnpack 2 (gCons' (gSet 3) (gCons' (gSet 4) gNil'))) (mIfS (mOrT (mNotT (mTest (mCall 3 f_is_span (mCons (mVar 0) (mCons (mVar 1) (mCons (mVar 4) mNil)))))) (mTest (m2 (gInZ false) (mVar 4) (mSl (mVar 2) none (some (mVar 3)))))) (mRet (mVar 3)) mNext) ((ds'.zipIdx pre.length).map pairI) [some (.int b), some (.int e), some th, r3, r4] (S0 ++ T) = .rt (.int (k : Nat)) (S0 ++ T')
      | none => ∃ q3 q4, forGo gd (gUnpack 2 (gCons' (gSet 3) (gCons' (gSet 4) gNil'))) (mIfS (mOrT (mNotT (mTest (mCall 3 f_is_span (mCons (mVar 0) (mCons (mVar 1) (mCons (mVar 4) mNil)))))) (mTest (m2 (gInZ false) (mVar 4) (mSl (mVar 2) none (some (mVar 3)))))) (mRet (mVar 3)) mNext) ((ds'.zipIdx pre.length).map pairI) [some (.int b), some (.int e), some th, r3, r4] (S0 ++ T) = .nx [some (.int b), some (.int e), some th, q3, q4] (S0 ++ T')
  | [], pre, T, r3, r4, hp, hv, hs => ⟨T, r3, r4, by rw [List.zipIdx_nil, List.map_nil, forGo_gn (hgd T)]⟩
  | d :: ds', pre, T, r3, r4, hp, hv, hs => by
    have hsp := own_span (b := b) (e := e) (SV.app (T := T) (hs d List.mem_cons_self))
    have hg : gUnpack 2 (gCons' (gSet 3) (gCons' (gSet 4) gNil')) (pairI (d, pre.length)) [some (.int b), some (.int e), some th, r3, r4] (S0 ++ T) = .ok [some (.int b), some (.int e), some th, some (.int (pre.length : Nat)), some d] (S0 ++ T) := by
      unfold pairI
      simp only [mSeq, RS.seq, mIfS, mTest, mSet, mRet, mVar, mC, mNil, mCons, Lk.m1, Lk.m2, mB, mAnd, mOr, mNot, mAndT, mOrT, mNotT, mIf, mAsg, mNext, mCall, R.bind, R.bindS, R.nxt, asB, gSub', mTup, mLst, List.getElem?_cons_succ, List.getElem?_cons_zero, List.getElem?_nil, List.set_cons_succ, List.set_cons_zero, List.map_cons, List.map_nil, List.cons_append, List.nil_append, List.length_cons, List.length_nil, List.replicate, Lk.gIx, Lk.gAdd, Lk.gSub, Lk.gMul, Lk.gDiv, Lk.gMod, gInt, gCmp, gNeg, gAbs, gGcd, gLen, List.length_map, Lk.listOf, stIx, if_true, if_false, Bool.false_eq_true, reduceIte, Nat.reduceAdd, Nat.reduceSub, Nat.zero_add, eqz_int, pow1010, pow1018, pow1019, Int.reduceMul, Int.reduceAdd, ix40, ix41, ix42, ix43, at40, at41, at42, at43, and_true, true_and, and_self, ne_eq, not_false_eq_true, decide_true, decide_false, decide_eq_true_eq, Bool.and_true, Bool.true_and, mFor, iSeq, srcOf, vals, forGo_n, forGo_c, gSet, mRaise1, mSetF, setF, lim_le, Nat.reduceLeDiff, Bool.not_false, Bool.not_true, Nat.lt_irrefl, List.length_append, List.append_assoc, gUnpack, gCons', gNil']
    rw [List.zipIdx_cons, List.map_cons, forGo_gc (hgd T) hg]
    by_cases sp : spanB b e d = true
    · rw [sp] at hsp
      have hv4 := spanB_v4 sp
      obtain ⟨th', T1, hsl, hrow⟩ := slice_row (S := S0 ++ T) (th := th) (pre := pre) (rest := d :: ds') (by rw [hp]; exact hr.app)
      have hin := in_row (neg := false) hrow hv4 hv
      simp only [Bool.false_eq_true, if_false] at hin
      have hsl' : mSl (mVar 2) none (some (mVar 3)) [some (.int b), some (.int e), some th, some (.int (pre.length : Nat)), some d] (S0 ++ T) = .ok th' (S0 ++ T ++ T1) := by
        unfold mSl
        simp only [mSeq, RS.seq, mIfS, mTest, mSet, mRet, mVar, mC, mNil, mCons, Lk.m1, Lk.m2, mB, mAnd, mOr, mNot, mAndT, mOrT, mNotT, mIf, mAsg, mNext, mCall, R.bind, R.bindS, R.nxt, asB, gSub', mTup, mLst, List.getElem?_cons_succ, List.getElem?_cons_zero, List.getElem?_nil, List.set_cons_succ, List.set_cons_zero, List.map_cons, List.map_nil, List.cons_append, List.nil_append, List.length_cons, List.length_nil, List.replicate, Lk.gIx, Lk.gAdd, Lk.gSub, Lk.gMul, Lk.gDiv, Lk.gMod, gInt, gCmp, gNeg, gAbs, gGcd, gLen, List.length_map, Lk.listOf, stIx, if_true, if_false, Bool.false_eq_true, reduceIte, Nat.reduceAdd, Nat.reduceSub, Nat.zero_add, eqz_int, pow1010, pow1018, pow1019, Int.reduceMul, Int.reduceAdd, ix40, ix41, ix42, ix43, at40, at41, at42, at43, and_true, true_and, and_self, ne_eq, not_false_eq_true, decide_true, decide_false, decide_eq_true_eq, Bool.and_true, Bool.true_and, mFor, iSeq, srcOf, vals, forGo_n, forGo_c, gSet, mRaise1, mSetF, setF, lim_le, Nat.reduceLeDiff, Bool.not_false, Bool.not_true, Nat.lt_irrefl, List.length_append, List.append_assoc, toO, hsl]
      by_cases ib : inB d pre = true
      · rw [ib] at hin
        have ef : fault b e pre pre.length (d :: ds') = some pre.length := by
          unfold fault
          rw [if_neg (fun z => by rw [ib] at z; cases z.2)]
        rw [ef]
        refine ⟨T ++ T1, ?_⟩
        dsimp only
        rw [List.append_assoc] at hin hsl'
        simp only [mSeq, RS.seq, mIfS, mTest, mSet, mRet, mVar, mC, mNil, mCons, Lk.m1, Lk.m2, mB, mAnd, mOr, mNot, mAndT, mOrT, mNotT, mIf, mAsg, mNext, mCall, R.bind, R.bindS, R.nxt, asB, gSub', mTup, mLst, List.getElem?_cons_succ, List.getElem?_cons_zero, List.getElem?_nil, List.set_cons_succ, List.set_cons_zero, List.map_cons, List.map_nil, List.cons_append, List.nil_append, List.length_cons, List.length_nil, List.replicate, Lk.gIx, Lk.gAdd, Lk.gSub, Lk.gMul, Lk.gDiv, Lk.gMod, gInt, gCmp, gNeg, gAbs, gGcd, gLen, List.length_map, Lk.listOf, stIx, if_true, if_false, Bool.false_eq_true, reduceIte, Nat.reduceAdd, Nat.reduceSub, Nat.zero_add, eqz_int, pow1010, pow1018, pow1019, Int.reduceMul, Int.reduceAdd, ix40, ix41, ix42, ix43, at40, at41, at42, at43, and_true, true_and, and_self, ne_eq, not_false_eq_true, decide_true, decide_false, decide_eq_true_eq, Bool.and_true, Bool.true_and, mFor, iSeq, srcOf, vals, forGo_n, forGo_c, gSet, mRaise1, mSetF, setF, lim_le, Nat.reduceLeDiff, Bool.not_false, Bool.not_true, Nat.lt_irrefl, List.length_append, List.append_assoc, hsp, hsl', hin]
      · have ib : inB d pre = false := eq_false_of_ne_true ib
        rw [ib] at hin
        have ef : fault b e pre pre.length (d :: ds') = fault b e (pre ++ [d]) (pre ++ [d]).length ds' := by
          rw [fault, if_pos ⟨sp, ib⟩, List.length_append]
          rfl
        rw [ef]
        rw [List.append_assoc] at hin hsl'
        have ih := own_loop (b := b) (e := e) hgd hr ds' (pre ++ [d]) (T ++ T1) (some (.int (pre.length : Nat))) (some d) (by rw [← hp]; simp) (fun x hx => by
          rcases List.mem_append.mp hx with z | z
          · exact hv x z
          · rw [List.mem_singleton.mp z]; exact hv4) (fun x hx => hs x (List.mem_cons_of_mem _ hx))
        have el : (pre ++ [d]).length = pre.length + 1 := by simp
        rw [el] at ih ⊢
        have eb : (mIfS (mOrT (mNotT (mTest (mCall 3 f_is_span (mCons (mVar 0) (mCons (mVar 1) (mCons (mVar 4) mNil)))))) (mTest (m2 (gInZ false) (mVar 4) (mSl (mVar 2) none (some (mVar 3)))))) (mRet (mVar 3)) mNext) [some (.int b), some (.int e), some th, some (.int (pre.length : Nat)), some d] (S0 ++ T) = .nx [some (.int b), some (.int e), some th, some (.int (pre.length : Nat)), some d] (S0 ++ (T ++ T1)) := by
          simp only [mSeq, RS.seq, mIfS, mTest, mSet, mRet, mVar, mC, mNil, mCons, Lk.m1, Lk.m2, mB, mAnd, mOr, mNot, mAndT, mOrT, mNotT, mIf, mAsg, mNext, mCall, R.bind, R.bindS, R.nxt, asB, gSub', mTup, mLst, List.getElem?_cons_succ, List.getElem?_cons_zero, List.getElem?_nil, List.set_cons_succ, List.set_cons_zero, List.map_cons, List.map_nil, List.cons_append, List.nil_append, List.length_cons, List.length_nil, List.replicate, Lk.gIx, Lk.gAdd, Lk.gSub, Lk.gMul, Lk.gDiv, Lk.gMod, gInt, gCmp, gNeg, gAbs, gGcd, gLen, List.length_map, Lk.listOf, stIx, if_true, if_false, Bool.false_eq_true, reduceIte, Nat.reduceAdd, Nat.reduceSub, Nat.zero_add, eqz_int, pow1010, pow1018, pow1019, Int.reduceMul, Int.reduceAdd, ix40, ix41, ix42, ix43, at40, at41, at42, at43, and_true, true_and, and_self, ne_eq, not_false_eq_true, decide_true, decide_false, decide_eq_true_eq, Bool.and_true, Bool.true_and, mFor, iSeq, srcOf, vals, forGo_n, forGo_c, gSet, mRaise1, mSetF, setF, lim_le, Nat.reduceLeDiff, Bool.not_false, Bool.not_true, Nat.lt_irrefl, List.length_append, List.append_assoc, hsp, hsl', hin]
        rw [eb]
        exact ih
    · have sp : spanB b e d = false := eq_false_of_ne_true sp
      rw [sp] at hsp
      have ef : fault b e pre pre.length (d :: ds') = some pre.length := by
        unfold fault
        rw [if_neg (fun z => by rw [sp] at z; cases z.1)]
      rw [ef]
      refine ⟨T, ?_⟩
      dsimp only
      simp only [mSeq, RS.seq, mIfS, mTest, mSet, mRet, mVar, mC, mNil, mCons, Lk.m1, Lk.m2, mB, mAnd, mOr, mNot, mAndT, mOrT, mNotT, mIf, mAsg, mNext, mCall, R.bind, R.bindS, R.nxt, asB, gSub', mTup, mLst, List.getElem?_cons_succ, List.getElem?_cons_zero, List.getElem?_nil, List.set_cons_succ, List.set_cons_zero, List.map_cons, List.map_nil, List.cons_append, List.nil_append, List.length_cons, List.length_nil, List.replicate, Lk.gIx, Lk.gAdd, Lk.gSub, Lk.gMul, Lk.gDiv, Lk.gMod, gInt, gCmp, gNeg, gAbs, gGcd, gLen, List.length_map, Lk.listOf, stIx, if_true, if_false, Bool.false_eq_true, reduceIte, Nat.reduceAdd, Nat.reduceSub, Nat.zero_add, eqz_int, pow1010, pow1018, pow1019, Int.reduceMul, Int.reduceAdd, ix40, ix41, ix42, ix43, at40, at41, at42, at43, and_true, true_and, and_self, ne_eq, not_false_eq_true, decide_true, decide_false, decide_eq_true_eq, Bool.and_true, Bool.true_and, mFor, iSeq, srcOf, vals, forGo_n, forGo_c, gSet, mRaise1, mSetF, setF, lim_le, Nat.reduceLeDiff, Bool.not_false, Bool.not_true, Nat.lt_irrefl, List.length_append, List.append_assoc, hsp]
theorem gSeq {S : Store} {th : D} {ds : List D} (h : Row S th ds) : gIsi cs [.bi "list", .bi "tuple"] th S = .ok (.bl true) S := by
  rcases h with e | ⟨n, e, h⟩
  · subst e
    unfold gIsi
    show (if okK cs (.bi "tuple") = true then R.ok (D.bl _) S else R.bad) = _
    rw [if_pos (by decide)]
    congr 2
  · subst e
    have ht : tyK S (.ref n) = some (.bi "list") := by simp [tyK, h]
    unfold gIsi
    rw [ht]
    dsimp only
    rw [if_pos (by decide)]
    congr 2
theorem gLenR {S : Store} {th : D} {ds : List D} (h : Row S th ds) : gLen [th] S = .ok (.int (ds.length : Nat)) S := by
  rcases h with e | ⟨n, e, h⟩
  · subst e; rfl
  · subst e; simp [gLen, h]
theorem srcR {S : Store} {th : D} {ds : List D} (h : Row S th ds) : ∃ gd : Store → Prop, srcEZ th S = .ok ⟨enumD ds, gd⟩ S ∧ ∀ T, gd (S ++ T) := by
  rcases h with e | ⟨n, e, h⟩
  · subst e; exact ⟨fun _ => True, rfl, fun _ => trivial⟩
  · subst e
    refine ⟨fun S => S[n]? = some (.lst ds), ?_, fun T => by
      show (S ++ T)[n]? = some (.lst ds)
      rw [List.getElem?_append_left (getlt h)]; exact h⟩
    simp [srcEZ, srcE, h]
def res (o : Option Nat) : D := match o with
  | some k => .int (k : Nat)
  | none => .non
theorem own_fault {S : Store} {th : D} {ds : List D} {b e : Int} (h : Row S th ds) (hs : ∀ x ∈ ds, SV S x) : f_spans_fault [.int b, .int e, th] S = .ok (if 60 < ds.length then .int (-1) else res (fault b e [] 0 ds)) S := by
  have g1 := gSeq h
  have g2 := gLenR h
  have cl : ∀ i : Int, (D.int i).cl S.length = true := fun i => by simp [D.cl]
  unfold f_spans_fault mDef b_spans_fault
  by_cases hl : 60 < ds.length
  · have hl' : (60 : Int) < (ds.length : Nat) := by omega
    rw [if_pos hl]
    rcases h with z | ⟨n, z, hn⟩ <;> subst z
    · simp only [mSeq, RS.seq, mIfS, mTest, mSet, mRet, mVar, mC, mNil, mCons, Lk.m1, Lk.m2, mB, mAnd, mOr, mNot, mAndT, mOrT, mNotT, mIf, mAsg, mNext, mCall, R.bind, R.bindS, R.nxt, asB, gSub', mTup, mLst, List.getElem?_cons_succ, List.getElem?_cons_zero, List.getElem?_nil, List.set_cons_succ, List.set_cons_zero, List.map_cons, List.map_nil, List.cons_append, List.nil_append, List.length_cons, List.length_nil, List.replicate, Lk.gIx, Lk.gAdd, Lk.gSub, Lk.gMul, Lk.gDiv, Lk.gMod, gInt, gCmp, gNeg, gAbs, gGcd, gLen, List.length_map, Lk.listOf, stIx, if_true, if_false, Bool.false_eq_true, reduceIte, Nat.reduceAdd, Nat.reduceSub, Nat.zero_add, eqz_int, pow1010, pow1018, pow1019, Int.reduceMul, Int.reduceAdd, ix40, ix41, ix42, ix43, at40, at41, at42, at43, and_true, true_and, and_self, ne_eq, not_false_eq_true, decide_true, decide_false, decide_eq_true_eq, Bool.and_true, Bool.true_and, mFor, iSeq, srcOf, vals, forGo_n, forGo_c, gSet, mRaise1, mSetF, setF, lim_le, Nat.reduceLeDiff, Bool.not_false, Bool.not_true, Nat.lt_irrefl, List.length_append, List.append_assoc, g1, hl']
      exact gc_self
    · simp only [mSeq, RS.seq, mIfS, mTest, mSet, mRet, mVar, mC, mNil, mCons, Lk.m1, Lk.m2, mB, mAnd, mOr, mNot, mAndT, mOrT, mNotT, mIf, mAsg, mNext, mCall, R.bind, R.bindS, R.nxt, asB, gSub', mTup, mLst, List.getElem?_cons_succ, List.getElem?_cons_zero, List.getElem?_nil, List.set_cons_succ, List.set_cons_zero, List.map_cons, List.map_nil, List.cons_append, List.nil_append, List.length_cons, List.length_nil, List.replicate, Lk.gIx, Lk.gAdd, Lk.gSub, Lk.gMul, Lk.gDiv, Lk.gMod, gInt, gCmp, gNeg, gAbs, gGcd, gLen, List.length_map, Lk.listOf, stIx, if_true, if_false, Bool.false_eq_true, reduceIte, Nat.reduceAdd, Nat.reduceSub, Nat.zero_add, eqz_int, pow1010, pow1018, pow1019, Int.reduceMul, Int.reduceAdd, ix40, ix41, ix42, ix43, at40, at41, at42, at43, and_true, true_and, and_self, ne_eq, not_false_eq_true, decide_true, decide_false, decide_eq_true_eq, Bool.and_true, Bool.true_and, mFor, iSeq, srcOf, vals, forGo_n, forGo_c, gSet, mRaise1, mSetF, setF, lim_le, Nat.reduceLeDiff, Bool.not_false, Bool.not_true, Nat.lt_irrefl, List.length_append, List.append_assoc, g1, hn, hl']
      exact gc_self
  · have hl' : ¬ (60 : Int) < (ds.length : Nat) := by omega
    rw [if_neg hl]
    obtain ⟨gd, s1, s2⟩ := srcR h
    obtain ⟨T', lp⟩ := own_loop (b := b) (e := e) (th := th) s2 h ds [] [] none none (by simp) (by simp) hs
    have en : (ds.zipIdx ([] : List D).length).map pairI = enumD ds := rfl
    rw [en, List.append_nil] at lp
    have e0 : ([] : List D).length = 0 := rfl
    rw [e0] at lp
    cases q : fault b e [] 0 ds with
    | some k =>
      rw [q] at lp
      dsimp only at lp
      rcases h with z | ⟨n, z, hn⟩ <;> subst z
      · simp only [mSeq, RS.seq, mIfS, mTest, mSet, mRet, mVar, mC, mNil, mCons, Lk.m1, Lk.m2, mB, mAnd, mOr, mNot, mAndT, mOrT, mNotT, mIf, mAsg, mNext, mCall, R.bind, R.bindS, R.nxt, asB, gSub', mTup, mLst, List.getElem?_cons_succ, List.getElem?_cons_zero, List.getElem?_nil, List.set_cons_succ, List.set_cons_zero, List.map_cons, List.map_nil, List.cons_append, List.nil_append, List.length_cons, List.length_nil, List.replicate, Lk.gIx, Lk.gAdd, Lk.gSub, Lk.gMul, Lk.gDiv, Lk.gMod, gInt, gCmp, gNeg, gAbs, gGcd, gLen, List.length_map, Lk.listOf, stIx, if_true, if_false, Bool.false_eq_true, reduceIte, Nat.reduceAdd, Nat.reduceSub, Nat.zero_add, eqz_int, pow1010, pow1018, pow1019, Int.reduceMul, Int.reduceAdd, ix40, ix41, ix42, ix43, at40, at41, at42, at43, and_true, true_and, and_self, ne_eq, not_false_eq_true, decide_true, decide_false, decide_eq_true_eq, Bool.and_true, Bool.true_and, mFor, iSeq, srcOf, vals, forGo_n, forGo_c, gSet, mRaise1, mSetF, setF, lim_le, Nat.reduceLeDiff, Bool.not_false, Bool.not_true, Nat.lt_irrefl, List.length_append, List.append_assoc, g1, hl', iEnuZ, s1, lp]
        exact gc_ok (cl _)
      · simp only [mSeq, RS.seq, mIfS, mTest, mSet, mRet, mVar, mC, mNil, mCons, Lk.m1, Lk.m2, mB, mAnd, mOr, mNot, mAndT, mOrT, mNotT, mIf, mAsg, mNext, mCall, R.bind, R.bindS, R.nxt, asB, gSub', mTup, mLst, List.getElem?_cons_succ, List.getElem?_cons_zero, List.getElem?_nil, List.set_cons_succ, List.set_cons_zero, List.map_cons, List.map_nil, List.cons_append, List.nil_append, List.length_cons, List.length_nil, List.replicate, Lk.gIx, Lk.gAdd, Lk.gSub, Lk.gMul, Lk.gDiv, Lk.gMod, gInt, gCmp, gNeg, gAbs, gGcd, gLen, List.length_map, Lk.listOf, stIx, if_true, if_false, Bool.false_eq_true, reduceIte, Nat.reduceAdd, Nat.reduceSub, Nat.zero_add, eqz_int, pow1010, pow1018, pow1019, Int.reduceMul, Int.reduceAdd, ix40, ix41, ix42, ix43, at40, at41, at42, at43, and_true, true_and, and_self, ne_eq, not_false_eq_true, decide_true, decide_false, decide_eq_true_eq, Bool.and_true, Bool.true_and, mFor, iSeq, srcOf, vals, forGo_n, forGo_c, gSet, mRaise1, mSetF, setF, lim_le, Nat.reduceLeDiff, Bool.not_false, Bool.not_true, Nat.lt_irrefl, List.length_append, List.append_assoc, g1, hn, hl', iEnuZ, s1, lp]
        exact gc_ok (cl _)
    | none =>
      rw [q] at lp
      obtain ⟨q3, q4, lp⟩ := lp
      rcases h with z | ⟨n, z, hn⟩ <;> subst z
      · simp only [mSeq, RS.seq, mIfS, mTest, mSet, mRet, mVar, mC, mNil, mCons, Lk.m1, Lk.m2, mB, mAnd, mOr, mNot, mAndT, mOrT, mNotT, mIf, mAsg, mNext, mCall, R.bind, R.bindS, R.nxt, asB, gSub', mTup, mLst, List.getElem?_cons_succ, List.getElem?_cons_zero, List.getElem?_nil, List.set_cons_succ, List.set_cons_zero, List.map_cons, List.map_nil, List.cons_append, List.nil_append, List.length_cons, List.length_nil, List.replicate, Lk.gIx, Lk.gAdd, Lk.gSub, Lk.gMul, Lk.gDiv, Lk.gMod, gInt, gCmp, gNeg, gAbs, gGcd, gLen, List.length_map, Lk.listOf, stIx, if_true, if_false, Bool.false_eq_true, reduceIte, Nat.reduceAdd, Nat.reduceSub, Nat.zero_add, eqz_int, pow1010, pow1018, pow1019, Int.reduceMul, Int.reduceAdd, ix40, ix41, ix42, ix43, at40, at41, at42, at43, and_true, true_and, and_self, ne_eq, not_false_eq_true, decide_true, decide_false, decide_eq_true_eq, Bool.and_true, Bool.true_and, mFor, iSeq, srcOf, vals, forGo_n, forGo_c, gSet, mRaise1, mSetF, setF, lim_le, Nat.reduceLeDiff, Bool.not_false, Bool.not_true, Nat.lt_irrefl, List.length_append, List.append_assoc, g1, hl', iEnuZ, s1, lp]
        exact gc_ok (by simp [D.cl, res])
      · simp only [mSeq, RS.seq, mIfS, mTest, mSet, mRet, mVar, mC, mNil, mCons, Lk.m1, Lk.m2, mB, mAnd, mOr, mNot, mAndT, mOrT, mNotT, mIf, mAsg, mNext, mCall, R.bind, R.bindS, R.nxt, asB, gSub', mTup, mLst, List.getElem?_cons_succ, List.getElem?_cons_zero, List.getElem?_nil, List.set_cons_succ, List.set_cons_zero, List.map_cons, List.map_nil, List.cons_append, List.nil_append, List.length_cons, List.length_nil, List.replicate, Lk.gIx, Lk.gAdd, Lk.gSub, Lk.gMul, Lk.gDiv, Lk.gMod, gInt, gCmp, gNeg, gAbs, gGcd, gLen, List.length_map, Lk.listOf, stIx, if_true, if_false, Bool.false_eq_true, reduceIte, Nat.reduceAdd, Nat.reduceSub, Nat.zero_add, eqz_int, pow1010, pow1018, pow1019, Int.reduceMul, Int.reduceAdd, ix40, ix41, ix42, ix43, at40, at41, at42, at43, and_true, true_and, and_self, ne_eq, not_false_eq_true, decide_true, decide_false, decide_eq_true_eq, Bool.and_true, Bool.true_and, mFor, iSeq, srcOf, vals, forGo_n, forGo_c, gSet, mRaise1, mSetF, setF, lim_le, Nat.reduceLeDiff, Bool.not_false, Bool.not_true, Nat.lt_irrefl, List.length_append, List.append_assoc, g1, hn, hl', iEnuZ, s1, lp]
        exact gc_ok (by simp [D.cl, res])
theorem bd_small {n : Nat} (h : n ≤ 60) : bd ((n : Nat) : Int) := by
  have e : (2 : Int) ^ 62 = 4611686018427387904 := by decide
  unfold bd
  rw [e]
  constructor <;> omega
theorem are_ev {S : Store} {e : Int} (he : 1 ≤ e ∧ e ≤ 24) : f_are_events [.int e] S = .ok (.bl true) S := by
  have h6 := isint (kn_int S e)
  simp only [isInt] at h6
  unfold f_are_events mDef b_are_events
  simp only [mSeq, RS.seq, mIfS, mTest, mSet, mRet, mVar, mC, mNil, mCons, Lk.m1, Lk.m2, mB, mAnd, mOr, mNot, mAndT, mOrT, mNotT, mIf, mAsg, mNext, mCall, R.bind, R.bindS, R.nxt, asB, gSub', mTup, mLst, List.getElem?_cons_succ, List.getElem?_cons_zero, List.getElem?_nil, List.set_cons_succ, List.set_cons_zero, List.map_cons, List.map_nil, List.cons_append, List.nil_append, List.length_cons, List.length_nil, List.replicate, Lk.gIx, Lk.gAdd, Lk.gSub, Lk.gMul, Lk.gDiv, Lk.gMod, gInt, gCmp, gNeg, gAbs, gGcd, gLen, List.length_map, Lk.listOf, stIx, if_true, if_false, Bool.false_eq_true, reduceIte, Nat.reduceAdd, Nat.reduceSub, Nat.zero_add, eqz_int, pow1010, pow1018, pow1019, Int.reduceMul, Int.reduceAdd, ix40, ix41, ix42, ix43, at40, at41, at42, at43, and_true, true_and, and_self, ne_eq, not_false_eq_true, decide_true, decide_false, decide_eq_true_eq, Bool.and_true, Bool.true_and, mFor, iSeq, srcOf, vals, forGo_n, forGo_c, gSet, mRaise1, mSetF, setF, lim_le, Nat.reduceLeDiff, Bool.not_false, Bool.not_true, Nat.lt_irrefl, List.length_append, List.append_assoc, h6, mCh2, mLink, mLast, he.1, he.2]
  exact gc_self
theorem net_good {S : Store} {th : D} {ds : List D} {b e : Int} (hb : 3 ≤ b ∧ b ≤ 1440) (he : 1 ≤ e ∧ e ≤ 24) (h : Row S th ds) (hs : ∀ x ∈ ds, SV S x) (hv : ∀ x ∈ ds, V4 x)
    (hl : ¬ 60 < ds.length) (hf : fault b e [] 0 ds = none) : mkOf "Net" f_Net___init__ [.int b, .int e, th] S = .ok (.ins "Net" [.int b, .int e, .tup ds]) S := by
  have hf1 := own_fault (b := b) (e := e) (h.app (T := [.obj "Net" []])) fun x hx => (hs x hx).app
  rw [if_neg hl, hf] at hf1
  have h5 := isint (kn_int (S ++ [Ob.obj "Net" []]) b)
  have h6 := isint (kn_int (S ++ [Ob.obj "Net" []]) e)
  simp only [isInt] at h5 h6
  have hg : ∀ x, (S ++ [x])[S.length]? = some x := fun x => by simp
  have hset : ∀ x y : Ob, (S ++ [x]).set S.length y = S ++ [y] := fun x y => by simp
  have f0 : (flds "Net")[0]? = some (Str.ofString "beat") := by decide
  have f1 : (flds "Net")[1]? = some (Str.ofString "events") := by decide
  have f2 : (flds "Net")[2]? = some (Str.ofString "spans") := by decide
  have t0 : (flds "Net").take 0 = [] := rfl
  have t1 : (flds "Net").take 1 = [Str.ofString "beat"] := by decide
  have t2 : (flds "Net").take 2 = [Str.ofString "beat", Str.ofString "events"] := by decide
  have n0 : Str.ofString "beat" ∉ ([] : List Str) := by decide
  have n1 : Str.ofString "events" ∉ ([Str.ofString "beat"] : List Str) := by decide
  have n2 : Str.ofString "spans" ∉ ([Str.ofString "beat", Str.ofString "events"] : List Str) := by decide
  have q0 : (0 : Nat) < 900 := by decide
  have q1 : (1 : Nat) < 900 := by decide
  have q2 : (2 : Nat) < 900 := by decide
  have hrow : ∀ o : Ob, gTuple [th] (S ++ [o]) = .ok (.tup ds) (S ++ [o]) := fun o => by
    rcases h with z | ⟨n, z, hn⟩
    · subst z; rfl
    · subst z
      have : (S ++ [o])[n]? = some (.lst ds) := by rw [List.getElem?_append_left (getlt hn)]; exact hn
      unfold gTuple
      simp [Lk.listOf, this]
  have ei : f_Net___init__ [.ref S.length, .int b, .int e, th] (S ++ [Ob.obj "Net" []]) = .ok .non (S ++ [Ob.obj "Net" [.int b, .int e, .tup ds]]) := by
    unfold f_Net___init__ mDef b_Net___init__
    simp only [mSeq, RS.seq, mIfS, mTest, mSet, mRet, mVar, mC, mNil, mCons, Lk.m1, Lk.m2, mB, mAnd, mOr, mNot, mAndT, mOrT, mNotT, mIf, mAsg, mNext, mCall, R.bind, R.bindS, R.nxt, asB, gSub', mTup, mLst, List.getElem?_cons_succ, List.getElem?_cons_zero, List.getElem?_nil, List.set_cons_succ, List.set_cons_zero, List.map_cons, List.map_nil, List.cons_append, List.nil_append, List.length_cons, List.length_nil, List.replicate, Lk.gIx, Lk.gAdd, Lk.gSub, Lk.gMul, Lk.gDiv, Lk.gMod, gInt, gCmp, gNeg, gAbs, gGcd, gLen, List.length_map, Lk.listOf, stIx, if_true, if_false, Bool.false_eq_true, reduceIte, Nat.reduceAdd, Nat.reduceSub, Nat.zero_add, eqz_int, pow1010, pow1018, pow1019, Int.reduceMul, Int.reduceAdd, ix40, ix41, ix42, ix43, at40, at41, at42, at43, and_true, true_and, and_self, ne_eq, not_false_eq_true, decide_true, decide_false, decide_eq_true_eq, Bool.and_true, Bool.true_and, mFor, iSeq, srcOf, vals, forGo_n, forGo_c, gSet, mRaise1, mSetF, setF, lim_le, Nat.reduceLeDiff, Bool.not_false, Bool.not_true, Nat.lt_irrefl, List.length_append, List.append_assoc, h5, are_ev he, mCh2, mLink, mLast, hb.1, hb.2, hf1, res, gNotN, isNonD, hg, hset, f0, f1, f2, t0, t1, t2, n0, n1, n2, q0, q1, q2, hrow]
    refine gc_len ?_
    simp
  have cv : ∀ d ∈ ds, d.cl S.length = true := fun d hd => by
    obtain ⟨i, j, lo, hi, z⟩ := hv d hd
    subst z
    simp [D.cl, clL]
  have call : ∀ l : List D, (∀ d ∈ l, d.cl S.length = true) → clL S.length l = true := fun l => by
    induction l with
    | nil => intro _; simp [clL]
    | cons d l ih => intro hl; simp [clL, hl d List.mem_cons_self, ih fun x hx => hl x (List.mem_cons_of_mem _ hx)]
  unfold mkOf
  rw [ei]
  simp only [hg, if_true]
  unfold mkEnd
  rw [if_pos ⟨by simp [clL, D.cl, call ds cv], by simp⟩]
/-- what is kept but for the source n -/
def Ag (S : Store) (n : Nat) (S' : Store) : Prop := S.length ≤ S'.length ∧ ∀ m, m < S.length → m ≠ n → S'[m]? = S[m]?
theorem Ch.ag {S S' : Store} {n : Nat} (h : Ch S n S') : Ag S n S' := by
  obtain ⟨o, rfl⟩ := h
  exact ⟨by simp, fun m _ hm => by simp [List.getElem?_set, Ne.symm hm]⟩
theorem Ag.trans {S S' S'' : Store} {n : Nat} (h : Ag S n S') (h' : Ag S' n S'') : Ag S n S'' := ⟨Nat.le_trans h.1 h'.1, fun m hm hn => by rw [h'.2 m (Nat.lt_of_lt_of_le hm h.1) hn, h.2 m hm hn]⟩
theorem Ag.app (S : Store) (n : Nat) (T : Store) : Ag S n (S ++ T) := ⟨by simp, fun m hm _ => by rw [List.getElem?_append_left hm]⟩
theorem Ag.refl (S : Store) (n : Nat) : Ag S n S := ⟨Nat.le_refl _, fun _ _ _ => rfl⟩
theorem Odd.imp {S S' : Store} {d : D} (h : Odd S d) (k : ∀ m o, S[m]? = some o → d = .ref m → S'[m]? = some o) : Odd S' d := by
  cases h with
  | l0 h => exact .l0 (k _ _ h rfl)
  | l1 h => exact .l1 (k _ _ h rfl)
  | d0 h => exact .d0 (k _ _ h rfl)
  | d1 h => exact .d1 (k _ _ h rfl)
  | non => exact .non
  | bl b => exact .bl b
  | str x hx => exact .str x hx
  | rt p q => exact .rt p q
  | t0 => exact .t0
  | t1 => exact .t1
def ra (p q : Int) : D := .ins "Ratio" [.int p, .int q]
theorem num_int {S : Store} {v : Int} : f_is_number [.int v] S = .ok (.bl true) S := by
  have h1 := isint (kn_int S v)
  simp only [isInt] at h1
  unfold f_is_number mDef b_is_number
  simp only [mSeq, RS.seq, mIfS, mTest, mSet, mRet, mVar, mC, mNil, mCons, Lk.m1, Lk.m2, mB, mAnd, mOr, mNot, mAndT, mOrT, mNotT, mIf, mAsg, mNext, mCall, R.bind, R.bindS, R.nxt, asB, gSub', mTup, mLst, List.getElem?_cons_succ, List.getElem?_cons_zero, List.getElem?_nil, List.set_cons_succ, List.set_cons_zero, List.map_cons, List.map_nil, List.cons_append, List.nil_append, List.length_cons, List.length_nil, List.replicate, Lk.gIx, Lk.gAdd, Lk.gSub, Lk.gMul, Lk.gDiv, Lk.gMod, gInt, gCmp, gNeg, gAbs, gGcd, gLen, List.length_map, Lk.listOf, stIx, if_true, if_false, Bool.false_eq_true, reduceIte, Nat.reduceAdd, Nat.reduceSub, Nat.zero_add, eqz_int, pow1010, pow1018, pow1019, Int.reduceMul, Int.reduceAdd, ix40, ix41, ix42, ix43, at40, at41, at42, at43, and_true, true_and, and_self, ne_eq, not_false_eq_true, decide_true, decide_false, decide_eq_true_eq, Bool.and_true, Bool.true_and, mFor, iSeq, srcOf, vals, forGo_n, forGo_c, gSet, mRaise1, mSetF, setF, lim_le, Nat.reduceLeDiff, Bool.not_false, Bool.not_true, Nat.lt_irrefl, List.length_append, List.append_assoc, h1]
  exact gc_self
theorem num_ra {S : Store} {p q : Int} : f_is_number [ra p q] S = .ok (.bl true) S := by
  have h1 := isint (kn_rat S [.int p, .int q])
  have h2 := (gI_any (kn_rat S [.int p, .int q])).2.2
  simp only [isInt] at h1
  have e : isR (.ins "Ratio" [.int p, .int q]) = true := by simp [isR]
  rw [e] at h2
  unfold f_is_number mDef b_is_number ra
  simp only [mSeq, RS.seq, mIfS, mTest, mSet, mRet, mVar, mC, mNil, mCons, Lk.m1, Lk.m2, mB, mAnd, mOr, mNot, mAndT, mOrT, mNotT, mIf, mAsg, mNext, mCall, R.bind, R.bindS, R.nxt, asB, gSub', mTup, mLst, List.getElem?_cons_succ, List.getElem?_cons_zero, List.getElem?_nil, List.set_cons_succ, List.set_cons_zero, List.map_cons, List.map_nil, List.cons_append, List.nil_append, List.length_cons, List.length_nil, List.replicate, Lk.gIx, Lk.gAdd, Lk.gSub, Lk.gMul, Lk.gDiv, Lk.gMod, gInt, gCmp, gNeg, gAbs, gGcd, gLen, List.length_map, Lk.listOf, stIx, if_true, if_false, Bool.false_eq_true, reduceIte, Nat.reduceAdd, Nat.reduceSub, Nat.zero_add, eqz_int, pow1010, pow1018, pow1019, Int.reduceMul, Int.reduceAdd, ix40, ix41, ix42, ix43, at40, at41, at42, at43, and_true, true_and, and_self, ne_eq, not_false_eq_true, decide_true, decide_false, decide_eq_true_eq, Bool.and_true, Bool.true_and, mFor, iSeq, srcOf, vals, forGo_n, forGo_c, gSet, mRaise1, mSetF, setF, lim_le, Nat.reduceLeDiff, Bool.not_false, Bool.not_true, Nat.lt_irrefl, List.length_append, List.append_assoc, h1, h2]
  exact gc_self
theorem oe_r : oe "Ratio" = some f_Ratio___eq__ := if_pos rfl
theorem gz {S : Store} {p q : Int} {y : D} {b : Bool} (h : Kn S y) (e : f_Ratio___eq__ [ra p q, y] S = .ok (.bl b) S) : gEqZ cs oe (ra p q) y S = .ok (.bl b) S := by
  obtain ⟨t, h1, h2⟩ := h
  have e2 : gEqX cs oe (ra p q) y S = .ok (.bl b) S := by
    show (match oe "Ratio", tyK S y with
      | some m, some t => if okK cs t = true then (match m [ra p q, y] S with
        | R.ok (D.bl b) S' => R.ok (D.bl b) S'
        | _ => R.bad) else R.bad
      | _, _ => R.bad) = _
    rw [oe_r, h1]
    dsimp only
    rw [if_pos h2, e]
  exact e2
theorem eq_data {S : Store} {x y : D} {b : Bool} (hx : ∀ C ds, x ≠ .ins C ds) (h : eqData S x y = some b) (hn : ∀ n kvs, x = .ref n → S[n]? ≠ some (.dk kvs)) : gEqZ cs oe x y S = .ok (.bl b) S := by
  have e : gEqX cs oe x y S = .ok (.bl b) S := by
    unfold gEqX
    split
    · rename_i C xs
      exact absurd rfl (hx C xs)
    · rw [h]
  unfold gEqZ
  split
  · rename_i n m
    split
    · rename_i kvs hk
      exact absurd hk (hn _ _ rfl)
    · exact e
  · exact e
def net (b e : Int) (ds : List D) : D := .ins "Net" [.int b, .int e, .tup ds]
theorem fn_e : flds "Net" = ([Str.ofString "beat", Str.ofString "events", Str.ofString "spans"] : List Str) := by decide
theorem fn_beat {S : Store} {b e : Int} {ds : List D} : fieldOf flds S "beat" (net b e ds) = some (.int b) := by
  show ((flds "Net").zip [D.int b, .int e, .tup ds]).lookup (Str.ofString "beat") = _
  rw [fn_e]
  simp [List.lookup]
theorem fn_ev {S : Store} {b e : Int} {ds : List D} : fieldOf flds S "events" (net b e ds) = some (.int e) := by
  have n : ((Str.ofString "events") == (Str.ofString "beat")) = false := by decide
  show ((flds "Net").zip [D.int b, .int e, .tup ds]).lookup (Str.ofString "events") = _
  rw [fn_e]
  simp [List.lookup, n]
theorem fn_sp {S : Store} {b e : Int} {ds : List D} : fieldOf flds S "spans" (net b e ds) = some (.tup ds) := by
  have n : ((Str.ofString "spans") == (Str.ofString "beat")) = false := by decide
  have n2 : ((Str.ofString "spans") == (Str.ofString "events")) = false := by decide
  show ((flds "Net").zip [D.int b, .int e, .tup ds]).lookup (Str.ofString "spans") = _
  rw [fn_e]
  simp [List.lookup, n, n2]
/-- rows are equal as data just if they are equal -/
theorem eqv_v4 {x y : D} (hx : V4 x) (hy : V4 y) : PyData.eqv (pv x) (pv y) = true ↔ x = y := by
  obtain ⟨i, j, lo, hi, rfl⟩ := hx
  obtain ⟨i', j', lo', hi', rfl⟩ := hy
  simp [pv, PyData.eqv, PyData.eqvAll]
theorem inB_iff {d : D} {ds : List D} (hd : V4 d) (hs : ∀ x ∈ ds, V4 x) : inB d ds = true ↔ d ∈ ds := by
  unfold inB
  rw [List.any_map, List.any_eq_true]
  constructor
  · rintro ⟨x, hx, e⟩
    rw [← (eqv_v4 (hs x hx) hd).mp e]
    exact hx
  · exact fun h => ⟨d, h, (eqv_v4 hd hd).mpr rfl⟩
theorem fault_none {b e : Int} : ∀ (ds pre : List D) (k : Nat), (∀ x ∈ pre, V4 x) → (fault b e pre k ds = none ↔ (∀ x ∈ ds, spanB b e x = true) ∧ ds.Nodup ∧ ∀ x ∈ ds, x ∉ pre)
  | [], pre, k, hp => by simp [fault]
  | d :: ds, pre, k, hp => by
    unfold fault
    by_cases h : spanB b e d = true ∧ inB d pre = false
    · rw [if_pos h]
      have hv := spanB_v4 h.1
      have hd : d ∉ pre := fun z => by
        rw [(inB_iff hv hp).mpr z] at h
        cases h.2
      rw [fault_none ds (pre ++ [d]) (k + 1) fun x hx => by
        rcases List.mem_append.mp hx with z | z
        · exact hp x z
        · rw [List.mem_singleton.mp z]; exact hv]
      constructor
      · rintro ⟨h1, h2, h3⟩
        refine ⟨?_, List.nodup_cons.mpr ⟨fun z => h3 d z (by simp), h2⟩, ?_⟩
        · intro x hx
          rcases List.mem_cons.mp hx with z | z
          · rw [z]; exact h.1
          · exact h1 x z
        · intro x hx
          rcases List.mem_cons.mp hx with z | z
          · rw [z]; exact hd
          · exact fun q => h3 x z (List.mem_append_left _ q)
      · rintro ⟨h1, h2, h3⟩
        obtain ⟨n1, n2⟩ := List.nodup_cons.mp h2
        refine ⟨fun x hx => h1 x (List.mem_cons_of_mem _ hx), n2, fun x hx q => ?_⟩
        rcases List.mem_append.mp q with z | z
        · exact h3 x (List.mem_cons_of_mem _ hx) z
        · rw [List.mem_singleton.mp z] at hx
          exact n1 hx
    · rw [if_neg h]
      constructor
      · intro z; cases z
      · rintro ⟨h1, h2, h3⟩
        exfalso
        have sp := h1 d List.mem_cons_self
        refine h ⟨sp, eq_false_of_ne_true fun q => ?_⟩
        exact h3 d List.mem_cons_self ((inB_iff (spanB_v4 sp) hp).mp q)
/-- what stands from L on stays -/
def Same (L : Nat) (S S' : Store) : Prop := S.length ≤ S'.length ∧ ∀ m, L ≤ m → m < S.length → S'[m]? = S[m]?
theorem Same.refl (L : Nat) (S : Store) : Same L S S := ⟨Nat.le_refl _, fun _ _ _ => rfl⟩
theorem Same.trans {L : Nat} {S S' S'' : Store} (h : Same L S S') (h' : Same L S' S'') : Same L S S'' :=
  ⟨Nat.le_trans h.1 h'.1, fun m h1 h2 => by rw [h'.2 m h1 (Nat.lt_of_lt_of_le h2 h.1), h.2 m h1 h2]⟩
theorem Same.app (L : Nat) (S T : Store) : Same L S (S ++ T) := ⟨by simp, fun m _ hm => by rw [List.getElem?_append_left hm]⟩
theorem Same.set {L : Nat} {S : Store} {p : Nat} {o : Ob} (h : p < L) : Same L S (S.set p o) := ⟨by simp, fun m hm _ => by rw [List.getElem?_set_ne (by omega)]⟩
/-- a fresh source is changed -/
theorem Same.ag {L n : Nat} {S0 S S' : Store} (h : Same L S0 S) (a : Ag S n S') (hn : S0.length ≤ n ∨ n < L) : Same L S0 S' :=
  ⟨Nat.le_trans h.1 a.1, fun m h1 h2 => by
    rw [a.2 m (Nat.lt_of_lt_of_le h2 h.1) (by omega), h.2 m h1 h2]⟩
theorem Src.lt {n : Nat} {k : Int} {S : Store} (h : Src S n k) : n < S.length := by
  obtain ⟨a, b, c, d, h, r⟩ := h
  exact getlt h
theorem Src.ag {n s : Nat} {k : Int} {S S' : Store} (h : Src S s k) (a : Ag S n S') (hn : s ≠ n) : Src S' s k := by
  have hl := h.lt
  obtain ⟨a1, b, c, d, h, r⟩ := h
  exact ⟨a1, b, c, d, by unfold Src4 at h ⊢; rw [a.2 s hl hn]; exact h, r⟩
theorem Src.app {s : Nat} {k : Int} {S T : Store} (h : Src S s k) : Src (S ++ T) s k := h.ag (.app S S.length T) (Nat.ne_of_lt h.lt)
def com (i j : Int) : Int := if 0 < j then ((Nat.gcd i.natAbs j.natAbs : Nat) : Int) else -((Nat.gcd i.natAbs j.natAbs : Nat) : Int)
def rat (i j : Int) : D := .ins "Ratio" [.int (fdv i (com i j)), .int (fdv j (com i j))]
theorem com_ne {i j : Int} (h : j ≠ 0) : com i j ≠ 0 := by
  have : 0 < Nat.gcd i.natAbs j.natAbs := Nat.gcd_pos_of_pos_right _ (by omega)
  unfold com
  split <;> omega
theorem com_le {i j : Int} (h : j ≠ 0) : (com i j).natAbs ≤ j.natAbs := by
  have : Nat.gcd i.natAbs j.natAbs ≤ j.natAbs := Nat.le_of_dvd (by omega) (Nat.gcd_dvd_right _ _)
  unfold com
  split <;> omega
theorem mk_ok {S : Store} {i j : Int} (hj : j ≠ 0) (hb : j.natAbs < 2 ^ 1000) : mkOf "Ratio" f_Ratio___init__ [.int i, .int j] S = .ok (rat i j) S := by
  have h1 := isint (kn_int (S ++ [Ob.obj "Ratio" []]) j)
  have h2 := isint (kn_int (S ++ [Ob.obj "Ratio" []]) i)
  simp only [isInt] at h2 h1
  have k1 := com_ne (i := i) hj
  have k2 : bits (com i j) < 9000 := by
    have := bits_lt (i := com i j) 1000 (Nat.lt_of_le_of_lt (com_le hj) hb) (by decide)
    omega
  have hg : ∀ x, (S ++ [x])[S.length]? = some x := fun x => by simp
  have hs : ∀ x y : Ob, (S ++ [x]).set S.length y = S ++ [y] := fun x y => by simp
  have f0 : (flds "Ratio")[0]? = some (Str.ofString "top") := by decide
  have f1 : (flds "Ratio")[1]? = some (Str.ofString "bottom") := by decide
  have f2 : (flds "Ratio").take 0 = [] := rfl
  have f3 : (flds "Ratio").take 1 = [Str.ofString "top"] := by decide
  have q0 : (0 : Nat) < 900 := by decide
  have q1 : (1 : Nat) < 900 := by decide
  have n1 : ("bottom" : Str) ∉ (["top"] : List Str) := by decide
  have n2 : ("top" : Str) ∉ ([] : List Str) := by decide
  have ei : f_Ratio___init__ [.ref S.length, .int i, .int j] (S ++ [Ob.obj "Ratio" []]) = .ok .non (S ++ [Ob.obj "Ratio" [.int (fdv i (com i j)), .int (fdv j (com i j))]]) := by
    unfold f_Ratio___init__ mDef b_Ratio___init__
    by_cases hp : 0 < j
    · have hc : com i j = ((Nat.gcd i.natAbs j.natAbs : Nat) : Int) := if_pos hp
      rw [hc] at k1 k2 ⊢
      simp only [mSeq, RS.seq, mIfS, mTest, mSet, mRet, mVar, mC, mNil, mCons, Lk.m1, Lk.m2, mB, mAnd, mOr, mNot, mAndT, mOrT, mNotT, mIf, mAsg, mNext, mCall, R.bind, R.bindS, R.nxt, asB, gSub', mTup, mLst, List.getElem?_cons_succ, List.getElem?_cons_zero, List.getElem?_nil, List.set_cons_succ, List.set_cons_zero, List.map_cons, List.map_nil, List.cons_append, List.nil_append, List.length_cons, List.length_nil, List.replicate, Lk.gIx, Lk.gAdd, Lk.gSub, Lk.gMul, Lk.gDiv, Lk.gMod, gInt, gCmp, gNeg, gAbs, gGcd, gLen, List.length_map, Lk.listOf, stIx, if_true, if_false, Bool.false_eq_true, reduceIte, Nat.reduceAdd, Nat.reduceSub, Nat.zero_add, eqz_int, pow1010, pow1018, pow1019, Int.reduceMul, Int.reduceAdd, ix40, ix41, ix42, ix43, at40, at41, at42, at43, and_true, true_and, and_self, ne_eq, not_false_eq_true, decide_true, decide_false, decide_eq_true_eq, Bool.and_true, Bool.true_and, mFor, iSeq, srcOf, vals, forGo_n, forGo_c, gSet, mRaise1, mSetF, setF, lim_le, Nat.reduceLeDiff, Bool.not_false, Bool.not_true, Nat.lt_irrefl, List.length_append, List.append_assoc, h1, h2, hp, hj, k1, k2, hg, hs, f0, f1, f2, f3, n1, n2, q0, q1]
      refine gc_len ?_
      simp
    · have hc : com i j = -((Nat.gcd i.natAbs j.natAbs : Nat) : Int) := if_neg hp
      rw [hc] at k1 k2 ⊢
      simp only [mSeq, RS.seq, mIfS, mTest, mSet, mRet, mVar, mC, mNil, mCons, Lk.m1, Lk.m2, mB, mAnd, mOr, mNot, mAndT, mOrT, mNotT, mIf, mAsg, mNext, mCall, R.bind, R.bindS, R.nxt, asB, gSub', mTup, mLst, List.getElem?_cons_succ, List.getElem?_cons_zero, List.getElem?_nil, List.set_cons_succ, List.set_cons_zero, List.map_cons, List.map_nil, List.cons_append, List.nil_append, List.length_cons, List.length_nil, List.replicate, Lk.gIx, Lk.gAdd, Lk.gSub, Lk.gMul, Lk.gDiv, Lk.gMod, gInt, gCmp, gNeg, gAbs, gGcd, gLen, List.length_map, Lk.listOf, stIx, if_true, if_false, Bool.false_eq_true, reduceIte, Nat.reduceAdd, Nat.reduceSub, Nat.zero_add, eqz_int, pow1010, pow1018, pow1019, Int.reduceMul, Int.reduceAdd, ix40, ix41, ix42, ix43, at40, at41, at42, at43, and_true, true_and, and_self, ne_eq, not_false_eq_true, decide_true, decide_false, decide_eq_true_eq, Bool.and_true, Bool.true_and, mFor, iSeq, srcOf, vals, forGo_n, forGo_c, gSet, mRaise1, mSetF, setF, lim_le, Nat.reduceLeDiff, Bool.not_false, Bool.not_true, Nat.lt_irrefl, List.length_append, List.append_assoc, h1, h2, hp, hj, k1, k2, hg, hs, f0, f1, f2, f3, n1, n2, q0, q1]
      refine gc_len ?_
      simp
  unfold mkOf
  rw [ei]
  simp only [hg, if_true]
  unfold mkEnd
  rw [if_pos ⟨by simp [clL, D.cl], by simp⟩]
  rfl
/-! sizes -/
def Sz (k : Nat) (i : Int) : Prop := i.natAbs < 2 ^ k
theorem Sz.mono {j k : Nat} {i : Int} (h : Sz j i) (hk : j ≤ k) : Sz k i := Nat.lt_of_lt_of_le h (Nat.pow_le_pow_right (by decide) hk)
theorem Sz.add {k : Nat} {a b : Int} (h1 : Sz k a) (h2 : Sz k b) : Sz (k + 1) (a + b) := by
  unfold Sz at *
  have := Int.natAbs_add_le a b
  rw [Nat.pow_succ]
  omega
theorem Sz.neg {k : Nat} {a : Int} (h1 : Sz k a) : Sz k (-a) := by
  unfold Sz at *
  rw [Int.natAbs_neg]
  exact h1
theorem Sz.sub {k : Nat} {a b : Int} (h1 : Sz k a) (h2 : Sz k b) : Sz (k + 1) (a - b) := by
  rw [Int.sub_eq_add_neg]
  exact h1.add h2.neg
theorem Sz.of {k : Nat} {a : Int} (m : Nat) (h : a.natAbs ≤ m) (hk : m < 2 ^ k := by decide +kernel) : Sz k a := Nat.lt_of_le_of_lt h hk
/-! lowest terms -/
def nT (i j : Int) : Int := fdv i (com i j)
def nB (i j : Int) : Int := fdv j (com i j)
def Low (p q : Int) : Prop := 0 < q ∧ Nat.gcd p.natAbs q.natAbs = 1
theorem Low.ne {p q : Int} (h : Low p q) : q ≠ 0 := by have := h.1; omega
theorem fdv_one {i : Int} : fdv i 1 = i := by
  unfold fdv
  rw [if_pos (by decide)]
  exact Int.ediv_one i
theorem Low.nT {p q : Int} (h : Low p q) : nT p q = p := by
  unfold Mi_k25.nT com
  rw [if_pos h.1, h.2]
  exact fdv_one
theorem Low.nB {p q : Int} (h : Low p q) : nB p q = q := by
  unfold Mi_k25.nB com
  rw [if_pos h.1, h.2]
  exact fdv_one
theorem Low.neg {p q : Int} (h : Low p q) : Low (-p) q := ⟨h.1, by rw [Int.natAbs_neg]; exact h.2⟩
/-! numbers -/
def Nm (d : D) (p q : Int) : Prop := (d = .int p ∧ q = 1) ∨ d = ra p q
theorem Nm.is {S : Store} {d : D} {p q : Int} (h : Nm d p q) : f_is_number [d] S = .ok (.bl true) S := by
  rcases h with ⟨rfl, _⟩ | rfl
  · exact num_int
  · exact num_ra
theorem mk {S : Store} {t b : Int} (hb : b ≠ 0) (hs : Sz 900 b) : mkOf "Ratio" f_Ratio___init__ [.int t, .int b] S = .ok (ra (nT t b) (nB t b)) S := mk_ok hb (hs.mono (by decide))
/-- an operator of a Ratio and a number -/
theorem gb {S : Store} {d x : D} {p q p' q' : Int} {ot rt : OTab} {g : D → D → Store → Lk.R D} {m : List D → Store → Lk.R D} (h : Nm d p' q') (ho : ot "Ratio" = some m) (e : m [ra p q, d] S = .ok x S) : gBinX ot rt g (ra p q) d S = .ok x S := by
  rcases h with ⟨rfl, rfl⟩ | rfl
  · show insR (ot "Ratio") [ra p q, .int p'] S = _
    rw [ho]
    unfold insR
    dsimp only
    rw [e]
  · show (if Str.ofString "Ratio" = Str.ofString "Ratio" then insR (ot "Ratio") [ra p q, ra p' q'] S else .bad) = _
    rw [if_pos rfl, ho]
    unfold insR
    dsimp only
    rw [e]
def OKr (b e : Int) (ds : List D) : Prop := (∀ x ∈ ds, spanB b e x = true) ∧ ds.Nodup ∧ ds.length ≤ 60
theorem OKr.v4 {b e : Int} {ds : List D} (h : OKr b e ds) : ∀ x ∈ ds, V4 x := fun x hx => spanB_v4 (h.1 x hx)
theorem spanB_mono {b e b' e' : Int} {d : D} (h : spanB b e d = true) (hb : b ≤ b') (he : e ≤ e') : spanB b' e' d = true := by
  obtain ⟨i, j, lo, hi, rfl⟩ := spanB_v4 h
  simp only [spanB, decide_eq_true_eq] at h ⊢
  omega
theorem OKr.mono {b e b' e' : Int} {ds : List D} (h : OKr b e ds) (hb : b ≤ b') (he : e ≤ e') : OKr b' e' ds := ⟨fun x hx => spanB_mono (h.1 x hx) hb he, h.2⟩
/-- the number x / M -/
def Vl (M x : Int) (d : D) : Prop := ∃ p q, Nm d p q ∧ Low p q ∧ p * M = x * q
/-- .. an integer where it is whole -/
def PVl (M x : Int) (d : D) : Prop := ∃ p q, Low p q ∧ p * M = x * q ∧ ((d = .int p ∧ q = 1) ∨ (d = ra p q ∧ q ≠ 1))
theorem PVl.vl {M x : Int} {d : D} (h : PVl M x d) : Vl M x d := by
  obtain ⟨p, q, lo, e, h⟩ := h
  exact ⟨p, q, h.imp (fun z => z) (fun z => z.1), lo, e⟩
theorem fmd_p {i j : Int} (h : 0 < j) : fmd i j = i % j := if_pos h
theorem last1 {α : Type} {l : List α} {a : α} : (l ++ [a])[l.length]? = some a := by simp
/-- the length of a span by moments in parts, and where it must end -/
def lnOf (M b : Int) (xs : List Int) : D → Int
  | .tup [.int i, .int j, .int lo, .int _] => (xs.getD j.toNat 0 - xs.getD i.toNat 0 - lo * M) % (b * M) + lo * M
  | _ => 0
def hiOf : D → Int
  | .tup [.int _, .int _, .int _, .int hi] => hi
  | _ => 0
structure Cx (M b : Int) (e : Nat) : Prop where
  hM : 0 < M
  sM : Sz 35 M
  b1 : 3 ≤ b
  b2 : b ≤ 1440
  e1 : 1 ≤ e
  e2 : e ≤ 24
variable {M b : Int} {e : Nat}
theorem Cx.sb (c : Cx M b e) : Sz 12 b := .of 1440 (by have := c.b1; have := c.b2; omega)
theorem atI_nat {l : List D} {i : Int} {d : D} (h0 : 0 ≤ i) (h : l[i.toNat]? = some d) : atI l i = some d := by
  have hl : i.toNat < l.length := by
    rcases Nat.lt_or_ge i.toNat l.length with z | z
    · exact z
    · rw [List.getElem?_eq_none z] at h; cases h
  have h2 : i < (l.length : Nat) := by omega
  unfold atI ixN
  simp [h0, h2]
  rw [List.getElem?_eq_getElem hl] at h
  exact Option.some.inj h
def It (M : Int) (S : Store) (t s : D) : Prop := (∃ x, s = .int x ∧ Sz 60 x ∧ Vl M x t) ∨ (s = .non ∧ Odd S t ∧ ∀ C xs, t ≠ .ins C xs)
def momB (b M : Int) : D → Bool
  | .int x => decide (0 ≤ x ∧ x < b * M)
  | _ => false
def bad (b M : Int) : Nat → List D → Option Nat
  | _, [] => none
  | k, s :: sl => if momB b M s = true then bad b M (k + 1) sl else some k
theorem It.app {S T : Store} {t s : D} (h : It M S t s) : It M (S ++ T) t s := h.imp (fun z => z) fun z => ⟨z.1, z.2.1.app, z.2.2⟩
theorem F2.imp {P Q : D → D → Prop} (h : ∀ d r, P d r → Q d r) : ∀ {ds rs : List D}, F2 P ds rs → F2 Q ds rs
  | [], [], _ => trivial
  | d :: ds, r :: rs, f => ⟨h _ _ f.1, F2.imp h f.2⟩
  | [], _ :: _, f => f.elim
  | _ :: _, [], f => f.elim
theorem bs {i : Int} (h1 : 0 ≤ i) (h2 : i ≤ 100000000000000) : bits i < 9000 := Nat.lt_trans (bits_small (by omega) (by omega)) (by decide)
/-! the order of the events -/
def Perm0 (l : List D) (m : Nat) : Prop := l.Nodup ∧ ∀ d ∈ l, ∃ j : Nat, j < m ∧ d = .int (j : Nat)
/-! one span -/
def Lkd (M b : Int) (e : Nat) (xs : List Int) (d : D) : Prop := spanB b (e : Nat) d = true ∧ lnOf M b xs d ≤ hiOf d * M
/-- the spans made so far -/
structure SI (M b : Int) (e : Nat) (n mo o p s0 : Nat) (ob0 : Ob) (xs : List Int) (od : List D) (k : Int) (m : Nat) (S : Store) : Prop where
  src : Src S n k
  hm : S[mo]? = some (.lst (xs.map D.int))
  ho : S[o]? = some (.lst od)
  h0 : S[s0]? = some ob0
  hp : ∃ l, S[p]? = some (.lst l) ∧ (∀ d ∈ l, Lkd M b e xs d) ∧ l.Nodup ∧ l.length ≤ m
structure SP (e : Nat) (n mo o p s0 : Nat) (xs : List Int) (od : List D) : Prop where
  d1 : mo ≠ n
  d2 : o ≠ n
  d3 : p ≠ n
  d4 : p ≠ mo
  d5 : p ≠ o
  d6 : s0 ≠ n
  d7 : p ≠ s0
  hx : xs.length = e
  po : Perm0 od e
  lo : od.length = e
theorem SI.ch {n mo o p s0 : Nat} {ob0 : Ob} {xs : List Int} {od : List D} {k k' : Int} {m m' : Nat} {S S' : Store} (q : SP e n mo o p s0 xs od) (h : SI M b e n mo o p s0 ob0 xs od k m S) (u : Ch S n S') (s : Src S' n k') (hm : m ≤ m') : SI M b e n mo o p s0 ob0 xs od k' m' S' := by
  obtain ⟨x, rfl⟩ := u
  obtain ⟨l, l1, l2, l3, l4⟩ := h.hp
  exact ⟨s, by rw [List.getElem?_set_ne (Ne.symm q.d1)]; exact h.hm, by rw [List.getElem?_set_ne (Ne.symm q.d2)]; exact h.ho, by rw [List.getElem?_set_ne (Ne.symm q.d6)]; exact h.h0, l, by rw [List.getElem?_set_ne (Ne.symm q.d3)]; exact l1, l2, l3, by omega⟩
theorem SI.app {n mo o p s0 : Nat} {ob0 : Ob} {xs : List Int} {od : List D} {k : Int} {m : Nat} {S T : Store} (h : SI M b e n mo o p s0 ob0 xs od k m S) : SI M b e n mo o p s0 ob0 xs od k m (S ++ T) := by
  obtain ⟨l, l1, l2, l3, l4⟩ := h.hp
  exact ⟨h.src.app, by rw [List.getElem?_append_left (getlt h.hm)]; exact h.hm, by rw [List.getElem?_append_left (getlt h.ho)]; exact h.ho, by rw [List.getElem?_append_left (getlt h.h0)]; exact h.h0, l, by rw [List.getElem?_append_left (getlt l1)]; exact l1, l2, l3, l4⟩
theorem SI.mono {n mo o p s0 : Nat} {ob0 : Ob} {xs : List Int} {od : List D} {k k' : Int} {m m' : Nat} {S : Store} (h : SI M b e n mo o p s0 ob0 xs od k m S) (hk : k ≤ k') (hm : m ≤ m') : SI M b e n mo o p s0 ob0 xs od k' m' S := by
  obtain ⟨l, l1, l2, l3, l4⟩ := h.hp
  exact ⟨h.src.mono hk, h.hm, h.ho, h.h0, l, l1, l2, l3, by omega⟩
def VT (M : Int) (t s : D) : Prop := ∃ x, s = .int x ∧ Sz 60 x ∧ Vl M x t
/-- what a loop that changes the list at sc keeps -/
structure IB (e : Nat) (n mo sc : Nat) (xs : List Int) (S0 : Store) (k : Int) (S : Store) : Prop where
  src : Src S n k
  hm : S[mo]? = some (.lst (xs.map D.int))
  hs : ∃ ys : List Int, S[sc]? = some (.lst (ys.map D.int)) ∧ ys.length = e ∧ ∀ y ∈ ys, Sz 60 y
  kp : ∀ m, m < S0.length → m ≠ n → m ≠ sc → S[m]? = S0[m]?
  ln : S0.length ≤ S.length
theorem IB.mono {n mo sc : Nat} {xs : List Int} {S0 S : Store} {k k' : Int} (h : IB e n mo sc xs S0 k S) (hk : k ≤ k') : IB e n mo sc xs S0 k' S := ⟨h.src.mono hk, h.hm, h.hs, h.kp, h.ln⟩
theorem ixN_lt {l : Nat} {j : Int} (h1 : 0 ≤ j) (h2 : j < (l : Nat)) : ixN l j = some j.toNat := by
  unfold ixN
  simp [h1, h2]
theorem F2.set {P : D → D → Prop} {t s : D} (h : P t s) : ∀ {ds rs : List D} {i : Nat}, F2 P ds rs → F2 P (ds.set i t) (rs.set i s)
  | [], [], _, f => f
  | d :: ds, r :: rs, 0, f => ⟨h, f.2⟩
  | d :: ds, r :: rs, i + 1, f => ⟨f.1, F2.set h f.2⟩
  | [], _ :: _, _, f => f.elim
  | _ :: _, [], _, f => f.elim
theorem It.ag {S S' : Store} {t s : D} (h : It M S t s) (k : ∀ m o, S[m]? = some o → t = .ref m → S'[m]? = some o) : It M S' t s := h.imp (fun z => z) fun z => ⟨z.1, z.2.1.imp k, z.2.2⟩
theorem VT.it {S : Store} {t s : D} (h : VT M t s) : It M S t s := .inl h
theorem V4.sv {S : Store} {d : D} (h : V4 d) : SV S d := by
  obtain ⟨i, j, lo, hi, rfl⟩ := h
  refine .tup (by simp) fun x hx => ?_
  simp only [List.mem_cons, List.not_mem_nil, or_false] at hx
  rcases hx with rfl | rfl | rfl | rfl <;> exact .inl ⟨_, rfl⟩
/-! heads of pieces; the tree -/
def eI : D → Int
  | .tup [.int i, _, _, _] => i
  | _ => 0
def eJ : D → Int
  | .tup [_, .int j, _, _] => j
  | _ => 0
def hdAt (hs : List Int) (i : Int) : Int := hs.getD i.toNat 0
def jn (hs : List Int) (a c : Int) : List Int := hs.map fun h => if h = a ∨ h = c then (if c < a then c else a) else h
def mkF : Nat → List D → List Int → List Nat → List Int × List Nat
  | _, [], hs, ks => (hs, ks)
  | k, d :: ds, hs, ks => if hdAt hs (eI d) = hdAt hs (eJ d) then mkF (k + 1) ds hs ks else mkF (k + 1) ds (jn hs (hdAt hs (eI d)) (hdAt hs (eJ d))) (ks ++ [k])
theorem mkF_nil {k : Nat} {hs : List Int} {ks : List Nat} : mkF k [] hs ks = (hs, ks) := by rw [mkF]
theorem mkF_cons {k : Nat} {d : D} {ds : List D} {hs : List Int} {ks : List Nat} : mkF k (d :: ds) hs ks = if hdAt hs (eI d) = hdAt hs (eJ d) then mkF (k + 1) ds hs ks else mkF (k + 1) ds (jn hs (hdAt hs (eI d)) (hdAt hs (eJ d))) (ks ++ [k]) := by rw [mkF]
def rng0 (e : Nat) : List Int := (List.range e).map fun i => ((i : Nat) : Int)
def hds (e : Nat) (l : List D) : List Int := (mkF 0 l (rng0 e) []).1
def kpt (e : Nat) (l : List D) : List Nat := (mkF 0 l (rng0 e) []).2
theorem jn_len {hs : List Int} {a c : Int} : (jn hs a c).length = hs.length := by simp [jn]
theorem sp4 {b e : Int} {d : D} (h : spanB b e d = true) : ∃ i j lo hi, d = .tup [.int i, .int j, .int lo, .int hi] ∧ 0 ≤ i ∧ i < e ∧ 0 ≤ j ∧ j < e ∧ i ≠ j ∧ 0 ≤ lo ∧ lo ≤ hi ∧ hi ≤ 2880 ∧ hi - lo ≤ b - 2 := by
  obtain ⟨i, j, lo, hi, rfl⟩ := spanB_v4 h
  exact ⟨i, j, lo, hi, rfl, by simpa [spanB] using h⟩
theorem rng0_len {e : Nat} : (rng0 e).length = e := by simp [rng0]
section
variable {b : Int} {e : Nat}
end
/-! ways along the tree -/
abbrev Stp := Nat × Bool
def sb_ (l : List D) (s : Stp) : Int := if s.2 = true then eI (l.getD s.1 .non) else eJ (l.getD s.1 .non)
def se_ (l : List D) (s : Stp) : Int := if s.2 = true then eJ (l.getD s.1 .non) else eI (l.getD s.1 .non)
def stD (s : Stp) : D := .tup [.int (s.1 : Nat), .bl s.2]
def wayD (w : List Stp) : D := .tup (w.map stD)
def stL (ks : List Nat) : List Stp := ks.flatMap fun k => [(k, true), (k, false)]
def Chn (l : List D) : Int → List Stp → Int → Prop
  | s, [], t => s = t
  | s, x :: xs, t => sb_ l x = s ∧ Chn l (se_ l x) xs t
theorem Chn.snoc {l : List D} {x : Stp} : ∀ {xs : List Stp} {s t : Int}, Chn l s xs t → sb_ l x = t → Chn l s (xs ++ [x]) (se_ l x)
  | [], s, t, h, hx => by
    have h : s = t := h
    exact ⟨hx.trans h.symm, rfl⟩
  | y :: xs, s, t, h, hx => ⟨h.1, Chn.snoc h.2 hx⟩
abbrev Fd := List (Int × List Stp)
def kvF (fd : Fd) : List (Key × D) := fd.map fun p => (Sum.inl p.1, wayD p.2)
def keys (fd : Fd) : List Int := fd.map fun p => p.1
def fdL (fd : Fd) (x : Int) : Option (List Stp) := (fd.find? fun p => decide (p.1 = x)).map fun p => p.2
theorem fdL_some {fd : Fd} {x : Int} {w : List Stp} (h : fdL fd x = some w) : (x, w) ∈ fd := by
  unfold fdL at h
  cases q : fd.find? (fun p => decide (p.1 = x)) with
  | none => rw [q] at h; cases h
  | some p =>
    rw [q] at h
    have h1 := List.find?_some q
    have h2 := List.mem_of_find?_eq_some q
    have e1 : p.1 = x := by simpa using h1
    have e2 : p.2 = w := by simpa using h
    rw [← e1, ← e2]
    exact h2
theorem fdL_none {fd : Fd} {x : Int} : fdL fd x = none ↔ x ∉ keys fd := by
  unfold fdL keys
  rw [Option.map_eq_none_iff, List.find?_eq_none]
  constructor
  · intro h hx
    obtain ⟨p, hp, e⟩ := List.mem_map.mp hx
    exact h p hp (by simp [e])
  · intro h p hp z
    exact h (List.mem_map.mpr ⟨p, hp, by simpa using z⟩)
theorem fdL_is {fd : Fd} {x : Int} (h : x ∈ keys fd) : ∃ w, fdL fd x = some w := by
  cases q : fdL fd x with
  | none => exact absurd h (fdL_none.mp q)
  | some w => exact ⟨w, rfl⟩
theorem nd_len : ∀ (e : Nat) (xs : List Int), xs.Nodup → (∀ x ∈ xs, 0 ≤ x ∧ x < (e : Int)) → xs.length ≤ e
  | 0, xs, _, h => by
    cases xs with
    | nil => simp
    | cons x xs => have := h x List.mem_cons_self; omega
  | e + 1, xs, nd, h => by
    have ih := nd_len e (xs.erase (e : Int)) (nd.erase _) fun x hx => by
      have h1 := (nd.mem_erase_iff).mp hx
      have := h x h1.2
      have := h1.1
      omega
    by_cases c : (e : Int) ∈ xs
    · rw [List.length_erase_of_mem c] at ih
      omega
    · rw [List.erase_of_not_mem c] at ih
      omega
structure TW (l : List D) (ks : List Nat) (s : Int) (e : Nat) (fd : Fd) : Prop where
  st : s ∈ keys fd
  nd : (keys fd).Nodup
  rg : ∀ x ∈ keys fd, 0 ≤ x ∧ x < (e : Int)
  ch : ∀ p ∈ fd, Chn l s p.2 p.1
  ks : ∀ p ∈ fd, ∀ x ∈ p.2, x.1 ∈ ks
  ix : ∀ p ∈ fd, (p.2.map fun x => x.1).Nodup
  en : ∀ p ∈ fd, ∀ x ∈ p.2, sb_ l x ∈ keys fd ∧ se_ l x ∈ keys fd
theorem keys_app {fd : Fd} {x : Int} {w : List Stp} : keys (fd ++ [(x, w)]) = keys fd ++ [x] := by simp [keys]
theorem TW.len {l : List D} {ks : List Nat} {s : Int} {e : Nat} {fd : Fd} (h : TW l ks s e fd) : fd.length ≤ e := by
  have := nd_len e (keys fd) h.nd h.rg
  simpa [keys] using this
theorem TW.one {l : List D} {ks : List Nat} {s : Int} {e : Nat} (h : 0 ≤ s ∧ s < (e : Int)) : TW l ks s e [(s, [])] := by
  refine ⟨by simp [keys], by simp [keys], ?_, ?_, ?_, ?_, ?_⟩
  · intro x hx; simp [keys] at hx; rw [hx]; exact h
  · intro p hp; rw [List.mem_singleton.mp hp]; exact rfl
  · intro p hp; rw [List.mem_singleton.mp hp]; simp
  · intro p hp; rw [List.mem_singleton.mp hp]; simp
  · intro p hp; rw [List.mem_singleton.mp hp]; simp
def Clo (l : List D) (ks : List Nat) (fd : Fd) (x : Int) : Prop := ∀ st ∈ stL ks, sb_ l st = x → se_ l st ∈ keys fd
theorem Clo.mono {l : List D} {ks : List Nat} {fd : Fd} {x y : Int} {w : List Stp} (h : Clo l ks fd x) : Clo l ks (fd ++ [(y, w)]) x := fun st hs e => by
  rw [keys_app]
  exact List.mem_append_left _ (h st hs e)
theorem stL_mem {ks : List Nat} {s : Stp} : s ∈ stL ks ↔ s.1 ∈ ks := by
  unfold stL
  rw [List.mem_flatMap]
  obtain ⟨k, f⟩ := s
  constructor
  · rintro ⟨a, ha, h⟩
    rcases List.mem_cons.mp h with z | z
    · cases z; exact ha
    · rw [List.mem_singleton] at z
      cases z
      exact ha
  · intro h
    exact ⟨k, h, by cases f <;> simp⟩
/-! pieces: equal heads, joined by spans of the tree -/
theorem jn_at {hs : List Int} {a c x : Int} (h0 : 0 ≤ x) (h1 : x < (hs.length : Nat)) : hdAt (jn hs a c) x = if hdAt hs x = a ∨ hdAt hs x = c then (if c < a then c else a) else hdAt hs x := by
  unfold hdAt jn
  rw [List.getD_eq_getElem?_getD, List.getElem?_map, List.getD_eq_getElem?_getD, List.getElem?_eq_getElem (by omega)]
  rfl
theorem rng0_at {e : Nat} {x : Int} (h0 : 0 ≤ x) (h1 : x < (e : Nat)) : hdAt (rng0 e) x = x := by
  unfold hdAt rng0
  rw [List.getD_eq_getElem?_getD, List.getElem?_map, List.getElem?_range (by omega)]
  simp
  omega
/-- what joins: closed under the tree's spans, heads alike -/
def Jo (e : Nat) (l : List D) (hs : List Int) (ks : List Nat) : Prop := ∀ C : Int → Prop, (∀ k ∈ ks, (C (eI (l.getD k .non)) ↔ C (eJ (l.getD k .non)))) → ∀ x y : Int, 0 ≤ x → x < (e : Nat) → 0 ≤ y → y < (e : Nat) → hdAt hs x = hdAt hs y → (C x ↔ C y)
def Sm (l : List D) (hs : List Int) (ks : List Nat) : Prop := ∀ k ∈ ks, hdAt hs (eI (l.getD k .non)) = hdAt hs (eJ (l.getD k .non))
theorem mkF_jo {b : Int} {e : Nat} {l : List D} (hd : ∀ d ∈ l, spanB b (e : Nat) d = true) : ∀ (ds pre : List D) (hs : List Int) (ks : List Nat), pre ++ ds = l → hs.length = e → (∀ k ∈ ks, k < pre.length) → Jo e l hs ks → Sm l hs ks → Jo e l (mkF pre.length ds hs ks).1 (mkF pre.length ds hs ks).2 ∧ Sm l (mkF pre.length ds hs ks).1 (mkF pre.length ds hs ks).2 ∧ ∀ k ∈ (mkF pre.length ds hs ks).2, k < l.length
  | [], pre, hs, ks, hl, he, hk, h1, h2 => by
    rw [mkF_nil]
    refine ⟨h1, h2, fun k z => ?_⟩
    have := hk k z
    rw [← hl]
    simpa using this
  | d :: ds, pre, hs, ks, hl, he, hk, h1, h2 => by
    have hl2 : (pre ++ [d]) ++ ds = l := by rw [← hl]; simp
    have len2 : (pre ++ [d]).length = pre.length + 1 := by simp
    have hdm : d ∈ l := by rw [← hl]; simp
    have gd : l.getD pre.length .non = d := by rw [← hl]; simp
    obtain ⟨i, j, lo, hi, ed, i0, i1, j0, j1, ij, _⟩ := sp4 (hd d hdm)
    have ei : eI d = i := by rw [ed]; rfl
    have ej : eJ d = j := by rw [ed]; rfl
    have key := mkF_jo hd ds (pre ++ [d])
    rw [len2] at key
    rw [mkF_cons, ei, ej]
    by_cases c : hdAt hs i = hdAt hs j
    · rw [if_pos c]
      exact key hs ks hl2 he (fun k z => by have := hk k z; omega) h1 h2
    · rw [if_neg c]
      refine key _ _ hl2 (by rw [jn_len]; exact he) (fun k z => ?_) ?_ ?_
      · rcases List.mem_append.mp z with z | z
        · have := hk k z; omega
        · rw [List.mem_singleton.mp z]; omega
      · intro C hC x y x0 x1 y0 y1 exy
        have hC1 : ∀ k ∈ ks, (C (eI (l.getD k .non)) ↔ C (eJ (l.getD k .non))) := fun k z => hC k (List.mem_append_left _ z)
        have hij : C i ↔ C j := by
          have := hC pre.length (by simp)
          rw [gd, ei, ej] at this
          exact this
        have cl : ∀ z : Int, 0 ≤ z → z < (e : Nat) → (hdAt hs z = hdAt hs i ∨ hdAt hs z = hdAt hs j) → (C z ↔ C i) := fun z z0 z1 hz => by
          rcases hz with hz | hz
          · exact h1 C hC1 z i z0 z1 i0 i1 hz
          · exact (h1 C hC1 z j z0 z1 j0 j1 hz).trans hij.symm
        rw [jn_at x0 (by omega), jn_at y0 (by omega)] at exy
        by_cases cx : hdAt hs x = hdAt hs i ∨ hdAt hs x = hdAt hs j
        · by_cases cy : hdAt hs y = hdAt hs i ∨ hdAt hs y = hdAt hs j
          · exact (cl x x0 x1 cx).trans (cl y y0 y1 cy).symm
          · rw [if_pos cx, if_neg cy] at exy
            exfalso
            apply cy
            rw [← exy]
            split <;> simp
        · by_cases cy : hdAt hs y = hdAt hs i ∨ hdAt hs y = hdAt hs j
          · rw [if_neg cx, if_pos cy] at exy
            exfalso
            apply cx
            rw [exy]
            split <;> simp
          · rw [if_neg cx, if_neg cy] at exy
            exact h1 C hC1 x y x0 x1 y0 y1 exy
      · intro k z
        have rg : ∀ k, k < l.length → 0 ≤ eI (l.getD k .non) ∧ eI (l.getD k .non) < (hs.length : Nat) ∧ 0 ≤ eJ (l.getD k .non) ∧ eJ (l.getD k .non) < (hs.length : Nat) := fun k hk => by
          have hm : l.getD k .non ∈ l := by
            rw [List.getD_eq_getElem?_getD, List.getElem?_eq_getElem hk]
            exact List.getElem_mem hk
          obtain ⟨i, j, lo, hi, ed, i0, i1, j0, j1, ij, _⟩ := sp4 (hd _ hm)
          rw [ed, he]
          exact ⟨i0, i1, j0, j1⟩
        have kl : k < l.length := by
          rcases List.mem_append.mp z with z | z
          · have := hk k z
            rw [← hl]; simp; omega
          · rw [List.mem_singleton.mp z, ← hl]; simp
        obtain ⟨r1, r2, r3, r4⟩ := rg k kl
        rw [jn_at r1 r2, jn_at r3 r4]
        rcases List.mem_append.mp z with z | z
        · rw [h2 k z]
        · rw [List.mem_singleton.mp z, gd, ei, ej, if_pos (show hdAt hs i = hdAt hs i ∨ hdAt hs i = hdAt hs j from .inl rfl), if_pos (show hdAt hs j = hdAt hs i ∨ hdAt hs j = hdAt hs j from .inr rfl)]
theorem tree_jo {b : Int} {e : Nat} {l : List D} (hd : ∀ d ∈ l, spanB b (e : Nat) d = true) : Jo e l (hds e l) (kpt e l) ∧ Sm l (hds e l) (kpt e l) ∧ ∀ k ∈ kpt e l, k < l.length := by
  have := mkF_jo hd l [] (rng0 e) [] rfl rng0_len (fun k z => by cases z) (fun C hC x y x0 x1 y0 y1 h => by
    rw [rng0_at x0 x1, rng0_at y0 y1] at h
    rw [h]) (fun k z => by cases z)
  exact this
/-- the state within: what is found, what is fresh -/
structure TI (l : List D) (ks : List Nat) (s : Int) (e : Nat) (S0 : Store) (ps pd pf : Nat) (fd : Fd) (fr : List Int) (S' : Store) : Prop where
  od : Od S0 S'
  hs : S'[ps]? = some (.lst ((stL ks).map stD))
  hd : S'[pd]? = some (.dk (kvF fd))
  hf : S'[pf]? = some (.lst (fr.map D.int))
  tw : TW l ks s e fd
  fk : ∀ x ∈ fr, x ∈ keys fd
def evB (e : Nat) : D → Bool
  | .int i => decide (0 ≤ i ∧ i < (e : Nat))
  | _ => false
theorem evB_int {d : D} (h : evB e d = true) : ∃ i : Int, d = .int i ∧ 0 ≤ i ∧ i < (e : Nat) := by
  cases d with
  | int i => exact ⟨i, rfl, by simpa [evB] using h⟩
  | _ => cases h
theorem evB_no {d : D} (h : isInt d = false) : evB e d = false := by
  cases d with
  | int i => cases h
  | _ => rfl
theorem below_any {S : Store} {l : Int} {d : D} (h : Kn S d) (hi : isInt d = false) : f_is_below [.int l, d] S = .ok (.bl false) S := by
  have h1 := isint h
  refine Wr.eq (w_def ?_)
  unfold b_is_below
  push_cast [h1, hi]
  exact w_gc_take (by simp [D.cl]) Od.refl.take ⟨rfl, rfl⟩
/-! the law's own look at a tree way -/
theorem Pt.imp {S S' : Store} {d : D} (h : Pt S d) (k : ∀ m o, S[m]? = some o → d = .ref m → S'[m]? = some o) : Pt S' d := Or.imp (fun z => z) (fun z => Odd.imp z k) h
theorem Ag.get {S S' : Store} {n m : Nat} {o : Ob} (u : Ag S n S') (h : S[m]? = some o) (hm : m ≠ n) : S'[m]? = some o := by
  rw [u.2 m (getlt h) hm]
  exact h
theorem Odd.cut {S S' : Store} {d : D} (h : Odd S' d) (c : d.cl S.length = true) (t : S'.take S.length = S) : Odd S d := h.imp fun m o hm e => by
  subst e
  have hl : m < S.length := by simpa [D.cl] using c
  rw [← t, List.getElem?_take_of_lt hl]
  exact hm
theorem Src.ch {S S' : Store} {n : Nat} {k : Int} (h : Src S' n k) : n < S'.length := h.lt
variable {e : Nat}
/-! the pieces: the events by their heads, in the order of the first ones -/
def evs (hs : List Int) (h : Int) (k : Nat) : List Int := (rng0 k).filter fun j => decide (hdAt hs j = h)
def firsts (hs : List Int) (k : Nat) : List Int := (rng0 k).filter fun i => decide ((hs.idxOf (hdAt hs i) : Int) = i)
theorem rng0_succ {k : Nat} : rng0 (k + 1) = rng0 k ++ [((k : Nat) : Int)] := by
  unfold rng0
  rw [List.range_succ, List.map_append]
  rfl
theorem evs_succ {hs : List Int} {h : Int} {k : Nat} : evs hs h (k + 1) = evs hs h k ++ (if hdAt hs (k : Nat) = h then [((k : Nat) : Int)] else []) := by
  unfold evs
  rw [rng0_succ, List.filter_append]
  congr 1
  by_cases c : hdAt hs (k : Nat) = h <;> simp [c]
theorem firsts_succ {hs : List Int} {k : Nat} : firsts hs (k + 1) = firsts hs k ++ (if (hs.idxOf (hdAt hs (k : Nat)) : Int) = (k : Nat) then [((k : Nat) : Int)] else []) := by
  unfold firsts
  rw [rng0_succ, List.filter_append]
  congr 1
  by_cases c : hs.idxOf (hdAt hs (k : Nat)) = k
  · simp [c]
  · have : ¬ ((hs.idxOf (hdAt hs (k : Nat)) : Int) = (k : Nat)) := by omega
    simp [c, this]
theorem rng0_mem {k : Nat} {x : Int} : x ∈ rng0 k ↔ 0 ≤ x ∧ x < (k : Nat) := by
  unfold rng0
  simp only [List.mem_map, List.mem_range]
  constructor
  · rintro ⟨i, h, rfl⟩
    omega
  · intro h
    exact ⟨x.toNat, by omega, by omega⟩
theorem hdAt_get {hs : List Int} {k : Nat} (h : k < hs.length) : hs[k]? = some (hdAt hs (k : Nat)) := by
  unfold hdAt
  rw [Int.toNat_natCast, List.getD_eq_getElem?_getD, List.getElem?_eq_getElem h]
  rfl
/-- the first event of a head -/
theorem idx_lt {hs : List Int} {k : Nat} (h : k < hs.length) : hs.idxOf (hdAt hs (k : Nat)) ≤ k ∧ hdAt hs ((hs.idxOf (hdAt hs (k : Nat)) : Nat) : Int) = hdAt hs (k : Nat) := by
  have m : hdAt hs (k : Nat) ∈ hs := List.mem_of_getElem? (hdAt_get h)
  have il := List.idxOf_lt_length_of_mem m
  have g := hdAt_get il
  rw [List.getElem?_eq_getElem il, List.getElem_idxOf il] at g
  refine ⟨?_, (Option.some.inj g).symm⟩
  rcases Nat.lt_or_ge k (hs.idxOf (hdAt hs (k : Nat))) with c | c
  · exfalso
    have := List.not_of_lt_findIdx (p := fun x => x == hdAt hs (k : Nat)) (xs := hs) (i := k) c
    have e2 := hdAt_get h
    rw [List.getElem?_eq_getElem h] at e2
    rw [Option.some.inj e2] at this
    simp at this
  · exact c
/-- the dict of the heads -/
def KV (hs : List Int) (k : Nat) (kvs : List (Key × D)) (S : Store) (lo : Nat) : Prop := ∃ rs : List Nat, rs.length = (firsts hs k).length ∧ rs.Nodup ∧ (∀ r ∈ rs, lo < r) ∧ kvs = ((firsts hs k).zip rs).map (fun x => (.inl (hdAt hs x.1), D.ref x.2)) ∧ ∀ (j : Nat) i r, (firsts hs k)[j]? = some i → rs[j]? = some r → S[r]? = some (.lst ((evs hs (hdAt hs i) k).map D.int))
theorem lk_zip {hs : List Int} {h : Int} : ∀ {fs : List Int} {rs : List Nat} {j : Nat} {i : Int} {r : Nat}, fs[j]? = some i → rs[j]? = some r → hdAt hs i = h → (∀ (j' : Nat) i', j' < j → fs[j']? = some i' → hdAt hs i' ≠ h) → lkD ((fs.zip rs).map (fun x => ((.inl (hdAt hs x.1) : Key), D.ref x.2))) (.inl h) = some (.ref r)
  | [], rs, j, i, r, h1, _, _, _ => by simp at h1
  | f :: fs, [], j, i, r, _, h2, _, _ => by simp at h2
  | f :: fs, q :: rs, 0, i, r, h1, h2, h3, _ => by
    simp at h1 h2
    subst h1 h2
    simp [lkD, h3]
  | f :: fs, q :: rs, j + 1, i, r, h1, h2, h3, h4 => by
    have n : hdAt hs f ≠ h := h4 0 f (by omega) (by simp)
    have ih := lk_zip (fs := fs) (rs := rs) (j := j) (hs := hs) (h := h) (by simpa using h1) (by simpa using h2) h3 (fun j' i' a b => h4 (j' + 1) i' (by omega) (by simpa using b))
    unfold lkD at ih ⊢
    rw [List.zip_cons_cons, List.map_cons, List.find?_cons_of_neg (by simp [n])]
    exact ih
theorem lk_none {hs : List Int} {h : Int} : ∀ {fs : List Int} {rs : List Nat}, (∀ i ∈ fs, hdAt hs i ≠ h) → lkD ((fs.zip rs).map (fun x => ((.inl (hdAt hs x.1) : Key), D.ref x.2))) (.inl h) = none
  | [], rs, _ => by simp [lkD]
  | f :: fs, [], _ => by simp [lkD]
  | f :: fs, q :: rs, h1 => by
    have ih := lk_none (fs := fs) (rs := rs) fun i hi => h1 i (List.mem_cons_of_mem _ hi)
    unfold lkD at ih ⊢
    rw [List.zip_cons_cons, List.map_cons, List.find?_cons_of_neg (by simp [h1 f List.mem_cons_self])]
    exact ih
theorem firsts_mem {hs : List Int} {k : Nat} {x : Int} : x ∈ firsts hs k ↔ (0 ≤ x ∧ x < (k : Nat)) ∧ (hs.idxOf (hdAt hs x) : Int) = x := by
  unfold firsts
  rw [List.mem_filter, rng0_mem]
  simp
theorem firsts_inj {hs : List Int} {k : Nat} {x y : Int} (hx : x ∈ firsts hs k) (hy : y ∈ firsts hs k) (h : hdAt hs x = hdAt hs y) : x = y := by
  have h1 := (firsts_mem.mp hx).2
  have h2 := (firsts_mem.mp hy).2
  rw [h] at h1
  omega
theorem rng0_nodup {k : Nat} : (rng0 k).Nodup := by
  unfold rng0
  rw [List.nodup_iff_pairwise_ne, List.pairwise_map]
  exact (List.nodup_range (n := k)).imp fun h => by omega
theorem firsts_nodup {hs : List Int} {k : Nat} : (firsts hs k).Nodup := rng0_nodup.sublist (List.filter_sublist ..)
theorem evs_none {hs : List Int} {k : Nat} (h : ∀ j : Nat, j < k → hdAt hs (j : Nat) ≠ hdAt hs (k : Nat)) : evs hs (hdAt hs (k : Nat)) k = [] := by
  unfold evs
  rw [List.filter_eq_nil_iff]
  intro x hx
  obtain ⟨h0, h1⟩ := rng0_mem.mp hx
  have := h x.toNat (by omega)
  rw [Int.toNat_of_nonneg h0] at this
  simpa using this
/-- a further event: its head is new, or stands already -/
theorem KV.step {hs : List Int} {k : Nat} {kvs : List (Key × D)} {S : Store} {lo : Nat} (g : KV hs k kvs S lo) (hk : k < hs.length) :
    (lkD kvs (.inl (hdAt hs (k : Nat))) = none ∧ ∀ (S' : Store) r, S.length ≤ r → lo < S.length → S'[r]? = some (.lst [.int (k : Nat)]) → (∀ m, lo < m → m < S.length → S'[m]? = S[m]?) → KV hs (k + 1) (putD kvs (.inl (hdAt hs (k : Nat))) (.ref r)) S' lo) ∨
    (∃ r l, lkD kvs (.inl (hdAt hs (k : Nat))) = some (.ref r) ∧ lo < r ∧ S[r]? = some (.lst l) ∧ l.length ≤ k ∧ KV hs (k + 1) kvs (S.set r (.lst (l ++ [.int (k : Nat)]))) lo) := by
  obtain ⟨rs, rl, rn, rlo, hkv, hg⟩ := g
  obtain ⟨i1, i2⟩ := idx_lt hk
  have hk1 : hs.idxOf (hdAt hs (k : Nat)) < k ∨ hs.idxOf (hdAt hs (k : Nat)) = k := by omega
  rcases hk1 with c | c
  · -- it stands
    right
    obtain ⟨i0, hi0⟩ : ∃ i0 : Nat, i0 = hs.idxOf (hdAt hs (k : Nat)) := ⟨_, rfl⟩
    rw [← hi0] at c i2
    have m0 : ((i0 : Nat) : Int) ∈ firsts hs k := firsts_mem.mpr ⟨by omega, by rw [i2, hi0]⟩
    obtain ⟨j, hj⟩ := List.getElem?_of_mem m0
    have jl := (List.getElem?_eq_some_iff.mp hj).1
    have hr := List.getElem?_eq_getElem (show j < rs.length by omega)
    obtain ⟨r, er⟩ : ∃ r, rs[j] = r := ⟨_, rfl⟩
    rw [er] at hr
    have hS := hg j _ r hj hr
    rw [i2] at hS
    have f1 : firsts hs (k + 1) = firsts hs k := by
      rw [firsts_succ, if_neg (by rw [← hi0]; omega), List.append_nil]
    refine ⟨r, _, ?_, rlo r (List.mem_of_getElem? hr), hS, ?_, rs, by rw [f1]; exact rl, rn, rlo, by rw [f1]; exact hkv, ?_⟩
    · rw [hkv]
      refine lk_zip hj hr i2 fun j' i' hj' e he => ?_
      have := firsts_inj (List.mem_of_getElem? e) m0 (by rw [he, i2])
      subst this
      have e1 := List.getElem?_eq_some_iff.mp e
      have e2 := List.getElem?_eq_some_iff.mp hj
      have := List.pairwise_iff_getElem.mp (firsts_nodup (hs := hs) (k := k)) j' j e1.1 e2.1 hj'
      rw [e1.2, e2.2] at this
      exact this rfl
    · unfold evs
      have := List.length_filter_le (fun j => decide (hdAt hs j = hdAt hs (k : Nat))) (rng0 k)
      rw [List.length_map]
      refine Nat.le_trans this ?_
      simp [rng0]
    · intro j' i' r' h1 h2
      rw [f1] at h1
      rw [evs_succ]
      by_cases z : r' = r
      · subst z
        have ej : j' = j := by
          rcases Nat.lt_trichotomy j' j with q | q | q
          · have e1 := List.getElem?_eq_some_iff.mp h2
            have e2 := List.getElem?_eq_some_iff.mp hr
            have := List.pairwise_iff_getElem.mp rn j' j e1.1 e2.1 q
            rw [e1.2, e2.2] at this
            exact absurd rfl this
          · exact q
          · have e1 := List.getElem?_eq_some_iff.mp h2
            have e2 := List.getElem?_eq_some_iff.mp hr
            have := List.pairwise_iff_getElem.mp rn j j' e2.1 e1.1 q
            rw [e1.2, e2.2] at this
            exact absurd rfl this
        subst ej
        rw [hj] at h1
        have ei : ((i0 : Nat) : Int) = i' := Option.some.inj h1
        subst ei
        rw [List.getElem?_set_self (getlt hS), i2, if_pos rfl, List.map_append]
        rfl
      · rw [List.getElem?_set_ne (fun q => z q.symm), hg j' i' r' h1 h2]
        have n : ¬ hdAt hs (k : Nat) = hdAt hs i' := fun q => by
          have := firsts_inj (List.mem_of_getElem? h1) m0 (by rw [i2, q])
          subst this
          have e1 := List.getElem?_eq_some_iff.mp h1
          have e2 := List.getElem?_eq_some_iff.mp hj
          have : j' = j := by
            rcases Nat.lt_trichotomy j' j with q | q | q
            · have := List.pairwise_iff_getElem.mp (firsts_nodup (hs := hs) (k := k)) j' j e1.1 e2.1 q
              rw [e1.2, e2.2] at this
              exact absurd rfl this
            · exact q
            · have := List.pairwise_iff_getElem.mp (firsts_nodup (hs := hs) (k := k)) j j' e2.1 e1.1 q
              rw [e1.2, e2.2] at this
              exact absurd rfl this
          subst this
          rw [hr] at h2
          exact z (Option.some.inj h2).symm
        rw [if_neg n, List.append_nil]
  · left
    have nw : ∀ j : Nat, j < k → hdAt hs (j : Nat) ≠ hdAt hs (k : Nat) := fun j hj e => by
      have := (idx_lt (hs := hs) (k := j) (by omega)).1
      rw [e, c] at this
      omega
    have nf : ∀ i ∈ firsts hs k, hdAt hs i ≠ hdAt hs (k : Nat) := fun i hi => by
      obtain ⟨⟨h0, h1⟩, _⟩ := firsts_mem.mp hi
      have := nw i.toNat (by omega)
      rwa [Int.toNat_of_nonneg h0] at this
    have f1 : firsts hs (k + 1) = firsts hs k ++ [((k : Nat) : Int)] := by
      rw [firsts_succ, if_pos (by omega)]
    have ln : lkD kvs (.inl (hdAt hs (k : Nat))) = none := by rw [hkv]; exact lk_none nf
    have old_ : ∀ x ∈ rs, x < S.length := fun x hx => by
      obtain ⟨j, hj⟩ := List.getElem?_of_mem hx
      have jl := (List.getElem?_eq_some_iff.mp hj).1
      exact getlt (hg j _ x (List.getElem?_eq_getElem (show j < (firsts hs k).length by omega)) hj)
    refine ⟨ln, fun S' r hr hlo hS hold => ⟨rs ++ [r], by rw [f1]; simp [rl], ?_, ?_, ?_, ?_⟩⟩
    · rw [List.nodup_append]
      refine ⟨rn, by simp, fun x hx y hy e => ?_⟩
      rw [List.mem_singleton.mp hy] at e
      have := old_ x hx
      omega
    · intro x hx
      rcases List.mem_append.mp hx with z | z
      · exact rlo x z
      · rw [List.mem_singleton.mp z]; omega
    · rw [f1, List.zip_append rl.symm, List.map_append, ← hkv]
      have na : (kvs.any fun kv => decide (kv.1 = .inl (hdAt hs (k : Nat)))) = false := by
        rw [hkv, List.any_eq_false]
        intro x hx
        obtain ⟨y, hy, rfl⟩ := List.mem_map.mp hx
        have := nf y.1 (List.of_mem_zip hy).1
        simpa using this
      unfold putD
      rw [na]
      rfl
    · intro j i r' h1 h2
      rw [f1] at h1
      rw [evs_succ]
      rcases Nat.lt_or_ge j (firsts hs k).length with q | q
      · rw [List.getElem?_append_left q] at h1
        rw [List.getElem?_append_left (by omega)] at h2
        have e1 := hg j i r' h1 h2
        have n := nf i (List.mem_of_getElem? h1)
        rw [hold r' (rlo r' (List.mem_of_getElem? h2)) (getlt e1), e1, if_neg (fun z => n z.symm), List.append_nil]
      · have ej : j = (firsts hs k).length := by
          have := (List.getElem?_eq_some_iff.mp h1).1
          simp at this
          omega
        subst ej
        simp at h1
        rw [← rl] at h2
        simp at h2
        subst h1 h2
        rw [hS, if_pos rfl, evs_none nw]
        rfl
theorem KV.app {hs : List Int} {k : Nat} {kvs : List (Key × D)} {S T : Store} {lo : Nat} (g : KV hs k kvs S lo) : KV hs k kvs (S ++ T) lo := by
  obtain ⟨rs, rl, rn, rlo, hkv, hg⟩ := g
  exact ⟨rs, rl, rn, rlo, hkv, fun j i r h1 h2 => app_get (hg j i r h1 h2)⟩
/-- a row of rows of events, told by references -/
def RowsAt (gs : List (List Int)) (S : Store) (lo : Nat) (rs : List Nat) : Prop := rs.length = gs.length ∧ (∀ r ∈ rs, lo ≤ r) ∧ ∀ (j : Nat) g r, gs[j]? = some g → rs[j]? = some r → S[r]? = some (.lst (g.map D.int))
/-! how often a way goes along a span; cuts of the tree -/
def sg (s : Stp) : Int := if s.2 = true then 1 else -1
def cnt : List Stp → Nat → Int
  | [], _ => 0
  | s :: w, k => (if s.1 = k then sg s else 0) + cnt w k
def bI (b : Bool) : Int := if b = true then 1 else 0
def cv (l : List D) (C : Int → Bool) (k : Nat) : Int := bI (C (eJ (l.getD k .non))) - bI (C (eI (l.getD k .non)))
def csm (l : List D) (C : Int → Bool) : List Stp → Int
  | [] => 0
  | s :: w => sg s * cv l C s.1 + csm l C w
theorem sg_ne (s : Stp) : sg s ≠ 0 := by
  unfold sg
  split <;> decide
theorem sg_cv {l : List D} {C : Int → Bool} {s : Stp} : sg s * cv l C s.1 = bI (C (se_ l s)) - bI (C (sb_ l s)) := by
  unfold sg cv se_ sb_
  by_cases c : s.2 = true
  · rw [if_pos c, if_pos c, if_pos c, Int.one_mul]
  · rw [if_neg c, if_neg c, if_neg c]
    omega
theorem Chn.csm {l : List D} {C : Int → Bool} : ∀ {w : List Stp} {s t : Int}, Chn l s w t → csm l C w = bI (C t) - bI (C s)
  | [], s, t, h => by
    have h : s = t := h
    subst h
    show (0 : Int) = _
    omega
  | x :: w, s, t, h => by
    show sg x * cv l C x.1 + Mi_k25.csm l C w = _
    rw [sg_cv, Chn.csm h.2, h.1]
    omega
theorem cnt_no {k : Nat} : ∀ {w : List Stp}, k ∉ w.map (fun x => x.1) → cnt w k = 0
  | [], _ => rfl
  | x :: w, h => by
    simp only [List.map_cons, List.mem_cons, not_or] at h
    show (if x.1 = k then sg x else 0) + cnt w k = 0
    rw [if_neg (fun e => h.1 e.symm), cnt_no h.2]
    rfl
theorem cnt_one {x : Stp} : ∀ {w : List Stp}, (w.map fun y => y.1).Nodup → x ∈ w → cnt w x.1 = sg x
  | y :: w, hn, hx => by
    rw [List.map_cons, List.nodup_cons] at hn
    show (if y.1 = x.1 then sg y else 0) + cnt w x.1 = sg x
    rcases List.mem_cons.mp hx with e | e
    · subst e
      rw [if_pos rfl, cnt_no hn.1]
      omega
    · have : ¬ y.1 = x.1 := fun z => hn.1 (by rw [z]; exact List.mem_map.mpr ⟨x, e, rfl⟩)
      rw [if_neg this, cnt_one hn.2 e]
      omega
/-- a cut that the span k alone of these goes through -/
def Cut (l : List D) (ks : List Nat) (k : Nat) (C : Int → Bool) : Prop := C (eI (l.getD k .non)) ≠ C (eJ (l.getD k .non)) ∧ ∀ j ∈ ks, j ≠ k → C (eI (l.getD j .non)) = C (eJ (l.getD j .non))
theorem Cut.cv0 {l : List D} {ks : List Nat} {k j : Nat} {C : Int → Bool} (h : Cut l ks k C) (hj : j ∈ ks) (n : j ≠ k) : cv l C j = 0 := by
  unfold cv
  rw [h.2 j hj n]
  omega
theorem Cut.cv1 {l : List D} {ks : List Nat} {k : Nat} {C : Int → Bool} (h : Cut l ks k C) : cv l C k * cv l C k = 1 := by
  have h1 := h.1
  unfold cv bI
  cases q1 : C (eI (l.getD k .non)) <;> cases q2 : C (eJ (l.getD k .non))
  · rw [q1, q2] at h1; exact absurd rfl h1
  · rfl
  · rfl
  · rw [q1, q2] at h1; exact absurd rfl h1
theorem Cut.csm {l : List D} {ks : List Nat} {k : Nat} {C : Int → Bool} (h : Cut l ks k C) : ∀ {w : List Stp}, (∀ x ∈ w, x.1 ∈ ks) → Mi_k25.csm l C w = cnt w k * cv l C k
  | [], _ => by simp [Mi_k25.csm, cnt]
  | x :: w, hw => by
    have ih := Cut.csm h fun y hy => hw y (List.mem_cons_of_mem _ hy)
    show sg x * cv l C x.1 + Mi_k25.csm l C w = ((if x.1 = k then sg x else 0) + cnt w k) * cv l C k
    rw [ih, Int.add_mul]
    by_cases c : x.1 = k
    · rw [if_pos c, c]
    · rw [if_neg c, h.cv0 (hw x List.mem_cons_self) c]
      simp
def Cuts (l : List D) (ks : List Nat) : Prop := ∀ k ∈ ks, ∃ C, Cut l ks k C
theorem mkF_cut {b : Int} {e : Nat} {l : List D} (hd : ∀ d ∈ l, spanB b (e : Nat) d = true) : ∀ (ds pre : List D) (hs : List Int) (ks : List Nat), pre ++ ds = l → hs.length = e → (∀ k ∈ ks, k < pre.length) → Cuts l ks → Sm l hs ks → (∀ k, k < pre.length → hdAt hs (eI (l.getD k .non)) = hdAt hs (eJ (l.getD k .non))) →
    Cuts l (mkF pre.length ds hs ks).2 ∧ ∀ k, k < l.length → hdAt (mkF pre.length ds hs ks).1 (eI (l.getD k .non)) = hdAt (mkF pre.length ds hs ks).1 (eJ (l.getD k .non))
  | [], pre, hs, ks, hl, he, hk, h1, h2, h3 => by
    rw [mkF_nil]
    refine ⟨h1, fun k hk => h3 k ?_⟩
    rw [← hl] at hk
    simpa using hk
  | d :: ds, pre, hs, ks, hl, he, hk, h1, h2, h3 => by
    have hl2 : (pre ++ [d]) ++ ds = l := by rw [← hl]; simp
    have len2 : (pre ++ [d]).length = pre.length + 1 := by simp
    have hdm : d ∈ l := by rw [← hl]; simp
    have gd : l.getD pre.length .non = d := by rw [← hl]; simp
    obtain ⟨i, j, lo, hi, ed, i0, i1, j0, j1, ij, _⟩ := sp4 (hd d hdm)
    have ei : eI d = i := by rw [ed]; rfl
    have ej : eJ d = j := by rw [ed]; rfl
    have key := mkF_cut hd ds (pre ++ [d])
    rw [len2] at key
    have ll : pre.length < l.length := by rw [← hl]; simp
    have rg : ∀ k, k < l.length → 0 ≤ eI (l.getD k .non) ∧ eI (l.getD k .non) < (hs.length : Nat) ∧ 0 ≤ eJ (l.getD k .non) ∧ eJ (l.getD k .non) < (hs.length : Nat) := fun k hk => by
      have hm : l.getD k .non ∈ l := by
        rw [List.getD_eq_getElem?_getD, List.getElem?_eq_getElem hk]
        exact List.getElem_mem hk
      obtain ⟨i, j, lo, hi, ed, i0, i1, j0, j1, ij, _⟩ := sp4 (hd _ hm)
      rw [ed, he]
      exact ⟨i0, i1, j0, j1⟩
    rw [mkF_cons, ei, ej]
    by_cases c : hdAt hs i = hdAt hs j
    · rw [if_pos c]
      refine key hs ks hl2 he (fun k z => by have := hk k z; omega) h1 h2 fun k z => ?_
      rcases Nat.lt_or_ge k pre.length with y | y
      · exact h3 k y
      · have : k = pre.length := by omega
        rw [this, gd, ei, ej]
        exact c
    · rw [if_neg c]
      have jnE : ∀ k, k < l.length → hdAt hs (eI (l.getD k .non)) = hdAt hs (eJ (l.getD k .non)) → hdAt (jn hs (hdAt hs i) (hdAt hs j)) (eI (l.getD k .non)) = hdAt (jn hs (hdAt hs i) (hdAt hs j)) (eJ (l.getD k .non)) := fun k kl z => by
        obtain ⟨r1, r2, r3, r4⟩ := rg k kl
        rw [jn_at r1 r2, jn_at r3 r4, z]
      have jnN : hdAt (jn hs (hdAt hs i) (hdAt hs j)) (eI (l.getD pre.length .non)) = hdAt (jn hs (hdAt hs i) (hdAt hs j)) (eJ (l.getD pre.length .non)) := by
        obtain ⟨r1, r2, r3, r4⟩ := rg pre.length ll
        rw [jn_at r1 r2, jn_at r3 r4, gd, ei, ej, if_pos (show hdAt hs i = hdAt hs i ∨ hdAt hs i = hdAt hs j from .inl rfl), if_pos (show hdAt hs j = hdAt hs i ∨ hdAt hs j = hdAt hs j from .inr rfl)]
      have kl : ∀ k ∈ ks, k < l.length := fun k z => by have := hk k z; omega
      refine key _ _ hl2 (by rw [jn_len]; exact he) (fun k z => ?_) ?_ ?_ ?_
      · rcases List.mem_append.mp z with z | z
        · have := hk k z; omega
        · rw [List.mem_singleton.mp z]; omega
      · intro k z
        rcases List.mem_append.mp z with z | z
        · obtain ⟨C, c1, c2⟩ := h1 k z
          have kne : k ≠ pre.length := by have := hk k z; omega
          by_cases q : C i = C j
          · refine ⟨C, c1, fun m hm nm => ?_⟩
            rcases List.mem_append.mp hm with y | y
            · exact c2 m y nm
            · rw [List.mem_singleton.mp y, gd, ei, ej]; exact q
          · refine ⟨fun x => if hdAt hs x = hdAt hs j then !C x else C x, ?_, fun m hm nm => ?_⟩
            · dsimp only
              rw [h2 k z]
              split
              · intro y; apply c1; simpa using y
              · exact c1
            · dsimp only
              rcases List.mem_append.mp hm with y | y
              · rw [h2 m y, c2 m y nm]
              · rw [List.mem_singleton.mp y, gd, ei, ej, if_neg c, if_pos rfl]
                cases q1 : C i <;> cases q2 : C j <;> simp_all
        · rw [List.mem_singleton.mp z]
          refine ⟨fun x => decide (hdAt hs x = hdAt hs i), ?_, fun m hm nm => ?_⟩
          · rw [gd, ei, ej]
            intro y
            simp only [decide_true] at y
            exact c (of_decide_eq_true y.symm).symm
          · rcases List.mem_append.mp hm with y | y
            · dsimp only
              rw [h2 m y]
            · exact absurd (List.mem_singleton.mp y) nm
      · intro k z
        rcases List.mem_append.mp z with z | z
        · exact jnE k (kl k z) (h2 k z)
        · rw [List.mem_singleton.mp z]; exact jnN
      · intro k z
        rcases Nat.lt_or_ge k pre.length with y | y
        · exact jnE k (by omega) (h3 k y)
        · have : k = pre.length := by omega
          rw [this]; exact jnN
theorem tree_cut {b : Int} {e : Nat} {l : List D} (hd : ∀ d ∈ l, spanB b (e : Nat) d = true) : Cuts l (kpt e l) ∧ ∀ k, k < l.length → hdAt (hds e l) (eI (l.getD k .non)) = hdAt (hds e l) (eJ (l.getD k .non)) :=
  mkF_cut hd l [] (rng0 e) [] rfl rng0_len (fun k z => by cases z) (fun k z => by cases z) (fun k z => by cases z) (fun k z => by cases z)
/-! ways along the tree are the only ones -/
theorem closed_nil {l : List D} {ks : List Nat} (hc : Cuts l ks) {w : List Stp} {s : Int} (h : Chn l s w s) (hk : ∀ x ∈ w, x.1 ∈ ks) (hn : (w.map fun x => x.1).Nodup) : w = [] := by
  cases w with
  | nil => rfl
  | cons x w =>
    exfalso
    obtain ⟨C, hC⟩ := hc x.1 (hk x List.mem_cons_self)
    have e1 := hC.csm hk
    rw [h.csm, cnt_one hn List.mem_cons_self] at e1
    have e2 : sg x * cv l C x.1 = 0 := by omega
    have e3 := hC.cv1
    rcases Int.mul_eq_zero.mp e2 with z | z
    · exact sg_ne x z
    · rw [z] at e3; exact absurd e3 (by decide)
theorem Chn.split {l : List D} : ∀ {v w : List Stp} {s t : Int}, Chn l s (v ++ w) t → ∃ m, Chn l s v m ∧ Chn l m w t
  | [], w, s, t, h => ⟨s, rfl, h⟩
  | x :: v, w, s, t, h => by
    obtain ⟨m, h1, h2⟩ := Chn.split (v := v) h.2
    exact ⟨m, ⟨h.1, h1⟩, h2⟩
theorem way_uniq {l : List D} {ks : List Nat} (hc : Cuts l ks) : ∀ {v w : List Stp} {s t : Int}, Chn l s v t → Chn l s w t → (∀ x ∈ v, x.1 ∈ ks) → (∀ x ∈ w, x.1 ∈ ks) → (v.map fun x => x.1).Nodup → (w.map fun x => x.1).Nodup → v = w
  | [], w, s, t, h1, h2, k1, k2, n1, n2 => by
    have h1 : s = t := h1
    subst h1
    exact (closed_nil hc h2 k2 n2).symm
  | x :: v, w, s, t, h1, h2, k1, k2, n1, n2 => by
    cases w with
    | nil =>
      have h2 : s = t := h2
      subst h2
      exact closed_nil hc h1 k1 n1
    | cons y w =>
      by_cases c : x = y
      · subst c
        have := way_uniq hc h1.2 h2.2 (fun z hz => k1 z (List.mem_cons_of_mem _ hz)) (fun z hz => k2 z (List.mem_cons_of_mem _ hz)) (by rw [List.map_cons, List.nodup_cons] at n1; exact n1.2) (by rw [List.map_cons, List.nodup_cons] at n2; exact n2.2)
        rw [this]
      · exfalso
        obtain ⟨C, hC⟩ := hc x.1 (k1 x List.mem_cons_self)
        have e1 := hC.csm k1
        have e2 := hC.csm k2
        rw [h1.csm] at e1
        rw [h2.csm, e1, cnt_one n1 List.mem_cons_self] at e2
        have e3 := hC.cv1
        have cvn : cv l C x.1 ≠ 0 := fun z => by rw [z] at e3; exact absurd e3 (by decide)
        have e4 : sg x = cnt (y :: w) x.1 := Int.eq_of_mul_eq_mul_right cvn e2
        have xm : x ∈ y :: w := by
          by_cases q : x.1 ∈ (y :: w).map fun z => z.1
          · obtain ⟨z, hz, ez⟩ := List.mem_map.mp q
            have e5 := cnt_one n2 hz
            rw [ez, ← e4] at e5
            have : z = x := by
              obtain ⟨z1, z2⟩ := z
              obtain ⟨x1, x2⟩ := x
              dsimp only at ez
              subst ez
              unfold sg at e5
              dsimp only at e5
              cases z2 <;> cases x2 <;> simp at e5 <;> rfl
            rw [← this]; exact hz
          · rw [cnt_no q] at e4
            exact absurd e4 (sg_ne x)
        have xw : x ∈ w := by
          rcases List.mem_cons.mp xm with z | z
          · exact absurd z c
          · exact z
        obtain ⟨p, q, rfl⟩ := List.append_of_mem xw
        have h3 : Chn l s ((y :: p) ++ (x :: q)) t := h2
        obtain ⟨m, h4, h5⟩ := h3.split
        have em : m = s := h5.1.symm.trans h1.1
        subst em
        have n3 : ((y :: p).map fun z => z.1).Nodup := by
          have : ((y :: p) ++ (x :: q)).map (fun z => z.1) = (y :: p).map (fun z => z.1) ++ (x :: q).map (fun z => z.1) := by simp
          have n2' : (((y :: p) ++ (x :: q)).map fun z => z.1).Nodup := n2
          rw [this, List.nodup_append] at n2'
          exact n2'.1
        have := closed_nil hc h4 (fun z hz => k2 z (by
          rcases List.mem_cons.mp hz with r | r
          · rw [r]; simp
          · simp [r])) n3
        cases this
/-! the counts of a ring come of those of the base -/
def chs (e : Nat) (l : List D) : List Nat := (List.range l.length).filter fun k => decide (k ∉ kpt e l)
theorem bd_le {n : Nat} (h : n ≤ 1000) : bd ((n : Nat) : Int) := by
  have e62 : (2 : Int) ^ 62 = 4611686018427387904 := by decide
  unfold bd
  rw [e62]
  constructor <;> omega
/-! the one tree way -/
def IsTw (e : Nat) (l : List D) (s t : Int) (w : List Stp) : Prop := Chn l s w t ∧ (∀ x ∈ w, x.1 ∈ kpt e l) ∧ (w.map fun x => x.1).Nodup
noncomputable def twy (e : Nat) (l : List D) (s t : Int) : List Stp := open Classical in if h : ∃ w, IsTw e l s t w then Classical.choose h else []
theorem twy_is {l : List D} {s t : Int} {w : List Stp} (hd : ∀ d ∈ l, spanB b (e : Nat) d = true) (h : IsTw e l s t w) : w = twy e l s t := by
  have hx : ∃ w, IsTw e l s t w := ⟨w, h⟩
  unfold twy
  rw [dif_pos hx]
  obtain ⟨h1, h2, h3⟩ := Classical.choose_spec hx
  exact way_uniq (tree_cut hd).1 h.1 h1 h.2.1 h2 h.2.2 h3
theorem TW.is {l : List D} {s t : Int} {fd : Fd} {w : List Stp} (h : TW l (kpt e l) s e fd) (hw : fdL fd t = some w) : IsTw e l s t w := ⟨h.ch _ (fdL_some hw), h.ks _ (fdL_some hw), h.ix _ (fdL_some hw)⟩
theorem TW.all {l : List D} {s t : Int} {fd : Fd} (hd : ∀ d ∈ l, spanB b (e : Nat) d = true) (h : TW l (kpt e l) s e fd) (cl : ∀ x ∈ keys fd, Clo l (kpt e l) fd x) (hs : 0 ≤ s ∧ s < (e : Nat)) (ht : 0 ≤ t ∧ t < (e : Nat)) (ch : hdAt (hds e l) s = hdAt (hds e l) t) : fdL fd t = some (twy e l s t) := by
  obtain ⟨jo, sm, kl⟩ := tree_jo hd
  have tk : t ∈ keys fd := by
    refine (jo (fun x => x ∈ keys fd) (fun k hk => ?_) s t hs.1 hs.2 ht.1 ht.2 ch).mp h.st
    constructor
    · intro h
      have := cl _ h (k, true) (stL_mem.mpr hk) (by simp [sb_])
      simpa [se_] using this
    · intro h
      have := cl _ h (k, false) (stL_mem.mpr hk) (by simp [sb_])
      simpa [se_] using this
  obtain ⟨w, hw⟩ := fdL_is tk
  rw [hw, twy_is hd (h.is hw)]
noncomputable def brg (e : Nat) (l : List D) (k : Nat) : List Stp := (k, true) :: twy e l (eJ (l.getD k .non)) (eI (l.getD k .non))
/-! what is a step, a way, a ring, of things drawn -/
inductive Itm (S : Store) : D → Prop
  | st (i : Int) (f : Bool) : Itm S (.tup [.int i, .bl f])
  | no (i : Int) : Itm S (.tup [.int i, .int 1])
  | int (i : Int) : Itm S (.int i)
  | odd {d : D} : Odd S d → (∀ C xs, d ≠ .ins C xs) → Itm S d
theorem Itm.imp {S S' : Store} {d : D} (h : Itm S d) (k : ∀ m o, S[m]? = some o → d = .ref m → S'[m]? = some o) : Itm S' d := by
  cases h with
  | st i f => exact .st i f
  | no i => exact .no i
  | int i => exact .int i
  | odd h n => exact .odd (h.imp k) n
theorem Itm.od {S S' : Store} {d : D} (h : Itm S d) (k : Od S S') : Itm S' d := h.imp fun m o hm _ => k.get hm
/-! the law's own tree way -/
abbrev Wq := (Int × List Stp) × Nat
def wqD (q : Wq) : D := .tup [.int q.1.1, .ref q.2]
def fdW (ws : List Wq) : Fd := ws.map fun q => q.1
structure PI (l : List D) (ks : List Nat) (s : Int) (e : Nat) (S0 : Store) (pw psn : Nat) (ws : List Wq) (S' : Store) : Prop where
  od : Od S0 S'
  hw : S'[pw]? = some (.lst (ws.map wqD))
  hs : S'[psn]? = some (.lst ((keys (fdW ws)).map D.int))
  hq : ∀ q ∈ ws, S0.length ≤ q.2 ∧ q.2 ≠ pw ∧ q.2 ≠ psn ∧ S'[q.2]? = some (.lst (q.1.2.map stD))
  tw : TW l ks s e (fdW ws)
/-! sums of bounds -/
def loK (l : List D) (k : Nat) : Int := match l.getD k .non with
  | .tup [_, _, .int lo, _] => lo
  | _ => 0
def hiK (l : List D) (k : Nat) : Int := match l.getD k .non with
  | .tup [_, _, _, .int hi] => hi
  | _ => 0
structure GM (M b : Int) (e : Nat) (l ts : List D) (xs : List Int) : Prop where
  c : Cx M b e
  hd : ∀ d ∈ l, Lkd M b e xs d
  hl : l.length ≤ 60
  he : xs.length = e
  f : F2 (VT M) ts (xs.map D.int)
  hx : ∀ x ∈ xs, 0 ≤ x ∧ x < b * M
def wsum (f : Nat → Int) : List Stp → Int
  | [] => 0
  | x :: w => sg x * f x.1 + wsum f w
theorem ln_eq {F b : Int} {xs : List Int} {i j lo hi Y : Int} (hF : 0 < F) (h : ∃ c, xs.getD j.toNat 0 - xs.getD i.toNat 0 = Y + c * (b * F)) (h1 : lo * F ≤ Y) (h2 : Y ≤ hi * F) (h3 : hi - lo ≤ b - 2) : lnOf F b xs (.tup [.int i, .int j, .int lo, .int hi]) = Y := by
  obtain ⟨c, hc⟩ := h
  have h4 : (hi - lo) * F ≤ (b - 2) * F := Int.mul_le_mul_of_nonneg_right h3 (by omega)
  rw [Int.sub_mul, Int.sub_mul] at h4
  show (xs.getD j.toNat 0 - xs.getD i.toNat 0 - lo * F) % (b * F) + lo * F = Y
  have e : xs.getD j.toNat 0 - xs.getD i.toNat 0 - lo * F = (Y - lo * F) + c * (b * F) := by omega
  rw [e, Int.add_mul_emod_self_right, Int.emod_eq_of_lt (by omega) (by omega)]
  omega
def lnA (M b : Int) (xs : List Int) (l : List D) (k : Nat) : Int := lnOf M b xs (l.getD k .non)
/-! a number by the spans: its sums along the tree depend on the ends alone -/
def bk (w : List Stp) : List Stp := (w.map fun x => (x.1, !x.2)).reverse
theorem Chn.app {l : List D} : ∀ {v w : List Stp} {s m t : Int}, Chn l s v m → Chn l m w t → Chn l s (v ++ w) t
  | [], w, s, m, t, h1, h2 => by
    have : s = m := h1
    rw [this]; exact h2
  | x :: v, w, s, m, t, h1, h2 => ⟨h1.1, Chn.app h1.2 h2⟩
theorem Chn.bk {l : List D} : ∀ {w : List Stp} {s t : Int}, Chn l s w t → Chn l t (bk w) s
  | [], s, t, h => by
    have : s = t := h
    exact this.symm
  | x :: w, s, t, h => by
    have ih := Chn.bk h.2
    have : Mi_k25.bk (x :: w) = Mi_k25.bk w ++ [(x.1, !x.2)] := by simp [Mi_k25.bk]
    rw [this]
    refine ih.app ⟨?_, ?_⟩
    · unfold sb_ se_
      cases x.2 <;> rfl
    · show se_ l (x.1, !x.2) = s
      rw [← h.1]
      unfold sb_ se_
      cases x.2 <;> rfl
/-- the first event of an event's piece -/
def fst (e : Nat) (l : List D) (x : Int) : Int := ((hds e l).idxOf (hdAt (hds e l) x) : Nat)
/-- the place of an event, by lengths f -/
noncomputable def plc (e : Nat) (l : List D) (f : Nat → Int) (x : Int) : Int := wsum f (twy e l (fst e l x) x)
/-! what lengths_fault tells -/
def loD : D → Int
  | .tup [_, _, .int lo, _] => lo
  | _ => 0
theorem Row.od {S S' : Store} {th : D} {ds : List D} (h : Row S th ds) (o : Od S S') : Row S' th ds := by
  rcases h with e | ⟨n, e, h⟩
  · exact .inl e
  · exact .inr ⟨n, e, o.get h⟩
/-- the row ys, by indexes -/
def rowF (ys : List Int) (k : Nat) : Int := ys.getD k 0
theorem ys_at {ys : List Int} {k : Nat} (h : k < ys.length) : atI (ys.map D.int) (k : Nat) = some (.int (rowF ys k)) := atI_nat (by omega) (by
  rw [Int.toNat_natCast, List.getElem?_map, List.getElem?_eq_getElem h]
  unfold rowF
  rw [List.getD_eq_getElem?_getD, List.getElem?_eq_getElem h]
  rfl)
theorem ag_get {S S' : Store} {n m : Nat} {o : Ob} (u : Ag S n S') (h : S[m]? = some o) (hm : m ≠ n) : S'[m]? = some o := by rw [u.2 m (getlt h) hm]; exact h
theorem ag_set {S S' : Store} {n p : Nat} {o : Ob} (u : Ag S n S') (hp : S.length ≤ p) : Ag S n (S'.set p o) := ⟨by rw [List.length_set]; exact u.1, fun m h1 h2 => by rw [List.getElem?_set_ne (by omega)]; exact u.2 m h1 h2⟩
theorem rng_get {n k : Nat} {d : D} (h : (rngI 0 n)[k]? = some d) : k < n ∧ d = .int (k : Nat) := by
  have kl := (List.getElem?_eq_some_iff.mp h).1
  have rl : (rngI 0 n).length = n := by simp [rngI]
  rw [rl] at kl
  refine ⟨kl, ?_⟩
  unfold rngI at h
  rw [List.getElem?_map, List.getElem?_range kl] at h
  simp at h
  exact h.symm
/-- the row as drawn -/
def YsI (M : Int) (l : List D) (ys : List Int) : Prop := ys.length = l.length ∧ ∀ (k : Nat) d, l[k]? = some d → loD d * M ≤ rowF ys k ∧ rowF ys k ≤ hiOf d * M
theorem YsI.sz {l : List D} {ys : List Int} (h : YsI M l ys) (hM : 0 < M) (hM9 : M ≤ 1000000000) (hd : ∀ d ∈ l, spanB b (e : Nat) d = true) : ∀ y ∈ ys, Sz 60 y := fun y hy => by
  obtain ⟨k, hk⟩ := List.getElem?_of_mem hy
  have kl := (List.getElem?_eq_some_iff.mp hk).1
  obtain ⟨a1, a2⟩ := h.2 k _ (List.getElem?_eq_getElem (show k < l.length by have := h.1; omega))
  obtain ⟨i, j, lo, hi, ed, _, _, _, _, _, l0, l1, l2, _⟩ := sp4 (hd _ (List.getElem_mem (show k < l.length by have := h.1; omega)))
  rw [ed] at a1 a2
  have ey : rowF ys k = y := by
    unfold rowF
    rw [List.getD_eq_getElem?_getD, hk]
    rfl
  rw [ey] at a1 a2
  simp only [loD, hiOf] at a1 a2
  have b1 : 0 ≤ lo * M := Int.mul_nonneg (by omega) (by omega)
  have b2 : hi * M ≤ 2880 * 1000000000 := Int.mul_le_mul l2 hM9 (by omega) (by omega)
  exact .of (2880 * 1000000000) (by omega)
theorem YsI.set {l : List D} {ys : List Int} (h : YsI M l ys) {a : Nat} {y : Int} {d : D} (hd : l[a]? = some d) (h1 : loD d * M ≤ y) (h2 : y ≤ hiOf d * M) : YsI M l (ys.set a y) := by
  refine ⟨by rw [List.length_set]; exact h.1, fun k d' hk => ?_⟩
  have al := (List.getElem?_eq_some_iff.mp hd).1
  by_cases z : a = k
  · subst z
    rw [hd] at hk
    cases hk
    have : rowF (ys.set a y) a = y := by
      unfold rowF
      rw [List.getD_eq_getElem?_getD, List.getElem?_set_self (by have := h.1; omega)]
      rfl
    rw [this]
    exact ⟨h1, h2⟩
  · have : rowF (ys.set a y) k = rowF ys k := by
      unfold rowF
      rw [List.getD_eq_getElem?_getD, List.getD_eq_getElem?_getD, List.getElem?_set_ne z]
    rw [this]
    exact h.2 k d' hk
/-- a span around two timetables: y the length in the first one, y + t in the second one, but for whole beats -/
def TwL (b : Int) (e : Nat) (xs rs : List Int) (d : D) : Prop := spanB b (e : Nat) d = true ∧ ∃ y t : Int, (∃ c, xs.getD (eJ d).toNat 0 - xs.getD (eI d).toNat 0 = y + c * b) ∧ (∃ c, rs.getD (eJ d).toNat 0 - rs.getD (eI d).toNat 0 = t + c * b) ∧ loD d ≤ y ∧ y ≤ hiOf d ∧ loD d ≤ y + t ∧ y + t ≤ hiOf d
/-- what stands in the loop over the spans -/
structure TwI (b : Int) (e n mo ri p oo : Nat) (xs rs : List Int) (od : List D) (S0 : Store) (K : Int) (m : Nat) (S : Store) : Prop where
  src : Src S n K
  ho : S[oo]? = some (.lst od)
  row : ∃ l, S[p]? = some (.lst l) ∧ (∀ d ∈ l, TwL b e xs rs d) ∧ l.Nodup ∧ l.length ≤ m
  ag : Ag S0 n S
  len : S0.length + 2 ≤ S.length
theorem TwI.ch {n mo ri p oo : Nat} {xs rs : List Int} {od : List D} {S0 S S' : Store} {K K' : Int} {m : Nat} (h : TwI b e n mo ri p oo xs rs od S0 K m S) (u : Ag S n S') (s : Src S' n K') (pn : p ≠ n) (on : oo ≠ n) : TwI b e n mo ri p oo xs rs od S0 K' m S' := by
  obtain ⟨l, l1, l2⟩ := h.row
  exact ⟨s, ag_get u h.ho on, ⟨l, ag_get u l1 pn, l2⟩, h.ag.trans u, Nat.le_trans h.len u.1⟩
/-- the row at a weight between -/
def ysW (M w : Int) (n : Nat) (ys0 ys1 : List Int) : List Int := (List.range n).map fun k => rowF ys0 k * (M - w) + rowF ys1 k * w
theorem ysW_at {M w : Int} {n k : Nat} {ys0 ys1 : List Int} (h : k < n) : rowF (ysW M w n ys0 ys1) k = rowF ys0 k * (M - w) + rowF ys1 k * w := by
  unfold ysW
  rw [rowF, List.getD_eq_getElem?_getD, List.getElem?_map, List.getElem?_range h]
  rfl
/-- lengths in two timetables -/
structure Two (b : Int) (e : Nat) (l : List D) (ys0 ys1 : List Int) (R0 R1 : Nat → Int) : Prop where
  hd : ∀ d ∈ l, spanB b (e : Nat) d = true
  hl : l.length ≤ 60
  l0 : ys0.length = l.length
  l1 : ys1.length = l.length
  y0 : ∀ (k : Nat) d, l[k]? = some d → loD d ≤ rowF ys0 k ∧ rowF ys0 k ≤ hiOf d
  y1 : ∀ (k : Nat) d, l[k]? = some d → loD d ≤ rowF ys1 k ∧ rowF ys1 k ≤ hiOf d
  r0 : ∀ k ∈ chs e l, wsum (rowF ys0) (brg e l k) = R0 k * b
  r1 : ∀ k ∈ chs e l, wsum (rowF ys1) (brg e l k) = R1 k * b
theorem Two.fit {l : List D} {ys0 ys1 : List Int} {R0 R1 : Nat → Int} {w : Int} (h : Two b e l ys0 ys1 R0 R1) (h0 : 0 ≤ w) (h1 : w ≤ M) (k : Nat) (d : D) (hk : l[k]? = some d) : loD d * M ≤ rowF (ysW M w l.length ys0 ys1) k ∧ rowF (ysW M w l.length ys0 ys1) k ≤ hiOf d * M := by
  have kl := (List.getElem?_eq_some_iff.mp hk).1
  obtain ⟨a0, a1⟩ := h.y0 k d hk
  obtain ⟨b0, b1⟩ := h.y1 k d hk
  rw [ysW_at kl]
  have x1 := Int.mul_le_mul_of_nonneg_right a0 (show 0 ≤ M - w by omega)
  have x2 := Int.mul_le_mul_of_nonneg_right a1 (show 0 ≤ M - w by omega)
  have x3 := Int.mul_le_mul_of_nonneg_right b0 h0
  have x4 := Int.mul_le_mul_of_nonneg_right b1 h0
  rw [Int.mul_sub] at x1 x2 ⊢
  rw [Int.mul_sub] at x1 x2
  omega
theorem atI3 {a b c : D} {r : Int} (h0 : 0 ≤ r) (h1 : r < 3) : atI [a, b, c] r = some a ∨ atI [a, b, c] r = some b ∨ atI [a, b, c] r = some c := by
  have : r = 0 ∨ r = 1 ∨ r = 2 := by omega
  rcases this with rfl | rfl | rfl
  · exact .inl rfl
  · exact .inr (.inl rfl)
  · exact .inr (.inr rfl)
variable {P : Po}
/-- an arc and its step -/
abbrev ArcS := Bf.Arc × D
variable {b : Int} {e : Nat} {P : Po}
/-- an arc turned round -/
def trn (x : ArcS) : ArcS := ((x.1.2.1, x.1.1, x.1.2.2), x.2)
/-- what a chord's rounds shift -/
def shK (b : Int) (ks : List Nat) (R : Nat → Int) (k : Nat) : Int := if k ∈ ks then R k * b else 0
def stT (k : Nat) (f : Bool) : D := .tup [.int (k : Nat), .bl f]
/-- the two arcs of a span -/
def arc2 (b : Int) (ks : List Nat) (R : Nat → Int) (k : Nat) (d : D) : List ArcS := match d with
  | .tup [.int i, .int j, .int lo, .int hi] => [((i.toNat, j.toNat, hi - shK b ks R k), stT k true), ((j.toNat, i.toNat, shK b ks R k - lo), stT k false)]
  | _ => []
def limA (b : Int) (ks : List Nat) (R : Nat → Int) : Nat → List D → List ArcS
  | _, [] => []
  | k, d :: l => arc2 b ks R k d ++ limA b ks R (k + 1) l
theorem enum_at {ds : List D} {i : Nat} {y : D} (h : (enumD ds)[i]? = some y) : ∃ d, ds[i]? = some d ∧ y = .tup [.int (i : Nat), d] := by
  unfold enumD at h
  simp only [List.getElem?_map, List.getElem?_zipIdx] at h
  cases hd : ds[i]? with
  | none => rw [hd] at h; simp at h
  | some d =>
    rw [hd] at h
    refine ⟨d, rfl, ?_⟩
    simp at h
    exact h.symm
theorem enum_len {ds : List D} : (enumD ds).length = ds.length := by
  unfold enumD
  simp
/-- lengths by places -/
def lnS (b : Int) (e : Nat) (l : List D) (R : Nat → Int) (s : Nat → Int) (k : Nat) : Int := s (eJ (l.getD k .non)).toNat - s (eI (l.getD k .non)).toNat + shK b (chs e l) R k
/-- places that keep the bounds -/
def PlS (b : Int) (e : Nat) (l : List D) (R : Nat → Int) (s : Nat → Int) : Prop := ∀ k, k < l.length → loK l k ≤ lnS b e l R s k ∧ lnS b e l R s k ≤ hiK l k
theorem getd_at {l : List D} {k : Nat} {d : D} (h : l[k]? = some d) : l.getD k .non = d := by
  rw [List.getD_eq_getElem?_getD, h]
  rfl
theorem lnS_at {l : List D} {R s : Nat → Int} {k : Nat} {i j lo hi : Int} (h : l[k]? = some (.tup [.int i, .int j, .int lo, .int hi])) : lnS b e l R s k = s j.toNat - s i.toNat + shK b (chs e l) R k ∧ loK l k = lo ∧ hiK l k = hi := by
  unfold lnS loK hiK
  rw [getd_at h]
  exact ⟨rfl, rfl, rfl⟩
/-- the moments by places -/
def zsS (b : Int) (e : Nat) (s : Nat → Int) : List Int := (List.range e).map fun k => s k % b
theorem zsS_at {s : Nat → Int} {x : Int} (h0 : 0 ≤ x) (h1 : x < (e : Nat)) : (zsS b e s).getD x.toNat 0 = s x.toNat % b := by
  unfold zsS
  rw [List.getD_eq_getElem?_getD, List.getElem?_map, List.getElem?_range (by omega)]
  rfl
theorem PlS.ln {l : List D} {R s : Nat → Int} (hb : 0 < b) (hd : ∀ d ∈ l, spanB b (e : Nat) d = true) (h : PlS b e l R s) {k : Nat} (kl : k < l.length) : lnA 1 b (zsS b e s) l k = lnS b e l R s k := by
  have hk := List.getElem?_eq_getElem kl
  obtain ⟨i, j, lo, hi, ed, i0, i1, j0, j1, ij, l0, l1, l2, l3⟩ := sp4 (hd _ (List.getElem_mem kl))
  rw [ed] at hk
  obtain ⟨h1, h2, h3⟩ := lnS_at (b := b) (e := e) (R := R) (s := s) hk
  obtain ⟨g1, g2⟩ := h k kl
  rw [h2] at g1
  rw [h3] at g2
  unfold lnA
  rw [getd_at hk]
  refine ln_eq (by decide) ?_ (by omega) (by omega) l3
  rw [zsS_at j0 j1, zsS_at i0 i1, h1]
  obtain ⟨c, hc⟩ : ∃ c, shK b (chs e l) R k = c * b := by
    unfold shK
    split
    · exact ⟨_, rfl⟩
    · exact ⟨0, by omega⟩
  have d1 := Int.mul_ediv_add_emod (s j.toNat) b
  have d2 := Int.mul_ediv_add_emod (s i.toNat) b
  refine ⟨s i.toNat / b - s j.toNat / b - c, ?_⟩
  rw [hc, Int.mul_one, Int.sub_mul, Int.sub_mul, Int.mul_comm (s i.toNat / b), Int.mul_comm (s j.toNat / b)]
  omega
/-- an island: places keep its bounds -/
structure Isl (b : Int) (e : Nat) (l : List D) (R p : Nat → Int) : Prop where
  hb : 3 ≤ b ∧ b ≤ 1440
  he : 1 ≤ e ∧ e ≤ 24
  hl : l.length ≤ 60
  hd : ∀ d ∈ l, spanB b (e : Nat) d = true
  hR : ∀ k, Sz 60 (R k)
  pl : PlS b e l R p
theorem Isl.c {l : List D} {R p : Nat → Int} (I : Isl b e l R p) : Cx 1 b e := ⟨by decide, .of 1 (by decide), I.hb.1, I.hb.2, I.he.1, I.he.2⟩
/-- the first events, as numbers -/
def fsN (e : Nat) (l : List D) : List Nat := (firsts (hds e l) e).map Int.toNat
/-- least places of an island: arcs that lead to each event bind, from the first events on -/
structure Ldr (b : Int) (e : Nat) (l : List D) (R s : Nat → Int) (first : Bool) : Prop where
  pl : PlS b e l R s
  z : ∀ a ∈ fsN e l, s a = 0
  rch : ∀ v, v < e → ∃ a ∈ fsN e l, ∃ K, Bf.Wlk (Bf.Tgt (if first = true then ((limA b (chs e l) R 0 l).map trn).map (·.1) else (limA b (chs e l) R 0 l).map (·.1)) (if first = true then fun v => -s v else s)) a K v ∧ K.length < e
  ext : ∀ p, PlS b e l R p → (∀ a ∈ fsN e l, p a = 0) → ∀ v, v < e → if first = true then s v ≤ p v else p v ≤ s v
variable {ns : List Int} {Q : D → Store → Prop} {X : XP}
theorem GM.hd' {l ts : List D} {xs : List Int} (g : GM 1 b e l ts xs) : ∀ d ∈ l, spanB b (e : Nat) d = true := fun d h => (g.hd d h).1
/-- the places of moments, as an island's -/
noncomputable def plM (b : Int) (e : Nat) (l : List D) (xs : List Int) (v : Nat) : Int := plc e l (lnA 1 b xs l) (v : Nat)
noncomputable def rdM (b : Int) (e : Nat) (l : List D) (xs : List Int) (k : Nat) : Int := if k ∈ chs e l then wsum (lnA 1 b xs l) (brg e l k) / b else 0
theorem RowsAt.snoc {gs : List (List Int)} {S S' : Store} {lo r : Nat} {rs : List Nat} {g : List Int} (h : RowsAt gs S lo rs) (kp : ∀ m o, lo ≤ m → S[m]? = some o → S'[m]? = some o) (hr : lo ≤ r) (hg : S'[r]? = some (.lst (g.map D.int))) : RowsAt (gs ++ [g]) S' lo (rs ++ [r]) := by
  obtain ⟨h1, h2, h3⟩ := h
  refine ⟨by simp [h1], fun x hx => ?_, fun j g' r' a c => ?_⟩
  · rcases List.mem_append.mp hx with z | z
    · exact h2 x z
    · rw [List.mem_singleton.mp z]
      exact hr
  · by_cases z : j < gs.length
    · rw [List.getElem?_append_left z] at a
      rw [List.getElem?_append_left (by omega)] at c
      exact kp _ _ (h2 r' (List.mem_of_getElem? c)) (h3 j g' r' a c)
    · rw [List.getElem?_append_right (by omega)] at a
      rw [List.getElem?_append_right (by omega), h1] at c
      have j0 : j - gs.length = 0 := by
        have := (List.getElem?_eq_some_iff.mp a).1
        simp at this
        omega
      rw [j0] at a c
      simp at a c
      subst a
      subst c
      exact hg
theorem Src.od {S S' : Store} {n : Nat} {k : Int} (h : Src S n k) (o : Od S S') : Src S' n k := by
  obtain ⟨a, c, d, e, h1, h2⟩ := h
  exact ⟨a, c, d, e, o.get h1, h2⟩
theorem RowsAt.od {gs : List (List Int)} {S S' : Store} {lo : Nat} {rs : List Nat} (g : RowsAt gs S lo rs) (h : Od S S') : RowsAt gs S' lo rs := ⟨g.1, g.2.1, fun j x r a c => h.get (g.2.2 j x r a c)⟩
theorem Kn.ag {S S' : Store} {n : Nat} {d : D} (h : Kn S d) (hn : ∀ m, d = .ref m → m ≠ n) (u : Ag S n S') : Kn S' d := by
  obtain ⟨t, h1, h2⟩ := h
  refine ⟨t, ?_, h2⟩
  cases d with
  | ref m =>
    simp only [tyK] at h1 ⊢
    cases hm : S[m]? with
    | none => rw [hm] at h1; cases h1
    | some o => rw [ag_get u hm (hn m rfl)]; rw [hm] at h1; exact h1
  | _ => exact h1
/-- a thing of a known kind, no list of the source's -/
def KnN (S : Store) (n : Nat) (d : D) : Prop := Kn S d ∧ ∀ m, d = .ref m → m ≠ n
theorem KnN.ag {S S' : Store} {n : Nat} {d : D} (h : KnN S n d) (u : Ag S n S') : KnN S' n d := ⟨h.1.ag h.2 u, h.2⟩
theorem KnN.int {S : Store} {n : Nat} (i : Int) : KnN S n (.int i) := ⟨kn_int S i, fun m h => by cases h⟩
/-- a thing handed in for a move -/
inductive Mv (S : Store) (n : Nat) : D → Prop
  | tup {its : List D} {up : D} : (∀ i ∈ its, KnN S n i) → KnN S n up → its.length ≤ 40 → Mv S n (.tup [.tup its, up])
  | blk {r : Nat} {ys : List D} {up : D} : S[r]? = some (.lst ys) → r ≠ n → KnN S n up → Mv S n (.tup [.ref r, up])
  | lst {r : Nat} {ys : List D} : S[r]? = some (.lst ys) → r ≠ n → Mv S n (.ref r)
theorem Mv.ag {S S' : Store} {n : Nat} {d : D} (h : Mv S n d) (u : Ag S n S') : Mv S' n d := by
  cases h with
  | tup h1 h2 h3 => exact .tup (fun i hi => (h1 i hi).ag u) (h2.ag u) h3
  | blk h1 h2 h3 => exact .blk (ag_get u h1 h2) h2 (h3.ag u)
  | lst h1 h2 => exact .lst (ag_get u h1 h2) h2
def incB (js : List Int) : Bool := (List.range (js.length - 1)).all fun k => decide (js.getD k 0 < js.getD (k + 1) 0)
def stepX (M b u : Int) (js xs : List Int) : List Int := js.foldl (fun xs j => xs.set j.toNat ((xs.getD j.toNat 0 + u * M) % (b * M))) xs
theorem F2.at {P : D → D → Prop} : ∀ {ds rs : List D} {k : Nat} {r : D}, F2 P ds rs → rs[k]? = some r → ∃ d, ds[k]? = some d ∧ P d r
  | d :: ds, r' :: rs, 0, r, f, h => by
    simp at h
    subst h
    exact ⟨d, rfl, f.1⟩
  | d :: ds, r' :: rs, k + 1, r, f, h => F2.at (k := k) f.2 (by simpa using h)
  | [], [], _, _, _, h => by simp at h
  | [], _ :: _, _, _, f, _ => f.elim
  | _ :: _, [], _, _, f, _ => f.elim
theorem mxI {xs : List Int} (h : xs ≠ []) : maxI xs ∈ xs ∧ ∀ x ∈ xs, x ≤ maxI xs := by
  cases xs with
  | nil => exact absurd rfl h
  | cons a xs =>
    obtain ⟨⟨h1, h2⟩, h3⟩ := fold_max xs a
    exact ⟨h3, fun x hx => (List.mem_cons.mp hx).elim (fun e => e ▸ h1) (h2 x)⟩
/-- whole beats by which a piece is brought below -/
def kp (b : Int) (r : List Int) (m : Int) : Int := (m - maxI r) / b * b
/-- rows of anything -/
def RowsD (gs : List (List D)) (S : Store) (lo : Nat) (rs : List Nat) : Prop := rs.length = gs.length ∧ (∀ r ∈ rs, lo ≤ r) ∧ ∀ (j : Nat) g r, gs[j]? = some g → rs[j]? = some r → S[r]? = some (.lst g)
theorem RowsD.od {gs : List (List D)} {S S' : Store} {lo : Nat} {rs : List Nat} (g : RowsD gs S lo rs) (h : Od S S') : RowsD gs S' lo rs := ⟨g.1, g.2.1, fun j x r a c => h.get (g.2.2 j x r a c)⟩
theorem RowsD.snoc {gs : List (List D)} {S S' : Store} {lo r : Nat} {rs : List Nat} {g : List D} (h : RowsD gs S lo rs) (kp : ∀ m o, lo ≤ m → S[m]? = some o → S'[m]? = some o) (hr : lo ≤ r) (hg : S'[r]? = some (.lst g)) : RowsD (gs ++ [g]) S' lo (rs ++ [r]) := by
  obtain ⟨h1, h2, h3⟩ := h
  refine ⟨by simp [h1], fun x hx => ?_, fun j g' r' a c => ?_⟩
  · rcases List.mem_append.mp hx with z | z
    · exact h2 x z
    · rw [List.mem_singleton.mp z]
      exact hr
  · by_cases z : j < gs.length
    · rw [List.getElem?_append_left z] at a
      rw [List.getElem?_append_left (by omega)] at c
      exact kp _ _ (h2 r' (List.mem_of_getElem? c)) (h3 j g' r' a c)
    · rw [List.getElem?_append_right (by omega)] at a
      rw [List.getElem?_append_right (by omega), h1] at c
      have j0 : j - gs.length = 0 := by
        have := (List.getElem?_eq_some_iff.mp a).1
        simp at this
        omega
      rw [j0] at a c
      simp at a c
      subst a
      subst c
      exact hg
/-- the moments a place stands for -/
noncomputable def plX (b : Int) (e : Nat) (l : List D) (xs : List Int) (v : Nat) : Int := plM b e l xs v + xs.getD (fst e l (v : Nat)).toNat 0
def tops (e : Nat) (f : Nat → Int) : List Int := (List.range e).map f ++ [0]
theorem PlS.fn {l : List D} {R s t : Nat → Int} (h : PlS b e l R s) (he : ∀ v, s v = t v) : PlS b e l R t := by
  have : s = t := funext he
  rwa [← this]
open PySem.W (dataLt AlikeAll alike alikeAll)
/-- the changes, a move more -/
def addC (u : Int) (js c : List Int) : List Int := js.foldl (fun c j => c.set j.toNat (c.getD j.toNat 0 + u)) c
theorem getD_set {l : List Int} {i k : Nat} {x : Int} (h : i < l.length) : (l.set i x).getD k 0 = if k = i then x else l.getD k 0 := by
  rw [List.getD_eq_getElem?_getD, List.getD_eq_getElem?_getD]
  split
  · rename_i z
    rw [z, List.getElem?_set_self h]
    rfl
  · rename_i z
    rw [List.getElem?_set_ne (Ne.symm z)]
/-- X is xs and the changes -/
def Rep (M b : Int) (xs c X : List Int) : Prop := X.length = xs.length ∧ c.length = xs.length ∧ ∀ k : Nat, k < xs.length → X.getD k 0 = (xs.getD k 0 + c.getD k 0 * M) % (b * M)
theorem Rep.step {xs : List Int} {u : Int} : ∀ {js c X : List Int}, Rep M b xs c X → (∀ j ∈ js, 0 ≤ j ∧ j < (xs.length : Nat)) → Rep M b xs (addC u js c) (stepX M b u js X)
  | [], _, _, h, _ => h
  | j :: js, c, X, h, hj => by
    obtain ⟨j0, j1⟩ := hj j List.mem_cons_self
    obtain ⟨h1, h2, h3⟩ := h
    have r1 : Rep M b xs (c.set j.toNat (c.getD j.toNat 0 + u)) (X.set j.toNat ((X.getD j.toNat 0 + u * M) % (b * M))) := by
      refine ⟨by rw [List.length_set]; exact h1, by rw [List.length_set]; exact h2, fun k hk => ?_⟩
      rw [getD_set (by omega), getD_set (by omega)]
      by_cases z : k = j.toNat
      · rw [if_pos z, if_pos z, h3 j.toNat (by omega), z, Int.emod_add_emod, Int.add_mul, Int.add_assoc]
      · rw [if_neg z, if_neg z]
        exact h3 k hk
    have := Rep.step (u := u) (js := js) r1 fun i hi => hj i (List.mem_cons_of_mem _ hi)
    unfold addC stepX at this ⊢
    rw [List.foldl_cons, List.foldl_cons]
    exact this
/-- how far the changes pull a span -/
def dC (c : List Int) (d : D) : Int := c.getD (eJ d).toNat 0 - c.getD (eI d).toNat 0
def FitC (M b : Int) (xs c : List Int) (d : D) : Prop := loD d * M ≤ lnOf M b xs d + dC c d * M ∧ lnOf M b xs d + dC c d * M ≤ hiOf d * M
abbrev Wk := List Int × Int
def mvD (w : Wk) : D := .tup [.tup (w.1.map D.int), .int w.2]
def cs_ (e : Nat) (W : List Wk) : List Int := W.foldl (fun c w => addC w.2 w.1 c) (List.replicate e 0)
/-- a move that may be made -/
structure OkW (e : Nat) (w : Wk) : Prop where
  ne : w.1 ≠ []
  rg : ∀ j ∈ w.1, 0 ≤ j ∧ j < (e : Nat)
  inc : incB w.1 = true
  up : w.2 = 1 ∨ w.2 = -1
theorem inc_lt {js : List Int} (h : incB js = true) : ∀ {j i : Nat}, i < j → j < js.length → js.getD i 0 < js.getD j 0
  | 0, i, h1, _ => by omega
  | j + 1, i, h1, h2 => by
    have hs : js.getD j 0 < js.getD (j + 1) 0 := by
      unfold incB at h
      rw [List.all_eq_true] at h
      exact of_decide_eq_true (h j (List.mem_range.mpr (by omega)))
    by_cases z : i = j
    · rw [z]; exact hs
    · have := inc_lt h (j := j) (i := i) (by omega) (by omega)
      omega
theorem OkW.len {w : Wk} (h : OkW e w) (he : e ≤ 24) : w.1.length ≤ 40 := by
  rcases Nat.lt_or_ge 40 w.1.length with z | z
  · exfalso
    have key : ∀ k : Nat, k < w.1.length → (k : Int) ≤ w.1.getD k 0 := fun k => by
      induction k with
      | zero =>
        intro hk
        rw [List.getD_eq_getElem?_getD, List.getElem?_eq_getElem hk]
        exact (h.rg _ (List.getElem_mem hk)).1
      | succ k ih =>
        intro hk
        have := ih (by omega)
        have := inc_lt h.inc (show k < k + 1 by omega) hk
        omega
    have k40 := key 40 z
    rw [List.getD_eq_getElem?_getD, List.getElem?_eq_getElem z] at k40
    have := (h.rg _ (List.getElem_mem z)).2
    simp at k40
    omega
  · exact z
theorem OkW.mv {S : Store} {n : Nat} {w : Wk} (h : OkW e w) (he : e ≤ 24) : Mv S n (mvD w) := .tup (fun i hi => by obtain ⟨z, _, rfl⟩ := List.mem_map.mp hi; exact KnN.int z) (KnN.int _) (by rw [List.length_map]; exact h.len he)
theorem is_ev {S : Store} {l : List D} {d : D} (h : Kn S d) : f_is_event [net b (e : Nat) l, d] S = .ok (.bl (evB e d)) S := by
  have q1 := fun S => fn_ev (S := S) (b := b) (e := (e : Nat)) (ds := l)
  refine Wr.eq (w_def ?_)
  unfold b_is_event
  cases hi : isInt d with
  | false =>
    have h1 := below_any (l := (e : Nat)) h hi
    push_cast [q1, h1]
    rw [evB_no hi]
    exact w_gc_take (by simp [D.cl]) Od.refl.take ⟨rfl, rfl⟩
  | true =>
    cases d with
    | int i =>
      have h1 := below (S := S) (l := (e : Nat)) (i := i)
      push_cast [q1, h1]
      exact w_gc_take (by simp [D.cl]) Od.refl.take ⟨rfl, rfl⟩
    | _ => cases hi
/-- the moments at the end -/
def finX (M b : Int) (xs c : List Int) : List Int := (List.range xs.length).map fun k => (xs.getD k 0 + c.getD k 0 * M) % (b * M)
open Classical in
/-- by how much a walk moves an event -/
def cn (W : List Wk) (v : Nat) : Int := (W.map fun w => if ((v : Nat) : Int) ∈ w.1 then w.2 else 0).sum
/-- a walk: all its moves are moves, none breaks a span, and so it ends -/
structure Walk (b : Int) (e : Nat) (l : List D) (xs : List Int) (W : List Wk) (ys : List Int) : Prop where
  ok : ∀ w ∈ W, OkW e w
  pl : ∀ i, i ≤ W.length → PlS b e l (rdM b e l xs) (fun v => plX b e l xs v + cn (W.take i) v)
  fin : ∀ v, v < e → ys.getD v 0 = (xs.getD v 0 + cn W v) % b
  yl : ys.length = e
def Tw0 (b : Int) (e : Nat) (xs rs : List Int) (d : D) : Prop := spanB b (e : Nat) d = true ∧ ∃ y t : Int, (∃ c, xs.getD (eJ d).toNat 0 - xs.getD (eI d).toNat 0 = y + c * b) ∧ rs.getD (eJ d).toNat 0 - rs.getD (eI d).toNat 0 = t ∧ loD d ≤ y ∧ y ≤ hiOf d ∧ loD d ≤ y + t ∧ y + t ≤ hiOf d
structure Tw0I (b : Int) (e n mo ri p oo : Nat) (xs rs : List Int) (od : List D) (S0 : Store) (K : Int) (m : Nat) (S : Store) : Prop where
  src : Src S n K
  ho : S[oo]? = some (.lst od)
  row : ∃ l, S[p]? = some (.lst l) ∧ (∀ d ∈ l, Tw0 b e xs rs d) ∧ l.Nodup ∧ l.length ≤ m
  ag : Ag S0 n S
  len : S0.length + 2 ≤ S.length
theorem Tw0I.ch {n mo ri p oo : Nat} {xs rs : List Int} {od : List D} {S0 S S' : Store} {K K' : Int} {m : Nat} (h : Tw0I b e n mo ri p oo xs rs od S0 K m S) (u : Ag S n S') (s : Src S' n K') (pn : p ≠ n) (on : oo ≠ n) : Tw0I b e n mo ri p oo xs rs od S0 K' m S' := by
  obtain ⟨l, l1, l2⟩ := h.row
  exact ⟨s, ag_get u h.ho on, ⟨l, ag_get u l1 pn, l2⟩, h.ag.trans u, Nat.le_trans h.len u.1⟩
theorem third {r s p : Int} (hp : 0 ≤ p ∧ p < 4) : (r ≤ s → 0 ≤ s * p / 3 - r * p / 3 ∧ s * p / 3 - r * p / 3 ≤ s - r) ∧ (s ≤ r → s - r ≤ s * p / 3 - r * p / 3 ∧ s * p / 3 - r * p / 3 ≤ 0) := by
  have c : p = 0 ∨ p = 1 ∨ p = 2 ∨ p = 3 := by omega
  rcases c with rfl | rfl | rfl | rfl <;> constructor <;> intro h <;> omega
/-- each piece's rises, shifted -/
theorem Ag.of_od {S S' : Store} {n : Nat} (h : Od S S') : Ag S n S' := ⟨h.1, fun m hm _ => h.2 m hm⟩
/-- what the walk keeps -/
structure WkI (M b : Int) (e : Nat) (xs : List Int) (l : List D) (mv st : Nat) (W : List Wk) (br : D) (S : Store) : Prop where
  hmv : S[mv]? = some (.lst (W.map mvD))
  hst : ∃ rs : List Nat, S[st]? = some (.lst (rs.map D.ref)) ∧ rs.length = W.length + 1 ∧ ∀ k r, rs[k]? = some r → S[r]? = some (.lst ((finX M b xs (cs_ e (W.take k))).map D.int)) ∧ r ≠ mv ∧ r ≠ st
  okW : ∀ w ∈ W, OkW e w
  fit : ∀ i, i ≤ W.length → ∀ d ∈ l, FitC M b xs (cs_ e (W.take i)) d
  br : br = .non ∨ ∃ (at_ : Nat) (w : Wk), br = .tup [.int (at_ : Nat), mvD w] ∧ at_ ≤ W.length ∧ OkW e w ∧ ¬ ∀ d ∈ l, FitC M b xs (addC w.2 w.1 (cs_ e (W.take at_))) d
theorem WkI.mono {xs : List Int} {l : List D} {mv st : Nat} {W : List Wk} {br : D} {S S' : Store} (h : WkI M b e xs l mv st W br S) (k : ∀ (m : Nat) (o : Ob), S[m]? = some o → S'[m]? = some o) : WkI M b e xs l mv st W br S' := by
  obtain ⟨rs, h1, h2, h3⟩ := h.hst
  exact ⟨k _ _ h.hmv, ⟨rs, k _ _ h1, h2, fun i r hr => ⟨k _ _ (h3 i r hr).1, (h3 i r hr).2⟩⟩, h.okW, h.fit, h.br⟩
theorem Pt.app {S T : Store} {d : D} (h : Pt S d) : Pt (S ++ T) d := Or.imp (fun z => z) (fun z => Odd.app z) h
/-! counts -/
theorem Od.ag {S S' S'' : Store} {n : Nat} (h : Od S S') (a : Ag S' n S'') (hn : S.length ≤ n) : Od S S'' := ⟨Nat.le_trans h.1 a.1, fun m hm => by rw [a.2 m (Nat.lt_of_lt_of_le hm h.1) (by omega), h.2 m hm]⟩
/-! each ring's numbers -/
/-! the law's own count of rounds -/
end Mi_k25

set_option linter.all false
set_option autoImplicit false
set_option maxRecDepth 100000
set_option maxHeartbeats 4000000
namespace Mi_k25
open PySem Lk L2
/-- a source of draws -/
def Src5 (S : Store) (n : Nat) (a b c d e : Int) : Prop := S[n]? = some (.lst [.int a, .int b, .int c, .int d, .int e])
def Sr (S : Store) (n : Nat) (k : Int) : Prop := ∃ a b c d e, Src5 S n a b c d e ∧ (0 ≤ b ∧ b < 2147483648) ∧ (0 ≤ c ∧ c < 2147483648) ∧ (0 ≤ d ∧ d ≤ 1000) ∧ 0 ≤ e ∧ e ≤ k
theorem Sr.mono {S : Store} {n : Nat} {k k' : Int} (h : Sr S n k) (hk : k ≤ k') : Sr S n k' := by
  obtain ⟨a, b, c, d, e, h1, h2, h3, h4, h5, h6⟩ := h
  exact ⟨a, b, c, d, e, h1, h2, h3, h4, h5, by omega⟩
theorem Sr.lt {S : Store} {n : Nat} {k : Int} (h : Sr S n k) : n < S.length := by
  obtain ⟨a, b, c, d, e, h1, _⟩ := h
  exact (List.getElem?_eq_some_iff.mp h1).1
theorem Sr.app {S T : Store} {n : Nat} {k : Int} (h : Sr S n k) : Sr (S ++ T) n k := by
  have hn := h.lt
  obtain ⟨a, b, c, d, e, h1, r⟩ := h
  refine ⟨a, b, c, d, e, ?_, r⟩
  unfold Src5
  rw [List.getElem?_append_left hn]
  exact h1
theorem Sr.ag {S S' : Store} {n m : Nat} {k : Int} (h : Sr S n k) (u : Ag S m S') (hn : n ≠ m) : Sr S' n k := by
  have hl := h.lt
  obtain ⟨a, b, c, d, e, h1, r⟩ := h
  exact ⟨a, b, c, d, e, by unfold Src5; rw [u.2 n hl hn]; exact h1, r⟩
theorem Sr.od {S S' : Store} {n : Nat} {k : Int} (h : Sr S n k) (u : Od S S') : Sr S' n k := by
  have hl := h.lt
  obtain ⟨a, b, c, d, e, h1, r⟩ := h
  exact ⟨a, b, c, d, e, by unfold Src5; rw [u.2 n hl]; exact h1, r⟩
theorem fl31 {x : Int} : 0 ≤ fmd x 2147483647 ∧ fmd x 2147483647 < 2147483647 := by
  rw [fmd_p (by decide)]
  exact ⟨Int.emod_nonneg _ (by decide), Int.emod_lt_of_pos _ (by decide)⟩
theorem fl29 {x : Int} : 0 ≤ fmd x 2147483629 ∧ fmd x 2147483629 < 2147483629 := by
  rw [fmd_p (by decide)]
  exact ⟨Int.emod_nonneg _ (by decide), Int.emod_lt_of_pos _ (by decide)⟩
theorem bk1 {x y : Int} (h1 : 0 ≤ x ∧ x ≤ 100000000000000) (h2 : 0 ≤ y ∧ y ≤ 100000000000000) : bits x + bits y < 1000000 := by
  have := bs h1.1 h1.2
  have := bs h2.1 h2.2
  omega
theorem bk9 {y : Int} (h2 : 0 ≤ y ∧ y ≤ 100000000000000) : bits y < 9000 := bs h2.1 h2.2
theorem dr_w {S : Store} {n : Nat} {k m : Int} (h : Sr S n k) (hk : k < 100000) (hm : 0 < m) (hm2 : bits m < 9000) : Wr (f__law_draw [.ref n, .int m] S) (fun d S' => ∃ r, d = .int r ∧ 0 ≤ r ∧ r < m ∧ Sr S' n (k + 1) ∧ Ch S n S') noX := by
  have nl := h.lt
  obtain ⟨a, b, c, d, e, h1, hb, hc, hd, he0, hek⟩ := h
  unfold Src5 at h1
  have mz : ¬ m = 0 := by omega
  have fm := fun z => fmd_p (i := z) hm
  have i5 : ∀ x y z w v : D, atI [x, y, z, w, v] 0 = some x ∧ atI [x, y, z, w, v] 1 = some y ∧ atI [x, y, z, w, v] 2 = some z ∧ atI [x, y, z, w, v] 3 = some w ∧ atI [x, y, z, w, v] 4 = some v := fun _ _ _ _ _ => ⟨rfl, rfl, rfl, rfl, rfl⟩
  have x0 := fun x y z w v => (i5 x y z w v).1
  have x1 := fun x y z w v => (i5 x y z w v).2.1
  have x2 := fun x y z w v => (i5 x y z w v).2.2.1
  have x3 := fun x y z w v => (i5 x y z w v).2.2.2.1
  have x4 := fun x y z w v => (i5 x y z w v).2.2.2.2
  refine w_def ?_
  unfold b__law_draw
  refine ws_seq ?_
  by_cases ca : 0 < a
  · push_cast [h1, x0, ca, decide_true]
    refine ws_seq ?_
    push_cast [h1, x0, mz]
    refine ws_seq ?_
    push_cast [h1, x0, mz]
    refine ⟨hm2, 0, rfl, ?_⟩
    refine w_gc_len (by simp) ⟨_, rfl, by rw [fm]; exact Int.emod_nonneg _ mz, by rw [fm]; exact Int.emod_lt_of_pos _ hm, ⟨fdv a m, b, c, d, e, ?_, hb, hc, hd, he0, by omega⟩, _, rfl⟩
    unfold Src5
    rw [List.getElem?_set_self nl]
    rfl
  · push_cast [h1, x0, ca, decide_false]
    refine ws_seq ?_
    push_cast [h1, x4]
    refine ⟨4, rfl, ?_⟩
    have hS : (S.set n (Ob.lst ([D.int a, .int b, .int c, .int d, .int e].set 4 (.int (e + 1)))))[n]? = some (.lst [.int a, .int b, .int c, .int d, .int (e + 1)]) := by
      rw [List.getElem?_set_self nl]
      rfl
    generalize hS' : S.set n (Ob.lst ([D.int a, .int b, .int c, .int d, .int e].set 4 (.int (e + 1)))) = S' at hS ⊢
    have b1 : bits 7919 + bits d < 1000000 := bk1 (by omega) (by omega)
    have b2 : bits 104729 + bits (e + 1) < 1000000 := bk1 (by omega) (by omega)
    have b3 : bits (b + c + 7919 * d + 104729 * (e + 1)) + bits 48271 < 1000000 := bk1 (by omega) (by omega)
    have n1 : ¬ (2147483647 : Int) = 0 := by decide
    have n2 : ¬ (2147483399 : Int) = 0 := by decide
    refine ws_seq ?_
    push_cast [hS, x1, x2, x3, x4, b1, b2, b3, n1]
    obtain ⟨y, hy⟩ : ∃ y, y = fmd ((b + c + 7919 * d + 104729 * (e + 1)) * 48271) 2147483647 := ⟨_, rfl⟩
    have yb := fl31 (x := (b + c + 7919 * d + 104729 * (e + 1)) * 48271)
    rw [← hy] at yb ⊢
    have n3 : ¬ (1009 : Int) = 0 := by decide
    have n4 : ¬ (2003 : Int) = 0 := by decide
    have n5 : ¬ (16 : Int) = 0 := by decide
    have b4 : bits 1009 < 9000 := bk9 (by omega)
    have b5 : bits 2003 < 9000 := bk9 (by omega)
    have b6 : bits 16 < 9000 := bk9 (by omega)
    have f1 := fun z => fdv_pos (i := z) (show (0 : Int) < 1009 by decide)
    have f2 := fun z => fdv_pos (i := z) (show (0 : Int) < 2003 by decide)
    have f3 := fun z => fdv_pos (i := z) (show (0 : Int) < 16 by decide)
    have b7 : bits y + bits (y / 1009 + 69621) < 1000000 := bk1 (by omega) (by omega)
    refine ws_seq ?_
    push_cast [n3, b4, f1, b7, n1]
    obtain ⟨z, hz⟩ : ∃ z, z = fmd (y * (y / 1009 + 69621)) 2147483647 := ⟨_, rfl⟩
    have zb := fl31 (x := y * (y / 1009 + 69621))
    rw [← hz] at zb ⊢
    have b8 : bits z + bits (z / 2003 + 40692) < 1000000 := bk1 (by omega) (by omega)
    refine ws_seq ?_
    push_cast [n4, b5, f2, b8, n2]
    push_cast [n5, b6, f3, mz, fm]
    have hl : S'.length = S.length := by rw [← hS', List.length_set]
    refine w_gc_len hl ⟨_, rfl, Int.emod_nonneg _ mz, Int.emod_lt_of_pos _ hm, ⟨a, b, c, d, e + 1, hS, hb, hc, hd, by omega, by omega⟩, ⟨_, hS'.symm⟩⟩
end Mi_k25

set_option linter.all false
set_option autoImplicit false
set_option maxRecDepth 100000
set_option maxHeartbeats 4000000
namespace Mi_k25
open PySem Lk L2
section
variable {Q : D → Store → Prop} {X : XP} {P : Po}
theorem v_slL {ds : List D} {l h : Option Int} {S : Store} : Wr (gSl (.rol ds) l h S) Q X = Q (.ref S.length) (S ++ [.lst (cutD ds l h)]) := wr_def
theorem p18 (S : Store) : Lk.gPow (.int 10) (.int 18) S = .ok (.int 1000000000000000000) S := pow1018 S
theorem src_w {ns : List Int} (hl : ns.length ≤ 63) {k : Nat} (hk : k ≤ 100) {S : Store} : Wr (f__law_source [.rol (ns.map D.int), .int (k : Nat)] S) (fun d S' => ∃ n, d = .ref n ∧ S.length ≤ n ∧ Sr S' n 0 ∧ Od S S') noX := by
  have n1 : ¬ (2147483647 : Int) = 0 := by decide
  have n2 : ¬ (2147483629 : Int) = 0 := by decide
  have ct : cutD (ns.map D.int) none (some 63) = ns.map D.int := by
    rw [cut_take (by decide)]
    exact List.take_of_length_le (by rw [List.length_map]; exact hl)
  have lr : ∀ S : Store, Wr (gLen [.rol (ns.map D.int)] S) (fun d S' => d = .int (ns.length : Nat) ∧ S' = S) noX := fun S => by
    rw [v_lenL]
    simp
  refine w_def ?_
  unfold b__law_source
  refine ws_seq ?_
  push_cast []
  refine ws_seq ?_
  push_cast [v_slL, ct, last1]
  refine w_for (I := fun _ env S' => S' = S ++ [.lst (ns.map D.int)] ∧ ∃ y w3, (0 ≤ y ∧ y < 2147483648) ∧ env = [some (.rol (ns.map D.int)), some (.int (k : Nat)), some (.int y), w3, none]) ?_ ?_ ?_
  · exact ⟨rfl, 7, none, by decide, rfl⟩
  · rintro i d env S' hd ⟨rfl, y, w3, yb, rfl⟩
    obtain ⟨x, hx, rfl⟩ := List.mem_map.mp (List.mem_of_getElem? hd)
    refine ⟨last1, ?_⟩
    have b1 : bits y + bits 48271 < 1000000 := bk1 (by omega) (by omega)
    push_cast [b1, n1, n2]
    have := fl31 (x := y * 48271 + fmd x 2147483629 + 1)
    exact ⟨_, _, ⟨this.1, by omega⟩, rfl⟩
  · rintro env S' ⟨rfl, y, w3, yb, rfl⟩
    refine ⟨last1, ?_⟩
    have fin : ∀ (c : Int) (T : Store), T = S ++ [.lst (ns.map D.int)] → Wr (gc S (.ref T.length) (T ++ [.lst [.int (if 1000000000000000000 ≤ c then c else 0), .int (fmd c 2147483629), .int y, .int ((k : Nat) + 1), .int 0]])) (fun d S' => ∃ n, d = .ref n ∧ S.length ≤ n ∧ Sr S' n 0 ∧ Od S S') noX := fun c T hT => by
      subst hT
      refine w_gc_new (by simp) ⟨_, rfl, by simp, ⟨_, _, _, _, _, last1, ?_, yb, by omega, by omega, by omega⟩, (Od.app).snoc⟩
      have := fl29 (x := c)
      omega
    refine ws_seq ?_
    by_cases z : ((k : Nat) : Int) < (ns.length : Nat)
    · have zl : ((k : Nat) : Int) < (((ns.map D.int).length : Nat)) := by rw [List.length_map]; exact z
      have at_ : atI (ns.map D.int) (k : Nat) = some (.int (ns.getD k 0)) := ys_at (by omega)
      push_cast [zl, decide_true, at_]
      have f := fin (ns.getD k 0) _ rfl
      by_cases y18 : (1000000000000000000 : Int) ≤ ns.getD k 0
      · rw [if_pos y18] at f
        push_cast [p18, y18, decide_true, n2]
        exact f
      · rw [if_neg y18] at f
        push_cast [p18, y18, decide_false, n2]
        exact f
    · have zl : ¬ ((k : Nat) : Int) < (((ns.map D.int).length : Nat)) := by rw [List.length_map]; exact z
      push_cast [zl, decide_false]
      have f := fin (0) _ rfl
      by_cases y18 : (1000000000000000000 : Int) ≤ 0
      · rw [if_pos y18] at f
        push_cast [p18, y18, decide_true, n2]
        exact f
      · rw [if_neg y18] at f
        push_cast [p18, y18, decide_false, n2]
        exact f
/-! permutations -/
structure Pm (e : Nat) (p : List Int) : Prop where
  ln : p.length = e
  rg : ∀ x ∈ p, 0 ≤ x ∧ x < (e : Nat)
  nd : p.Nodup
def rngZ (e : Nat) : List Int := (List.range e).map fun k => ((k : Nat) : Int)
theorem rngZ_pm {e : Nat} : Pm e (rngZ e) := ⟨by simp [rngZ], fun x hx => by
  obtain ⟨k, hk, rfl⟩ := List.mem_map.mp hx
  have := List.mem_range.mp hk
  omega, List.pairwise_map.mpr (List.nodup_range.imp fun h z => h (by omega))⟩
theorem Pm.at {e : Nat} {p : List Int} (h : Pm e p) {x : Int} (h0 : 0 ≤ x) (h1 : x < (e : Nat)) : 0 ≤ p.getD x.toNat 0 ∧ p.getD x.toNat 0 < (e : Nat) := by
  have hl : x.toNat < p.length := by rw [h.ln]; omega
  rw [List.getD_eq_getElem?_getD, List.getElem?_eq_getElem hl]
  exact h.rg _ (List.getElem_mem _)
theorem Pm.inj {e : Nat} {p : List Int} (h : Pm e p) {x y : Int} (h0 : 0 ≤ x) (h1 : x < (e : Nat)) (h2 : 0 ≤ y) (h3 : y < (e : Nat)) (he : p.getD x.toNat 0 = p.getD y.toNat 0) : x = y := by
  have hl : x.toNat < p.length := by rw [h.ln]; omega
  have hl2 : y.toNat < p.length := by rw [h.ln]; omega
  rw [List.getD_eq_getElem?_getD, List.getElem?_eq_getElem hl, List.getD_eq_getElem?_getD, List.getElem?_eq_getElem hl2] at he
  have := (List.getElem_inj h.nd).mp (show p[x.toNat] = p[y.toNat] from he)
  omega
def cmp_ (p q : List Int) : List Int := p.map fun x => q.getD x.toNat 0
theorem Pm.comp {e : Nat} {p q : List Int} (h : Pm e p) (h2 : Pm e q) : Pm e (cmp_ p q) := ⟨by unfold cmp_; rw [List.length_map, h.ln], fun x hx => by
  obtain ⟨y, hy, rfl⟩ := List.mem_map.mp hx
  have := h.rg y hy
  exact h2.at this.1 this.2, by
  unfold cmp_
  refine List.pairwise_map.mpr ?_
  refine (List.pairwise_iff_getElem.mpr fun i j hi hj hij => ?_)
  intro he
  have a := h.rg _ (List.getElem_mem hi)
  have b := h.rg _ (List.getElem_mem hj)
  have := h2.inj a.1 a.2 b.1 b.2 he
  have := (List.getElem_inj h.nd).mp this
  omega⟩
theorem eq_bb {S : Store} {f g : Bool} : gEqZ cs oe (.bl f) (.bl g) S = .ok (.bl (f == g)) S := by
  rw [(Dat.val (show okP 11 (.bl f) = true by rfl)).eqZ (Dat.val (show okP 11 (.bl g) = true by rfl))]
  cases f <;> cases g <;> rfl
theorem clL_ints {n : Nat} : ∀ {zs : List Int}, clL n (zs.map D.int) = true
  | [] => rfl
  | z :: zs => by simp only [List.map_cons, clL, D.cl, Bool.true_and]; exact clL_ints
/-- a likeness as the law draws it: an order of the events, a flag -/
def lkD_ (p : List Int) (f : Bool) : D := .tup [.tup (p.map D.int), .bl f]
theorem both_ok {S : Store} {e : Nat} {p q : List Int} {f g : Bool} (hp : Pm e p) (hq : Pm e q) (he : e ≤ 60) : f__law_both [lkD_ p f, lkD_ q g] S = .ok (lkD_ (cmp_ p q) (f == g)) S := by
  have c0 : ∀ x y : D, atI [x, y] 0 = some x := fun _ _ => rfl
  have c1 : ∀ x y : D, atI [x, y] 1 = some y := fun _ _ => rfl
  refine Wr.eq (w_def ?_)
  unfold b__law_both lkD_
  push_cast [c0]
  refine w_lcM (fun d => match d with | .int x => .int (q.getD x.toNat 0) | d => d) (fun _ => trivial) (by rw [List.length_map, hp.ln]; have := lim_16; omega) ?_ ?_
  · intro d hd a
    obtain ⟨x, hx, rfl⟩ := List.mem_map.mp hd
    have := hp.rg x hx
    have at_ : atI (q.map D.int) x = some (.int (q.getD x.toNat 0)) := by
      obtain ⟨n, rfl⟩ : ∃ n : Nat, x = (n : Nat) := ⟨x.toNat, by omega⟩
      exact ys_at (by rw [hq.ln]; omega)
    refine ⟨_, rfl, ?_⟩
    push_cast [setL, c0, at_]
  · have eb := fun S => eq_bb (S := S) (f := f) (g := g)
    push_cast [last1, c1, eb]
    have em : (p.map D.int).map (fun d => match d with | .int x => D.int (q.getD x.toNat 0) | d => d) = (cmp_ p q).map D.int := by
      unfold cmp_
      rw [List.map_map, List.map_map]
      rfl
    rw [em]
    exact w_gc_take (by simp [D.cl, clL, clL_ints]) Od.app.take ⟨rfl, rfl⟩
end
end Mi_k25

set_option linter.all false
set_option autoImplicit false
set_option maxRecDepth 100000
set_option maxHeartbeats 4000000
namespace Mi_k25
open PySem Lk L2
section
variable {Q : D → Store → Prop} {X : XP} {P : Po}
theorem sqi {r : Int} {n : Nat} (h0 : 0 ≤ r) (h1 : r < (n : Nat)) : seqIndex? r n = some r.toNat := by
  unfold seqIndex?
  simp only []
  rw [if_neg (show ¬ r < 0 by omega)]
  simp
  omega
theorem erase_map {α β : Type} {f : α → β} : ∀ {l : List α} {i : Nat}, (l.map f).eraseIdx i = (l.eraseIdx i).map f
  | [], _ => by simp
  | x :: l, 0 => rfl
  | x :: l, i + 1 => by simp only [List.map_cons, List.eraseIdx_cons_succ, erase_map]
theorem erase_perm {α : Type} : ∀ {l : List α} {i : Nat} (h : i < l.length), (l[i] :: l.eraseIdx i).Perm l
  | [], _, h => by simp at h
  | x :: l, 0, _ => .refl _
  | x :: l, i + 1, h => by
    simp only [List.eraseIdx_cons_succ, List.getElem_cons_succ]
    exact (List.Perm.swap _ _ _).trans (.cons _ (erase_perm (by simpa using h)))
theorem rgD_Z {m : Nat} : rgD 0 ((m : Nat) : Int) = (rngZ m).map D.int := rgD_nat
theorem perm_of {m : Nat} {F : List Int} (h : F.Perm (rngZ m)) : Pm m F := ⟨by rw [h.length_eq]; simp [rngZ], fun x hx => rngZ_pm.rg x (h.mem_iff.mp hx), h.nodup_iff.mpr rngZ_pm.nd⟩
theorem perm_w {S : Store} {n m : Nat} {k : Int} (h : Sr S n k) (hk : k < 50000) (hm : m ≤ 60) : Wr (f__law_perm [.ref n, .int (m : Nat)] S) (fun d S' => ∃ q p, d = .ref q ∧ S.length ≤ q ∧ S'[q]? = some (.lst (p.map D.int)) ∧ Pm m p ∧ Sr S' n (k + (m : Nat)) ∧ Ag S n S') noX := by
  have lm := lim_16
  have nl := h.lt
  have bdm : bd ((m : Nat) : Int) := bd_small hm
  have okm := okRg_small (j := (m : Nat)) (by omega) (by omega)
  refine w_def ?_
  unfold b__law_perm
  refine ws_seq ?_
  push_cast [v_lstRg1, okm]
  rw [rgD_Z]
  refine ws_seq ?_
  push_cast []
  obtain ⟨a, ha⟩ : ∃ a, a = S.length := ⟨_, rfl⟩
  have hb : (S ++ [Ob.lst ((rngZ m).map D.int)]).length = a + 1 := by rw [ha]; simp
  rw [hb, ← ha]
  obtain ⟨T, hT⟩ : ∃ T, T = S ++ [Ob.lst ((rngZ m).map D.int)] ++ [Ob.lst []] := ⟨_, rfl⟩
  have ta : T[a]? = some (.lst ((rngZ m).map D.int)) := by rw [hT, ha]; exact app_get last1
  have tb : T[a + 1]? = some (.lst []) := by rw [hT, ← hb]; exact last1
  have odT : Od S T := by rw [hT]; exact Od.app.snoc
  rw [← hT]
  refine ws_seq ?_
  push_cast [bdm, Int.toNat_natCast]
  refine w_for (I := fun j env S' => Ag S n S' ∧ Sr S' n (k + (j : Nat)) ∧ ∃ (F L : List Int) (w4 : Option D), env = [some (.ref n), some (.int (m : Nat)), some (.ref a), some (.ref (a + 1)), w4] ∧ S'[a]? = some (.lst (L.map D.int)) ∧ S'[a + 1]? = some (.lst (F.map D.int)) ∧ (F ++ L).Perm (rngZ m) ∧ F.length = j) ?_ ?_ ?_
  · exact ⟨Ag.of_od odT, (h.od odT).mono (by omega), [], rngZ m, _, rfl, ta, tb, .refl _, rfl⟩
  · rintro j d env S1 hj ⟨ag1, s1, F, L, w4, rfl, ha1, hb1, pm, fl⟩
    refine ⟨trivial, ?_⟩
    have jl : j < m := by
      have := (List.getElem?_eq_some_iff.mp hj).1
      simpa [rngI] using this
    have ll : L.length = m - j := by
      have := pm.length_eq
      rw [List.length_append] at this
      simp [rngZ] at this
      omega
    have len : (((L.map D.int).length : Nat) : Int) = (L.length : Nat) := by rw [List.length_map]
    push_cast [hb1, ha1, len]
    have la := getlt ha1
    have lb := getlt hb1
    refine (dr_w s1 (m := (L.length : Nat)) (by omega) (by omega) (bs (by omega) (by omega))).to ?_
    rintro _ S2 ⟨r, rfl, r0, r1, s2, u2⟩
    have ha2 := ag_get u2.ag ha1 (by omega)
    have hb2 := ag_get u2.ag hb1 (by omega)
    have rl : r.toNat < L.length := by omega
    push_cast [v_popAt, ha2]
    refine ⟨⟨by omega, by omega⟩, r.toNat, by rw [List.length_map]; exact sqi r0 r1, .int L[r.toNat], by rw [List.getElem?_map, List.getElem?_eq_getElem rl]; rfl, ?_⟩
    have hb3 : (S2.set a (.lst ((L.map D.int).eraseIdx r.toNat)))[a + 1]? = some (.lst (F.map D.int)) := by rw [List.getElem?_set_ne (by omega)]; exact hb2
    push_cast [hb3, List.length_map]
    refine ⟨by omega, ?_⟩
    have c2 : Ag S2 a (S2.set a (.lst ((L.map D.int).eraseIdx r.toNat))) := Ch.ag ⟨_, rfl⟩
    have l2 := u2.len
    refine ⟨ag_set (ag_set (ag1.trans u2.ag) (by omega)) (by omega), ?_, F ++ [L[r.toNat]], L.eraseIdx r.toNat, _, rfl, ?_, ?_, ?_, by simp [fl]⟩
    · refine ((s2.ag c2 (by omega)).ag (n := n) (m := a + 1) (Ch.ag ⟨_, rfl⟩) (by omega)).mono (by omega)
    · rw [List.getElem?_set_ne (by omega), List.getElem?_set_self (by have := getlt ha2; omega), erase_map]
    · rw [List.getElem?_set_self (by rw [List.length_set]; have := getlt hb2; omega)]
      simp
    · have e1 : (L[r.toNat] :: L.eraseIdx r.toNat).Perm L := erase_perm rl
      have e2 : (F ++ [L[r.toNat]] ++ L.eraseIdx r.toNat).Perm (F ++ L) := by
        rw [List.append_assoc]
        exact List.Perm.append_left F e1
      exact e2.trans pm
  · rintro env S1 ⟨ag1, s1, F, L, w4, rfl, ha1, hb1, pm, fl⟩
    refine ⟨trivial, ?_⟩
    rw [show (rngI 0 m).length = m by simp [rngI]] at fl s1
    have ll : L = [] := by
      have := pm.length_eq
      rw [List.length_append] at this
      simp [rngZ] at this
      exact List.length_eq_zero_iff.mp (by omega)
    subst ll
    rw [List.append_nil] at pm
    push_cast []
    exact w_gc_new (by omega) ⟨_, F, rfl, by omega, hb1, perm_of pm, s1, ag1⟩
end
end Mi_k25

set_option linter.all false
set_option autoImplicit false
set_option maxRecDepth 100000
set_option maxHeartbeats 4000000
namespace Mi_k25
open PySem Lk L2
section
variable {Q : D → Store → Prop} {X : XP} {P : Po}
abbrev Gnr := List Int × Bool
def gD (g : Gnr) : D := lkD_ g.1 g.2
theorem gD_ok {g : Gnr} : okP 10 (gD g) = true := by
  unfold gD lkD_
  have : okPL 8 (g.1.map D.int) = true := okPL_all fun x hx => by obtain ⟨z, _, rfl⟩ := List.mem_map.mp hx; rfl
  simp [okP, okPL, this]
theorem gDs_ok {G : List Gnr} : okPL 10 (G.map gD) = true := okPL_all fun x hx => by
  obtain ⟨g, _, rfl⟩ := List.mem_map.mp hx
  exact gD_ok
theorem ne_nil {S : Store} {g e : Nat} {L : List D} (h : S[g]? = some (.lst L)) (he : S[e]? = some (.lst [])) (ok : okPL 10 L = true) : gNeX oe (.ref g) (.ref e) S = .ok (.bl (decide (L ≠ []))) S := by
  rw [(Dat.lst h ok).ne (oe := oe) (Dat.lst he rfl)]
  cases L with
  | nil => rfl
  | cons x L => rfl
theorem eq_nil {S : Store} {g e : Nat} {L : List D} (h : S[g]? = some (.lst L)) (he : S[e]? = some (.lst [])) (ok : okPL 10 L = true) : gEqZ cs oe (.ref g) (.ref e) S = .ok (.bl (decide (L = []))) S := by
  rw [(Dat.lst h ok).eqZ (Dat.lst he rfl)]
  cases L with
  | nil => rfl
  | cons x L => rfl
theorem word_w {S : Store} {n g m : Nat} {k : Int} {G : List Gnr} (h : Sr S n k) (hk : k < 50000) (hm : m ≤ 60) (hg : S[g]? = some (.lst (G.map gD))) (gn : g ≠ n) (hG : ∀ x ∈ G, Pm m x.1) (gl : G.length ≤ 10) :
    Wr (f__law_word [.ref n, .ref g, .int (m : Nat)] S) (fun d S' => ∃ p f, d = lkD_ p f ∧ Pm m p ∧ Sr S' n (k + 10) ∧ Ag S n S') noX := by
  have lm := lim_16
  have nl := h.lt
  have lg := getlt hg
  have okm := okRg_small (j := (m : Nat)) (by omega) (by omega)
  refine w_def ?_
  unfold b__law_word
  refine ws_seq ?_
  push_cast [v_tupRg1, okm]
  rw [rgD_Z]
  have fin : ∀ {S' : Store} {p : List Int} {f : Bool}, Pm m p → Sr S' n (k + 10) → Ag S n S' → Wr (gc S (lkD_ p f) S') (fun d S' => ∃ p f, d = lkD_ p f ∧ Pm m p ∧ Sr S' n (k + 10) ∧ Ag S n S') noX := fun {S' p f} a b c => w_gc ⟨p, f, rfl, a, b, c⟩ fun _ _ => ⟨p, f, rfl, a, h.mono (by omega), .refl _ _⟩
  have loop : ∀ (S1 : Store) (cnt : Nat), cnt ≤ 4 → (cnt ≠ 0 → G ≠ []) → Ag S n S1 → Sr S1 n (k + 1) → Ws (forGo (fun _ => True) (gSet 4) (mSet 3 (mCall 2 f__law_both (mCons (mVar 3) (mCons (m2 gIx (mVar 1) (mCall 2 f__law_draw (mCons (mVar 0) (mCons (mB gLen (mCons (mVar 1) mNil)) mNil)))) mNil)))) (rngI 0 cnt) [some (.ref n), some (.ref g), some (.int (m : Nat)), some (lkD_ (rngZ m) true), none] S1)
      ⟨fun e S' => Wr (mVar 3 e S') (fun d S' => Wr (gc S d S') (fun d S' => ∃ p f, d = lkD_ p f ∧ Pm m p ∧ Sr S' n (k + 10) ∧ Ag S n S') noX) (fun C ds S1 => Wr (gcX S C ds S1) (fun d S' => ∃ p f, d = lkD_ p f ∧ Pm m p ∧ Sr S' n (k + 10) ∧ Ag S n S') noX), fun d S' => Wr (gc S d S') (fun d S' => ∃ p f, d = lkD_ p f ∧ Pm m p ∧ Sr S' n (k + 10) ∧ Ag S n S') noX, fun _ _ => False, fun _ _ => False, fun C xs _ S' => Wr (gcX S C xs S') (fun d S' => ∃ p f, d = lkD_ p f ∧ Pm m p ∧ Sr S' n (k + 10) ∧ Ag S n S') noX⟩ := fun S1 cnt c4 cG a1 s1 => by
    refine w_for (I := fun j env S' => Ag S n S' ∧ Sr S' n (k + 1 + (j : Nat)) ∧ ∃ p f w4, Pm m p ∧ env = [some (.ref n), some (.ref g), some (.int (m : Nat)), some (lkD_ p f), w4]) ?_ ?_ ?_
    · exact ⟨a1, s1.mono (by omega), _, _, _, rngZ_pm, rfl⟩
    · rintro j d env S2 hj ⟨a2, s2, p, f, w4, hp, rfl⟩
      refine ⟨trivial, ?_⟩
      have jl : j < cnt := by
        have := (List.getElem?_eq_some_iff.mp hj).1
        simpa [rngI] using this
      have G0 : 0 < G.length := List.length_pos_iff.mpr (cG (by omega))
      have hg2 := ag_get a2 hg gn
      have len : (((G.map gD).length : Nat) : Int) = (G.length : Nat) := by rw [List.length_map]
      push_cast [hg2, len]
      refine (dr_w s2 (m := (G.length : Nat)) (by omega) (by omega) (bs (by omega) (by omega))).to ?_
      rintro _ S3 ⟨r, rfl, r0, r1, s3, u3⟩
      have hg3 := ag_get u3.ag hg2 gn
      have rl : r.toNat < G.length := by omega
      have at_ : atI (G.map gD) r = some (gD G[r.toNat]) := atI_nat r0 (by rw [List.getElem?_map, List.getElem?_eq_getElem rl]; rfl)
      have pg := hG _ (List.getElem_mem rl)
      have bo := both_ok (S := S3) (f := f) (g := G[r.toNat].2) hp pg hm
      have bo : f__law_both [lkD_ p f, gD G[r.toNat]] S3 = _ := bo
      push_cast [hg3, at_, bo]
      exact ⟨a2.trans u3.ag, s3.mono (by omega), _, _, _, hp.comp pg, rfl⟩
    · rintro env S2 ⟨a2, s2, p, f, w4, hp, rfl⟩
      refine ⟨trivial, ?_⟩
      rw [show (rngI 0 cnt).length = cnt by simp [rngI]] at s2
      push_cast []
      exact fin hp (s2.mono (by omega)) a2
  refine ws_seq ?_
  have e0 : (S ++ [Ob.lst []])[S.length]? = some (.lst []) := last1
  have nn := ne_nil (L := G.map gD) (app_get (T := [Ob.lst []]) hg) e0 gDs_ok
  push_cast [nn]
  by_cases z : G = []
  · have b0 : bd 0 := bd_small (n := 0) (by decide)
    rw [if_neg (by simp [z])]
    push_cast [b0]
    exact loop _ 0 (by decide) (fun y => absurd rfl y) (.app _ _ _) (h.app.mono (by omega))
  · rw [if_pos (by simp [z])]
    refine (dr_w h.app (m := 4) (by omega) (by decide) (bs (by decide) (by decide))).to ?_
    rintro _ S2 ⟨r, rfl, r0, r1, s2, u2⟩
    obtain ⟨c, hc⟩ : ∃ c : Nat, 1 + r = (c : Nat) := ⟨(1 + r).toNat, by omega⟩
    have bc : bd ((c : Nat) : Int) := bd_small (by omega)
    push_cast [hc, bc, Int.toNat_natCast]
    exact loop _ c (by omega) (fun _ => z) ((Ag.app _ _ _).trans u2.ag) s2
/-! orbits -/
def act (g : Gnr) (x : Int × Int) : Int × Int := if g.2 = true then (g.1.getD x.1.toNat 0, g.1.getD x.2.toNat 0) else (g.1.getD x.2.toNat 0, g.1.getD x.1.toNat 0)
def prD (x : Int × Int) : D := .tup [.int x.1, .int x.2]
def InP (m : Nat) (x : Int × Int) : Prop := (0 ≤ x.1 ∧ x.1 < (m : Nat)) ∧ (0 ≤ x.2 ∧ x.2 < (m : Nat)) ∧ x.1 ≠ x.2
theorem act_in {m : Nat} {g : Gnr} {x : Int × Int} (hg : Pm m g.1) (h : InP m x) : InP m (act g x) := by
  obtain ⟨⟨a, b⟩, ⟨c, d⟩, e⟩ := h
  unfold act
  have ne := fun z => e (hg.inj a b c d z)
  split
  · exact ⟨hg.at a b, hg.at c d, ne⟩
  · exact ⟨hg.at c d, hg.at a b, fun z => ne z.symm⟩
theorem act_inj {m : Nat} {g : Gnr} {x y : Int × Int} (hg : Pm m g.1) (hx : InP m x) (hy : InP m y) (h : act g x = act g y) : x = y := by
  obtain ⟨⟨a, b⟩, ⟨c, d⟩, e⟩ := hx
  obtain ⟨⟨a', b'⟩, ⟨c', d'⟩, e'⟩ := hy
  unfold act at h
  split at h
  · rw [Prod.mk.injEq] at h
    exact Prod.ext (hg.inj a b a' b' h.1) (hg.inj c d c' d' h.2)
  · rw [Prod.mk.injEq] at h
    exact Prod.ext (hg.inj a b a' b' h.2) (hg.inj c d c' d' h.1)
theorem pr_ok {x : Int × Int} : okP 10 (prD x) = true := rfl
theorem prs_ok {O : List (Int × Int)} : okPL 10 (O.map prD) = true := okPL_all fun x hx => by
  obtain ⟨g, _, rfl⟩ := List.mem_map.mp hx
  exact pr_ok
theorem in_prs {S : Store} {n : Nat} {neg : Bool} {x : Int × Int} {O : List (Int × Int)} (h : S[n]? = some (.lst (O.map prD))) : gInZ neg (prD x) (.ref n) S = .ok (.bl (if neg then !decide (x ∈ O) else decide (x ∈ O))) S := by
  rw [gInZ_dat pr_ok (.inr (.inr ⟨n, rfl, h⟩)) prs_ok rfl]
  have e : ((O.map prD).any fun z => PyData.eqv (toP z) (toP (prD x))) = decide (x ∈ O) := by
    rw [List.any_map]
    have : ∀ y : Int × Int, (fun z => PyData.eqv (toP z) (toP (prD x))) (prD y) = decide (y = x) := fun y => by
      show PyData.eqv (toP (prD y)) (toP (prD x)) = _
      refine eqv_dec rfl rfl ?_
      unfold prD
      simp [Prod.ext_iff]
    have e2 : ((fun z => PyData.eqv (toP z) (toP (prD x))) ∘ prD) = fun y => decide (y = x) := funext this
    rw [e2]
    rw [Bool.eq_iff_iff]
    simp
  rw [e]
end
end Mi_k25

set_option linter.all false
set_option autoImplicit false
set_option maxRecDepth 100000
set_option maxHeartbeats 4000000
namespace Mi_k25
open PySem Lk L2
section
variable {Q : D → Store → Prop} {X : XP} {P : Po}
/-- what a row of pairs keeps while an orbit is gone through -/
structure Orb (m : Nat) (G : List Gnr) (x0 : Int × Int) (O : List (Int × Int)) : Prop where
  nd : O.Nodup
  hd : O[0]? = some x0
  rg : ∀ x ∈ O, InP m x
  ch : ∀ k x, O[k + 1]? = some x → ∃ j y g, j ≤ k ∧ O[j]? = some y ∧ g ∈ G ∧ x = act g y
theorem Orb.one {m : Nat} {G : List Gnr} {x0 : Int × Int} (h : InP m x0) : Orb m G x0 [x0] := ⟨by simp, rfl, by simpa using h, fun k x e => by simp at e⟩
theorem Orb.snoc {m : Nat} {G : List Gnr} {x0 y : Int × Int} {O : List (Int × Int)} {g : Gnr} (h : Orb m G x0 O) (hG : ∀ x ∈ G, Pm m x.1) (hg : g ∈ G) {k : Nat} (hy : O[k]? = some y) (hn : act g y ∉ O) : Orb m G x0 (O ++ [act g y]) := by
  have kl := (List.getElem?_eq_some_iff.mp hy).1
  refine ⟨?_, ?_, fun x hx => ?_, fun j x e => ?_⟩
  · rw [List.nodup_append]
    exact ⟨h.nd, by simp, fun a ha b hb e => hn (by rw [← List.mem_singleton.mp hb, ← e]; exact ha)⟩
  · rw [List.getElem?_append_left (by omega)]
    exact h.hd
  · rcases List.mem_append.mp hx with z | z
    · exact h.rg x z
    · rw [List.mem_singleton.mp z]
      exact act_in (hG g hg) (h.rg y (List.mem_of_getElem? hy))
  · by_cases z : j + 1 < O.length
    · rw [List.getElem?_append_left z] at e
      obtain ⟨i, y', g', h1, h2, h3, h4⟩ := h.ch j x e
      exact ⟨i, y', g', h1, by rw [List.getElem?_append_left (by omega)]; exact h2, h3, h4⟩
    · rw [List.getElem?_append_right (by omega)] at e
      have jl : j + 1 = O.length := by
        have := (List.getElem?_eq_some_iff.mp e).1
        simp at this
        omega
      rw [jl, Nat.sub_self] at e
      cases e
      exact ⟨k, y, g, by omega, by rw [List.getElem?_append_left kl]; exact hy, hg, rfl⟩
theorem Orb.len {m : Nat} {G : List Gnr} {x0 : Int × Int} {O : List (Int × Int)} (h : Orb m G x0 O) : O.length ≤ m * m := by
  have hb : ∀ x ∈ O, 0 ≤ x.1 * m + x.2 ∧ x.1 * m + x.2 < ((m * m : Nat) : Int) := fun x hx => by
    obtain ⟨⟨a, b⟩, ⟨c, d⟩, _⟩ := h.rg x hx
    have h1 : 0 ≤ x.1 * (m : Int) := Int.mul_nonneg a (by omega)
    have h2 : x.1 * (m : Int) ≤ ((m : Int) - 1) * m := Int.mul_le_mul_of_nonneg_right (by omega) (by omega)
    have h3 : ((m : Int) - 1) * m = m * m - m := by rw [Int.sub_mul, Int.one_mul]
    push_cast
    constructor <;> omega
  have := nd_len (m * m) (O.map fun x => x.1 * m + x.2) (by
    refine List.pairwise_map.mpr (h.nd.imp_of_mem fun {x y} hx hy hne e => hne ?_)
    obtain ⟨⟨a, b⟩, ⟨c, d⟩, _⟩ := h.rg x hx
    obtain ⟨⟨a', b'⟩, ⟨c', d'⟩, _⟩ := h.rg y hy
    have e1 : x.1 = y.1 := by
      have q1 : (x.1 * m + x.2) / m = x.1 := by
        rw [Int.add_comm, Int.add_mul_ediv_right _ _ (by omega), Int.ediv_eq_zero_of_lt c d, Int.zero_add]
      have q2 : (y.1 * m + y.2) / m = y.1 := by
        rw [Int.add_comm, Int.add_mul_ediv_right _ _ (by omega), Int.ediv_eq_zero_of_lt c' d', Int.zero_add]
      rw [← q1, ← q2, e]
    exact Prod.ext e1 (by rw [e1] at e; omega)) fun x hx => by
    obtain ⟨y, hy, rfl⟩ := List.mem_map.mp hx
    exact hb y hy
  simpa using this
def Clo_ (G : List Gnr) (O : List (Int × Int)) : Prop := ∀ x ∈ O, ∀ g ∈ G, act g x ∈ O
theorem orbit_w {S : Store} {g m : Nat} {G : List Gnr} {x0 : Int × Int} (hx : InP m x0) (hG : ∀ x ∈ G, Pm m x.1) (hm : m ≤ 12) (hg : S[g]? = some (.lst (G.map gD))) :
    Wr (f__law_orbit [prD x0, .ref g] S) (fun d S' => ∃ q O, d = .ref q ∧ S.length ≤ q ∧ S'[q]? = some (.lst (O.map prD)) ∧ Orb m G x0 O ∧ Clo_ G O ∧ Od S S') noX := by
  have lm := lim_16
  have lg := getlt hg
  refine w_def ?_
  unfold b__law_orbit
  refine ws_seq ?_
  push_cast []
  obtain ⟨q, hq⟩ : ∃ q, q = S.length := ⟨_, rfl⟩
  obtain ⟨T, hT⟩ : ∃ T, T = S ++ [Ob.lst [prD x0]] := ⟨_, rfl⟩
  have tq : T[q]? = some (.lst ([x0].map prD)) := by rw [hT, hq]; exact last1
  have odT : Od S T := by rw [hT]; exact Od.app
  rw [← hT, ← hq]
  have fin : ∀ (S' : Store) (O : List (Int × Int)), Od S S' → S'[q]? = some (.lst (O.map prD)) → Orb m G x0 O → Clo_ G O → Wr (gc S (.ref q) S') (fun d S' => ∃ q O, d = .ref q ∧ S.length ≤ q ∧ S'[q]? = some (.lst (O.map prD)) ∧ Orb m G x0 O ∧ Clo_ G O ∧ Od S S') noX := fun S' O a b c d => w_gc_new (by omega) ⟨q, O, rfl, by omega, b, c, d, a⟩
  subst hq
  refine ws_seq ?_
  have r600 : bd 600 := bd_le (n := 600) (by decide)
  have t600 : (600 : Int).toNat = 600 := rfl
  push_cast [r600, t600]
  refine w_for (I := fun j env S' => Od S S' ∧ ∃ O w3 w4 w5 w6 w7 w8, env = [some (prD x0), some (.ref g), some (.ref S.length), w3, w4, w5, w6, w7, w8] ∧ S'[S.length]? = some (.lst (O.map prD)) ∧ Orb m G x0 O ∧ ∀ i y, i < j → O[i]? = some y → ∀ g ∈ G, act g y ∈ O) ?_ ?_ ?_
  · exact ⟨odT, [x0], _, _, _, _, _, _, rfl, tq, .one hx, fun i y h => by omega⟩
  · rintro j d env S1 hj ⟨od1, O, w3, w4, w5, w6, w7, w8, rfl, h1, ob, pr⟩
    obtain ⟨jl, rfl⟩ := rng_get hj
    refine ⟨trivial, ?_⟩
    push_cast []
    refine ws_seq ?_
    have len : (((O.map prD).length : Nat) : Int) = (O.length : Nat) := by rw [List.length_map]
    by_cases z : O.length ≤ j
    · have z1 : ((O.length : Nat) : Int) ≤ (j : Nat) := by omega
      push_cast [h1, len, z1, decide_true]
      refine fin _ _ od1 h1 ob fun x hx g hg => ?_
      obtain ⟨i, hi⟩ := List.getElem?_of_mem hx
      exact pr i x (by have := (List.getElem?_eq_some_iff.mp hi).1; omega) hi g hg
    · have z1 : ¬ ((O.length : Nat) : Int) ≤ (j : Nat) := by omega
      push_cast [h1, len, z1, decide_false]
      have hg1 := od1.get hg
      have jO : j < O.length := by omega
      obtain ⟨y, hy⟩ : ∃ y, O[j]? = some y := ⟨_, List.getElem?_eq_getElem jO⟩
      push_cast [hg1]
      refine w_for (I := fun i env S' => Od S S' ∧ ∃ O' w4 w5 w6 w7 w8, env = [some (prD x0), some (.ref g), some (.ref S.length), some (.int (j : Nat)), w4, w5, w6, w7, w8] ∧ S'[S.length]? = some (.lst (O'.map prD)) ∧ Orb m G x0 O' ∧ (∀ x ∈ O, x ∈ O') ∧ O'[j]? = some y ∧ (∀ i y, i < j → O'[i]? = some y → ∀ g ∈ G, act g y ∈ O') ∧ ∀ i' g', i' < i → G[i']? = some g' → act g' y ∈ O') ?_ ?_ ?_
      · exact ⟨od1, O, _, _, _, _, _, rfl, h1, ob, fun _ h => h, hy, pr, fun i' g' h => by omega⟩
      · rintro i d env S2 hi ⟨od2, O', w4, w5, w6, w7, w8, rfl, h2, ob', sub, hy', pr', dn⟩
        rw [List.getElem?_map] at hi
        cases hgi : G[i]? with
        | none => rw [hgi] at hi; cases hi
        | some γ =>
          rw [hgi] at hi
          simp only [Option.map_some, Option.some.injEq] at hi
          subst hi
          have γm := List.mem_of_getElem? hgi
          have pγ := hG γ γm
          have iy := ob'.rg y (List.mem_of_getElem? hy')
          refine ⟨od2.get hg, ?_⟩
          unfold gD lkD_
          push_cast []
          have aty : atI (O'.map prD) (j : Nat) = some (prD y) := atI_nat (by omega) (by rw [Int.toNat_natCast, List.getElem?_map, hy']; rfl)
          refine ws_seq ?_
          push_cast [h2, aty]
          unfold prD
          push_cast []
          have at1 : atI (γ.1.map D.int) y.1 = some (.int (γ.1.getD y.1.toNat 0)) := by
            obtain ⟨⟨a, b⟩, _⟩ := iy
            obtain ⟨n, hn⟩ : ∃ n : Nat, y.1 = (n : Nat) := ⟨y.1.toNat, by omega⟩
            rw [hn]
            exact ys_at (by rw [pγ.ln]; omega)
          have at2 : atI (γ.1.map D.int) y.2 = some (.int (γ.1.getD y.2.toNat 0)) := by
            obtain ⟨_, ⟨a, b⟩, _⟩ := iy
            obtain ⟨n, hn⟩ : ∃ n : Nat, y.2 = (n : Nat) := ⟨y.2.toNat, by omega⟩
            rw [hn]
            exact ys_at (by rw [pγ.ln]; omega)
          have im := in_prs (neg := true) (x := act γ y) h2
          have ol := ob'.len
          have mm : m * m ≤ 12 * 12 := Nat.mul_le_mul hm hm
          have q2 := getlt h2
          have A : act γ y ∈ O' → ∀ i' g', i' < i + 1 → G[i']? = some g' → act g' y ∈ O' := fun c i' g' hi' hg' => by
            by_cases e : i' < i
            · exact dn i' g' e hg'
            · have : i' = i := by omega
              rw [this, hgi] at hg'
              cases hg'
              exact c
          have B1 : (O' ++ [act γ y])[j]? = some y := by
            rw [List.getElem?_append_left (List.getElem?_eq_some_iff.mp hy').1]
            exact hy'
          have B2 : ∀ i y', i < j → (O' ++ [act γ y])[i]? = some y' → ∀ g ∈ G, act g y' ∈ O' ++ [act γ y] := fun i y' hi hy2 g hg => by
            rw [List.getElem?_append_left (by have := (List.getElem?_eq_some_iff.mp hy').1; omega)] at hy2
            exact List.mem_append_left _ (pr' i y' hi hy2 g hg)
          have B3 : ∀ i' g', i' < i + 1 → G[i']? = some g' → act g' y ∈ O' ++ [act γ y] := fun i' g' hi' hg' => by
            by_cases e : i' < i
            · exact List.mem_append_left _ (dn i' g' e hg')
            · have : i' = i := by omega
              rw [this, hgi] at hg'
              cases hg'
              simp
          have B4 : (S2.set S.length (.lst (O'.map prD ++ [prD (act γ y)])))[S.length]? = some (.lst ((O' ++ [act γ y]).map prD)) := by
            rw [List.getElem?_set_self q2]
            simp
          refine ws_seq ?_
          cases hf : γ.2 with
          | true =>
            have ea : D.tup [.int (γ.1.getD y.1.toNat 0), .int (γ.1.getD y.2.toNat 0)] = prD (act γ y) := by unfold act prD; rw [hf]; rfl
            push_cast [at1, at2]
            rw [ea]
            by_cases c : act γ y ∈ O'
            · have c1 : (!decide (act γ y ∈ O')) = false := by simp [c]
              push_cast [im, c1]
              exact ⟨od2, O', _, _, _, _, _, rfl, h2, ob', sub, hy', pr', A c⟩
            · have c1 : (!decide (act γ y ∈ O')) = true := by simp [c]
              push_cast [im, c1, h2]
              exact ⟨by rw [List.length_map]; omega, od2.set (Nat.le_refl _), O' ++ [act γ y], _, _, _, _, _, rfl, B4, ob'.snoc hG γm hy' c, fun x hx => List.mem_append_left _ (sub x hx), B1, B2, B3⟩
          | false =>
            have ea : D.tup [.int (γ.1.getD y.2.toNat 0), .int (γ.1.getD y.1.toNat 0)] = prD (act γ y) := by unfold act prD; rw [hf]; rfl
            push_cast [at1, at2]
            rw [ea]
            by_cases c : act γ y ∈ O'
            · have c1 : (!decide (act γ y ∈ O')) = false := by simp [c]
              push_cast [im, c1]
              exact ⟨od2, O', _, _, _, _, _, rfl, h2, ob', sub, hy', pr', A c⟩
            · have c1 : (!decide (act γ y ∈ O')) = true := by simp [c]
              push_cast [im, c1, h2]
              exact ⟨by rw [List.length_map]; omega, od2.set (Nat.le_refl _), O' ++ [act γ y], _, _, _, _, _, rfl, B4, ob'.snoc hG γm hy' c, fun x hx => List.mem_append_left _ (sub x hx), B1, B2, B3⟩
      · rintro env S2 ⟨od2, O', w4, w5, w6, w7, w8, rfl, h2, ob', sub, hy', pr', dn⟩
        rw [List.length_map] at dn
        refine ⟨od2.get hg, od2, O', _, _, _, _, _, _, rfl, h2, ob', fun i y' hi hy2 γ hγ => ?_⟩
        by_cases e : i < j
        · exact pr' i y' e hy2 γ hγ
        · have : i = j := by omega
          rw [this, hy'] at hy2
          cases hy2
          obtain ⟨i', hi'⟩ := List.getElem?_of_mem hγ
          exact dn i' γ (List.getElem?_eq_some_iff.mp hi').1 hi'
  · rintro env S1 ⟨od1, O, w3, w4, w5, w6, w7, w8, rfl, h1, ob, pr⟩
    refine ⟨trivial, ?_⟩
    push_cast []
    have ol := ob.len
    have mm : m * m ≤ 12 * 12 := Nat.mul_le_mul hm hm
    refine fin _ _ od1 h1 ob fun x hx g hg => ?_
    obtain ⟨i, hi⟩ := List.getElem?_of_mem hx
    exact pr i x (by have := (List.getElem?_eq_some_iff.mp hi).1; simp [rngI]; omega) hi g hg
end
end Mi_k25

set_option linter.all false
set_option autoImplicit false
set_option maxRecDepth 100000
set_option maxHeartbeats 4000000
namespace Mi_k25
open PySem Lk L2
section
variable {Q : D → Store → Prop} {X : XP} {P : Po}
theorem window_w {S : Store} {n pr : Nat} {b M k : Int} {rs : List Int} (h : Sr S n k) (hk : k < 50000) (hr : S[pr]? = some (.lst (rs.map D.int))) (pn : pr ≠ n) (r0 : 0 < rs.length) (rl : rs.length ≤ 200) (rb : ∀ x ∈ rs, 0 ≤ x ∧ x < b * M) (b1 : 3 ≤ b) (b2 : b ≤ 1440) (m1 : 1 ≤ M) (m2 : M ≤ 1000) :
    Wr (f__law_window [.ref n, .ref pr, .int b, .int M] S) (fun d S' => Sr S' n (k + 10) ∧ Ag S n S' ∧ (d = .non ∨ ∃ lo hi, d = .tup [.int lo, .int hi] ∧ 0 ≤ lo ∧ lo ≤ hi ∧ hi ≤ 2880 ∧ hi - lo ≤ b - 2)) noX := by
  have lm := lim_16
  have nl := h.lt
  have pl := getlt hr
  have mz : ¬ M = 0 := by omega
  have mb9 : bits M < 9000 := bk9 (by omega)
  have bM : bits b + bits M < 1000000 := bk1 (by omega) (by omega)
  have bM0 : 3 ≤ b * M := by
    have : 3 * 1 ≤ b * M := Int.mul_le_mul b1 m1 (by omega) (by omega)
    omega
  have bMz : ¬ b * M = 0 := by omega
  have fdM := fun z => fdv_pos (i := z) (show 0 < M by omega)
  have fmM := fun z => fmd_p (i := z) (show 0 < b * M by omega)
  have lowb : ∀ x ∈ rs, 0 ≤ x / M ∧ x / M ≤ b - 1 := fun x hx => by
    obtain ⟨x0, x1⟩ := rb x hx
    refine ⟨Int.ediv_nonneg x0 (by omega), ?_⟩
    have := Int.ediv_lt_of_lt_mul (a := x) (b := b) (c := M) (by omega) x1
    omega
  have fin : ∀ (d : D) (S' : Store), d.cl S.length = true → Sr S' n (k + 10) → Ag S n S' → (d = .non ∨ ∃ lo hi, d = .tup [.int lo, .int hi] ∧ 0 ≤ lo ∧ lo ≤ hi ∧ hi ≤ 2880 ∧ hi - lo ≤ b - 2) → Wr (gc S d S') (fun d S' => Sr S' n (k + 10) ∧ Ag S n S' ∧ (d = .non ∨ ∃ lo hi, d = .tup [.int lo, .int hi] ∧ 0 ≤ lo ∧ lo ≤ hi ∧ hi ≤ 2880 ∧ hi - lo ≤ b - 2)) noX := fun d S' _ a c e => w_gc ⟨a, c, e⟩ fun _ _ => ⟨h.mono (by omega), .refl _ _, e⟩
  refine w_def ?_
  unfold b__law_window
  refine ws_seq ?_
  push_cast []
  obtain ⟨q, hq⟩ : ∃ q, q = S.length := ⟨_, rfl⟩
  obtain ⟨T, hT⟩ : ∃ T, T = S ++ [Ob.lst []] := ⟨_, rfl⟩
  have tq : T[q]? = some (.lst (([] : List (Int × Int)).map prD)) := by rw [hT, hq]; exact last1
  have odT : Od S T := by rw [hT]; exact Od.app
  rw [← hT, ← hq]
  refine ws_seq ?_
  push_cast [odT.get hr]
  refine w_for (I := fun j env S' => Od S S' ∧ q < S'.length ∧ ∃ (F : List (Int × Int)) (w5 w6 w7 w8 : Option D), env = [some (.ref n), some (.ref pr), some (.int b), some (.int M), some (.ref q), w5, w6, w7, w8, none, none, none] ∧ S'[q]? = some (.lst (F.map prD)) ∧ F.length ≤ j ∧ ∀ x ∈ F, (0 ≤ x.1 ∧ x.1 ≤ b - 1) ∧ 0 ≤ x.2 ∧ x.2 ≤ b - 2) ?_ ?_ ?_
  · exact ⟨odT, getlt tq, [], _, _, _, _, rfl, tq, by simp, by simp⟩
  · rintro j d env S1 hj ⟨od1, ql, F, w5, w6, w7, w8, rfl, h1, fl, hF⟩
    refine ⟨od1.get hr, ?_⟩
    obtain ⟨x, hx, rfl⟩ := List.mem_map.mp (List.mem_of_getElem? hj)
    have jl : j < rs.length := by
      have := (List.getElem?_eq_some_iff.mp hj).1
      simpa using this
    have lb := lowb x hx
    obtain ⟨lo, hlo⟩ : ∃ lo, lo = x / M := ⟨_, rfl⟩
    rw [← hlo] at lb
    have bl : bits lo + bits M < 1000000 := bk1 (by omega) (by omega)
    push_cast []
    refine ws_seq ?_
    push_cast [mz, mb9, fdM]
    rw [← hlo]
    refine ws_seq ?_
    push_cast [od1.get hr]
    refine w_lcM (fun d => match d with | .int y => .int ((y - lo * M) % (b * M)) | d => d) (fun T => app_get (od1.get hr)) (by rw [List.length_map]; omega) ?_ ?_
    · intro d hd a
      obtain ⟨y, hy, rfl⟩ := List.mem_map.mp hd
      refine ⟨_, rfl, ?_⟩
      push_cast [setL, bl, bM, bMz, fmM]
    · have em : (rs.map D.int).map (fun d => match d with | .int y => D.int ((y - lo * M) % (b * M)) | d => d) = (rs.map fun y => (y - lo * M) % (b * M)).map D.int := by
        rw [List.map_map, List.map_map]
        rfl
      rw [em]
      obtain ⟨S2, hS2⟩ : ∃ S2, S2 = S1 ++ [Ob.lst ((rs.map fun y => (y - lo * M) % (b * M)).map D.int)] := ⟨_, rfl⟩
      have l2 : S2[S1.length]? = some (.lst ((rs.map fun y => (y - lo * M) % (b * M)).map D.int)) := by rw [hS2]; exact last1
      have od2 : Od S1 S2 := by rw [hS2]; exact Od.app
      rw [← hS2]
      have lp : 0 < (rs.map fun y => (y - lo * M) % (b * M)).length := by rw [List.length_map]; exact r0
      obtain ⟨mx, hmx⟩ : ∃ mx, mx = maxI (rs.map fun y => (y - lo * M) % (b * M)) := ⟨_, rfl⟩
      have mx0 : 0 ≤ mx := by
        have := (mxI (xs := rs.map fun y => (y - lo * M) % (b * M)) (List.length_pos_iff.mp lp)).1
        rw [← hmx] at this
        obtain ⟨y, _, e⟩ := List.mem_map.mp this
        rw [← e]
        exact Int.emod_nonneg _ bMz
      obtain ⟨wd, hwd⟩ : ∃ wd, wd = -(-mx / M) := ⟨_, rfl⟩
      have wd0 : 0 ≤ wd := by
        have : -mx / M ≤ 0 := by
          have h1 := Int.ediv_mul_le (-mx) mz
          apply Classical.byContradiction
          intro z
          have : 1 * M ≤ (-mx / M) * M := Int.mul_le_mul_of_nonneg_right (by omega) (by omega)
          omega
        omega
      push_cast [v_max, l2, dInts_map]
      refine ⟨lp, ⟨mz, mb9⟩, ?_⟩
      rw [← hmx, fdM, ← hwd]
      have h2 := od2.get h1
      by_cases c : wd ≤ b - 2
      · have im : gInZ true (.tup [.int lo, .int wd]) (.ref q) S2 = _ := in_prs (neg := true) (x := (lo, wd)) h2
        by_cases c2 : (lo, wd) ∈ F
        · have c3 : (!decide ((lo, wd) ∈ F)) = false := by simp [c2]
          push_cast [c, decide_true, im, c3]
          exact ⟨od1.trans od2, by have := od2.1; omega, F, _, _, _, _, rfl, h2, by omega, hF⟩
        · have c3 : (!decide ((lo, wd) ∈ F)) = true := by simp [c2]
          push_cast [c, decide_true, im, c3, h2]
          refine ⟨by rw [List.length_map]; omega, (od1.trans od2).set (by omega), by rw [List.length_set]; have := od2.1; omega, F ++ [(lo, wd)], _, _, _, _, rfl, ?_, by simp; omega, fun z hz => ?_⟩
          · rw [List.getElem?_set_self (getlt h2)]
            simp [prD]
          · rcases List.mem_append.mp hz with z1 | z1
            · exact hF z z1
            · rw [List.mem_singleton.mp z1]
              exact ⟨lb, wd0, c⟩
      · push_cast [c, decide_false]
        exact ⟨od1.trans od2, by have := od2.1; omega, F, _, _, _, _, rfl, h2, by omega, hF⟩
  · rintro env S1 ⟨od1, ql, F, w5, w6, w7, w8, rfl, h1, fl, hF⟩
    rw [List.length_map] at fl
    refine ⟨od1.get hr, ?_⟩
    refine ws_seq ?_
    have en := eq_nil (app_get (T := [Ob.lst []]) h1) last1 prs_ok
    push_cast [en]
    have s1 := h.od od1
    by_cases c : F = []
    · have c1 : F.map prD = [] := by rw [c]; rfl
      push_cast [c1, decide_true]
      exact fin _ _ rfl (s1.app.mono (by omega)) (Ag.of_od od1.snoc) (.inl rfl)
    · have c1 : ¬ F.map prD = [] := by simpa using c
      push_cast [c1, decide_false]
      obtain ⟨S2, hS2⟩ : ∃ S2, S2 = S1 ++ [Ob.lst []] := ⟨_, rfl⟩
      have od2 : Od S1 S2 := by rw [hS2]; exact Od.app
      rw [← hS2]
      have h2 := od2.get h1
      have a2 : Ag S n S2 := Ag.of_od (od1.trans od2)
      have F0 : 0 < F.length := List.length_pos_iff.mpr c
      have len : (((F.map prD).length : Nat) : Int) = (F.length : Nat) := by rw [List.length_map]
      refine ws_seq ?_
      push_cast [h2, len]
      refine (dr_w (s1.od od2) (m := (F.length : Nat)) (by omega) (by omega) (bs (by omega) (by omega))).to ?_
      rintro _ S3 ⟨r, rfl, r0', r1, s3, u3⟩
      have h3 := ag_get u3.ag h2 (by omega)
      have rl' : r.toNat < F.length := by omega
      obtain ⟨x, hx⟩ : ∃ x, x = F[r.toNat] := ⟨_, rfl⟩
      have at_ : atI (F.map prD) r = some (.tup [.int x.1, .int x.2]) := atI_nat r0' (by rw [List.getElem?_map, List.getElem?_eq_getElem rl', hx]; rfl)
      obtain ⟨⟨l0, l1⟩, w0, w1⟩ := hF x (by rw [hx]; exact List.getElem_mem rl')
      push_cast [h3, at_]
      refine ws_seq ?_
      push_cast []
      refine (dr_w s3 (m := 3) (by omega) (by decide) (bs (by decide) (by decide))).to ?_
      rintro _ S4 ⟨r4, rfl, r40, r41, s4, u4⟩
      obtain ⟨cp, ecp, cp0⟩ : ∃ cp : Int, atI [D.int 2, .int 2, .int b] r4 = some (.int cp) ∧ 0 ≤ cp := by
        rcases atI3 (a := D.int 2) (b := D.int 2) (c := D.int b) r40 r41 with z | z | z
        · exact ⟨2, z, by decide⟩
        · exact ⟨2, z, by decide⟩
        · exact ⟨b, z, by omega⟩
      push_cast [ecp]
      obtain ⟨rm, hrm⟩ : ∃ rm, rm = (if cp < b - 2 - x.2 then cp else b - 2 - x.2) := ⟨_, rfl⟩
      have rm0 : 0 ≤ rm ∧ rm ≤ b - 2 - x.2 := by rw [hrm]; split <;> omega
      rw [← hrm]
      refine ws_seq ?_
      push_cast []
      refine (dr_w s4 (m := rm + 1) (by omega) (by omega) (bs (by omega) (by omega))).to ?_
      rintro _ S5 ⟨ah, rfl, ah0, ah1, s5, u5⟩
      refine ws_seq ?_
      push_cast []
      refine (dr_w s5 (m := rm - ah + 1) (by omega) (by omega) (bs (by omega) (by omega))).to ?_
      rintro _ S6 ⟨fu, rfl, fu0, fu1, s6, u6⟩
      refine ws_seq ?_
      push_cast []
      have a6 : Ag S n S6 := (((a2.trans u3.ag).trans u4.ag).trans u5.ag).trans u6.ag
      refine ws_seq ?_
      by_cases c3 : x.1 - ah < 0
      · push_cast [c3, decide_true]
        exact fin _ _ rfl (s6.mono (by omega)) a6 (.inr ⟨_, _, rfl, by omega, by omega, by omega, by omega⟩)
      · push_cast [c3, decide_false]
        by_cases c4 : x.1 - ah + b + ah + x.2 + fu ≤ 2880
        · push_cast [c4, decide_true]
          refine (dr_w s6 (m := 6) (by omega) (by decide) (bs (by decide) (by decide))).to ?_
          rintro _ S7 ⟨r7, rfl, r70, r71, s7, u7⟩
          by_cases c5 : r7 = 1
          · push_cast [c5, decide_true]
            exact fin _ _ rfl (s7.mono (by omega)) (a6.trans u7.ag) (.inr ⟨_, _, rfl, by omega, by omega, by omega, by omega⟩)
          · push_cast [c5, decide_false]
            exact fin _ _ rfl (s7.mono (by omega)) (a6.trans u7.ag) (.inr ⟨_, _, rfl, by omega, by omega, by omega, by omega⟩)
        · push_cast [c4, decide_false]
          exact fin _ _ rfl (s6.mono (by omega)) a6 (.inr ⟨_, _, rfl, by omega, by omega, by omega, by omega⟩)
end
end Mi_k25

set_option linter.all false
set_option autoImplicit false
set_option maxRecDepth 100000
set_option maxHeartbeats 4000000
namespace Mi_k25
open PySem Lk L2
section
variable {Q : D → Store → Prop} {X : XP} {P : Po}
theorem nd_sub {α : Type} [DecidableEq α] : ∀ {A L : List α}, A.Nodup → (∀ x ∈ A, x ∈ L) → A.length ≤ L.length
  | [], _, _, _ => Nat.zero_le _
  | a :: A, L, nd, h => by
    rw [List.nodup_cons] at nd
    have ha := h a List.mem_cons_self
    have ih := nd_sub (L := L.erase a) nd.2 fun x hx => (List.mem_erase_of_ne (fun e => nd.1 (by rw [← e]; exact hx))).mpr (h x (List.mem_cons_of_mem _ hx))
    rw [List.length_erase_of_mem ha] at ih
    have := List.length_pos_of_mem ha
    rw [List.length_cons]
    omega
theorem surj_ {α : Type} [DecidableEq α] {f : α → α} {O : List α} (nd : O.Nodup) (hi : ∀ x ∈ O, ∀ y ∈ O, f x = f y → x = y) (hc : ∀ x ∈ O, f x ∈ O) {x : α} (hx : x ∈ O) : ∃ y ∈ O, f y = x := by
  apply Classical.byContradiction
  intro z
  have h := nd_sub (A := O.map f) (L := O.erase x) (List.pairwise_map.mpr (nd.imp_of_mem fun {a b} ha hb hne e => hne (hi a ha b hb e))) fun y hy => by
    obtain ⟨a, ha, rfl⟩ := List.mem_map.mp hy
    exact (List.mem_erase_of_ne fun e => z ⟨a, ha, e⟩).mpr (hc a ha)
  rw [List.length_map, List.length_erase_of_mem hx] at h
  have := List.length_pos_of_mem hx
  omega
theorem orb_down {m : Nat} {G : List Gnr} {x0 : Int × Int} {O O' : List (Int × Int)} (ob : Orb m G x0 O) (hG : ∀ g ∈ G, Pm m g.1) (nd : O'.Nodup) (ip : ∀ y ∈ O', InP m y) (cl : Clo_ G O') : ∀ (k : Nat) (y : Int × Int), O[k]? = some y → y ∈ O' → x0 ∈ O' := by
  intro k
  induction k using Nat.strongRecOn with
  | _ k ih =>
    intro y hy hm
    cases k with
    | zero =>
      rw [ob.hd] at hy
      cases hy
      exact hm
    | succ k =>
      obtain ⟨j, z, g, jk, hz, hg, e⟩ := ob.ch k y hy
      obtain ⟨w, hw, ew⟩ := surj_ (f := act g) nd (fun a ha b hb e => act_inj (hG g hg) (ip a ha) (ip b hb) e) (fun a ha => cl a ha g hg) hm
      have : w = z := act_inj (hG g hg) (ip w hw) (ob.rg z (List.mem_of_getElem? hz)) (by rw [ew, e])
      exact ih j (by omega) z hz (by rw [← this]; exact hw)
def spD (x : Int × Int) (lo hi : Int) : D := .tup [.int x.1, .int x.2, .int lo, .int hi]
theorem spD_inj {x y : Int × Int} {a b c d : Int} (h : spD x a b = spD y c d) : x = y ∧ a = c ∧ b = d := by
  unfold spD at h
  simp at h
  exact ⟨Prod.ext h.1 h.2.1, h.2.2.1, h.2.2.2⟩
structure Sp1 (b : Int) (m : Nat) (x : Int × Int) (lo hi : Int) : Prop where
  x : InP m x
  l0 : 0 ≤ lo
  l1 : lo ≤ hi
  l2 : hi ≤ 2880
  l3 : hi - lo ≤ b - 2
/-- the law's spans -/
structure SpI (b : Int) (m : Nat) (G : List Gnr) (lim_ : Nat) (l : List D) : Prop where
  all : ∀ d ∈ l, ∃ x lo hi, d = spD x lo hi ∧ Sp1 b m x lo hi
  nd : l.Nodup
  ln : l.length ≤ lim_
  bl : ∀ x lo hi, spD x lo hi ∈ l → ∃ O, O.Nodup ∧ (∀ y ∈ O, InP m y ∧ spD y lo hi ∈ l) ∧ Clo_ G O ∧ x ∈ O
theorem SpI.nil {b : Int} {m : Nat} {G : List Gnr} {k : Nat} : SpI b m G k [] := ⟨by simp, by simp, by simp, by simp⟩
theorem SpI.fresh {b : Int} {m : Nat} {G : List Gnr} {k : Nat} {l : List D} {x0 : Int × Int} {O : List (Int × Int)} {lo hi : Int} (h : SpI b m G k l) (hG : ∀ g ∈ G, Pm m g.1) (ob : Orb m G x0 O) (hn : spD x0 lo hi ∉ l) : ∀ x ∈ O, spD x lo hi ∉ l := fun x hx hm => by
  obtain ⟨O', nd, ip, cl, hx'⟩ := h.bl x lo hi hm
  obtain ⟨i, hi'⟩ := List.getElem?_of_mem hx
  exact hn (ip x0 (orb_down ob hG nd (fun y hy => (ip y hy).1) cl i x hi' hx')).2
theorem SpI.put {b : Int} {m : Nat} {G : List Gnr} {k : Nat} {l l' : List D} {x0 : Int × Int} {O : List (Int × Int)} {lo hi : Int} (h : SpI b m G k l) (hG : ∀ g ∈ G, Pm m g.1) (ob : Orb m G x0 O) (cl : Clo_ G O) (hn : spD x0 lo hi ∉ l) (hb : 0 ≤ lo ∧ lo ≤ hi ∧ hi ≤ 2880 ∧ hi - lo ≤ b - 2) (hl : l.length + O.length ≤ k) (pm : l'.Perm (l ++ O.map fun x => spD x lo hi)) : SpI b m G k l' := by
  have fr := h.fresh hG ob hn
  refine ⟨fun d hd => ?_, ?_, ?_, fun x a c hx => ?_⟩
  · rcases List.mem_append.mp (pm.mem_iff.mp hd) with z | z
    · exact h.all d z
    · obtain ⟨x, hx, rfl⟩ := List.mem_map.mp z
      exact ⟨x, lo, hi, rfl, ob.rg x hx, hb.1, hb.2.1, hb.2.2.1, hb.2.2.2⟩
  · rw [pm.nodup_iff, List.nodup_append]
    refine ⟨h.nd, List.pairwise_map.mpr (ob.nd.imp fun hne e => hne (spD_inj e).1), fun a ha c hc e => ?_⟩
    subst e
    obtain ⟨x, hx, rfl⟩ := List.mem_map.mp hc
    exact fr x hx ha
  · rw [pm.length_eq, List.length_append, List.length_map]
    exact hl
  · rcases List.mem_append.mp (pm.mem_iff.mp hx) with z | z
    · obtain ⟨O', n1, n2, n3, n4⟩ := h.bl x a c z
      exact ⟨O', n1, fun y hy => ⟨(n2 y hy).1, pm.mem_iff.mpr (List.mem_append_left _ (n2 y hy).2)⟩, n3, n4⟩
    · obtain ⟨y, hy, e⟩ := List.mem_map.mp z
      obtain ⟨e1, e2, e3⟩ := spD_inj e
      subst e1 e2 e3
      exact ⟨O, ob.nd, fun w hw => ⟨ob.rg w hw, pm.mem_iff.mpr (List.mem_append_right _ (List.mem_map.mpr ⟨w, hw, rfl⟩))⟩, cl, hy⟩
theorem sp_dat {l : List D} (h : ∀ d ∈ l, ∃ x lo hi, d = spD x lo hi) : okPL 10 l = true := okPL_all fun d hd => by
  obtain ⟨x, lo, hi, rfl⟩ := h d hd
  rfl
theorem in_sp {S : Store} {n : Nat} {neg β : Bool} {x : Int × Int} {lo hi : Int} {l : List D} (h : S[n]? = some (.lst l)) (hl : ∀ d ∈ l, ∃ x lo hi, d = spD x lo hi) (hβ : β = true ↔ spD x lo hi ∈ l) : gInZ neg (spD x lo hi) (.ref n) S = .ok (.bl (if neg then !β else β)) S := by
  rw [gInZ_dat (show okP 10 (spD x lo hi) = true from rfl) (.inr (.inr ⟨n, rfl, h⟩)) (sp_dat hl) rfl]
  have e : (l.any fun z => PyData.eqv (toP z) (toP (spD x lo hi))) = β := by
    rw [Bool.eq_iff_iff, List.any_eq_true, hβ]
    have key : ∀ z ∈ l, (PyData.eqv (toP z) (toP (spD x lo hi)) = true ↔ z = spD x lo hi) := fun z hz => by
      obtain ⟨x', lo', hi', rfl⟩ := hl z hz
      have := eqv_dec (x := spD x' lo' hi') (y := spD x lo hi) (p := x' = x ∧ lo' = lo ∧ hi' = hi) rfl rfl ⟨spD_inj, fun ⟨a, b, c⟩ => by rw [a, b, c]⟩
      rw [this, decide_eq_true_eq]
      exact ⟨fun ⟨a, b, c⟩ => by rw [a, b, c], spD_inj⟩
    constructor
    · rintro ⟨z, hz, e⟩
      rw [← (key z hz).mp e]
      exact hz
    · intro hm
      exact ⟨_, hm, (key _ hm).mpr rfl⟩
  rw [e]
end
end Mi_k25

set_option linter.all false
set_option autoImplicit false
set_option maxRecDepth 100000
set_option maxHeartbeats 4000000
namespace Mi_k25
open PySem Lk L2
section
variable {Q : D → Store → Prop} {X : XP} {P : Po}
theorem v_insert {n : Nat} {i : Int} {y : D} {S : Store} : Wr (gInsert (.ref n) [.int i, y] S) Q X = ∃ ds, S[n]? = some (.lst ds) ∧ (ds.length < lim ∧ 0 ≤ i ∧ i < 2 ^ 63) ∧ Q .non (S.set n (.lst (ds.take i.toNat ++ [y] ++ ds.drop i.toNat))) := by
  unfold gInsert
  dsimp only
  cases h : S[n]? with
  | none => simp [wr_def, WrD]
  | some o =>
    cases o with
    | lst ds =>
      simp only [Option.some.injEq, Ob.lst.injEq, exists_eq_left']
      rw [w_ite]
      by_cases c : ds.length < lim ∧ 0 ≤ i ∧ i < 2 ^ 63
      · rw [if_pos c, w_ok]
        exact propext ⟨fun q => ⟨c, q⟩, fun q => q.2⟩
      · rw [if_neg c, w_bad]
        exact propext ⟨False.elim, fun q => c q.1⟩
    | _ => simp [wr_def, WrD]
theorem ins_permX {α : Type} {l : List α} {i : Nat} {y : α} : (l.take i ++ [y] ++ l.drop i).Perm (y :: l) := by
  have h1 : (l.take i ++ [y] ++ l.drop i).Perm ([y] ++ l.take i ++ l.drop i) := List.Perm.append_right _ List.perm_append_comm
  refine h1.trans ?_
  rw [List.append_assoc, List.take_append_drop]
  exact .refl _
theorem spans_w {S : Store} {n g t m lm_ : Nat} {b M k : Int} {G : List Gnr} {ts : List Int} (h : Sr S n k) (hk : k < 40000) (hG : ∀ x ∈ G, Pm m x.1) (m0 : 1 ≤ m) (m12 : m ≤ 12) (hg : S[g]? = some (.lst (G.map gD))) (gn : g ≠ n) (ht : S[t]? = some (.lst (ts.map D.int))) (tn : t ≠ n) (tl : ts.length = m) (tb : ∀ x ∈ ts, 0 ≤ x ∧ x < b * M) (b1 : 3 ≤ b) (b2 : b ≤ 1440) (M1 : 1 ≤ M) (M2 : M ≤ 1000) (hl : lm_ ≤ 60) :
    Wr (f__law_spans [.ref n, .int b, .ref g, .ref t, .int M, .int (lm_ : Nat)] S) (fun d S' => Sr S' n (k + 2000) ∧ Ag S n S' ∧ ∃ q l, d = .ref q ∧ S.length ≤ q ∧ S'[q]? = some (.lst l) ∧ SpI b m G lm_ l) noX := by
  have lm := lim_16
  have nl := h.lt
  have gl := getlt hg
  have tll := getlt ht
  have bM : bits b + bits M < 1000000 := bk1 (by omega) (by omega)
  have bM0 : 3 ≤ b * M := by
    have : 3 * 1 ≤ b * M := Int.mul_le_mul b1 M1 (by omega) (by omega)
    omega
  have bMz : ¬ b * M = 0 := by omega
  have fmM := fun z => fmd_p (i := z) (show 0 < b * M by omega)
  refine w_def ?_
  unfold b__law_spans
  refine ws_seq ?_
  push_cast []
  obtain ⟨q, hq⟩ : ∃ q, q = S.length := ⟨_, rfl⟩
  obtain ⟨T, hT⟩ : ∃ T, T = S ++ [Ob.lst []] := ⟨_, rfl⟩
  have tq : T[q]? = some (.lst []) := by rw [hT, hq]; exact last1
  have odT : Od S T := by rw [hT]; exact Od.app
  rw [← hT, ← hq]
  have mlen : (((ts.map D.int).length : Nat) : Int) = (m : Nat) := by rw [List.length_map, tl]
  refine ws_seq ?_
  push_cast [odT.get ht, mlen]
  refine ws_seq ?_
  have l8 : 8 ≤ lim := by omega
  push_cast [l8]
  refine (dr_w (h.od odT) (m := 8) (by omega) (by decide) (bs (by decide) (by decide))).to ?_
  rintro _ S1 ⟨r1, rfl, r10, r11, s1, u1⟩
  obtain ⟨cnt, ecnt, c5⟩ : ∃ cnt : Nat, atI [D.int 1, .int 2, .int 2, .int 3, .int 3, .int 4, .int 5, .int 0] r1 = some (.int (cnt : Nat)) ∧ cnt ≤ 5 := by
    have c : r1 = 0 ∨ r1 = 1 ∨ r1 = 2 ∨ r1 = 3 ∨ r1 = 4 ∨ r1 = 5 ∨ r1 = 6 ∨ r1 = 7 := by omega
    rcases c with rfl | rfl | rfl | rfl | rfl | rfl | rfl | rfl
    · exact ⟨1, rfl, by decide⟩
    · exact ⟨2, rfl, by decide⟩
    · exact ⟨2, rfl, by decide⟩
    · exact ⟨3, rfl, by decide⟩
    · exact ⟨3, rfl, by decide⟩
    · exact ⟨4, rfl, by decide⟩
    · exact ⟨5, rfl, by decide⟩
    · exact ⟨0, rfl, by decide⟩
  have bdc : bd ((cnt : Nat) : Int) := bd_small (by omega)
  have a1 : Ag S n S1 := (Ag.of_od odT).trans u1.ag
  have q1 := ag_get u1.ag tq (by omega)
  push_cast [ecnt, bdc, Int.toNat_natCast]
  refine w_for (I := fun j env S' => Ag S n S' ∧ Sr S' n (k + 1 + 100 * (j : Nat)) ∧ ∃ l w8 w9 w10 w11 w12 w13 w14, env = [some (.ref n), some (.int b), some (.ref g), some (.ref t), some (.int M), some (.int (lm_ : Nat)), some (.ref q), some (.int (m : Nat)), w8, w9, w10, w11, w12, w13, w14] ∧ S'[q]? = some (.lst l) ∧ SpI b m G lm_ l) ?_ ?_ ?_
  · exact ⟨a1, s1.mono (by omega), [], _, _, _, _, _, _, _, rfl, q1, .nil⟩
  · rintro j d env S2 hj ⟨a2, s2, l, w8, w9, w10, w11, w12, w13, w14, rfl, hq2, sp⟩
    refine ⟨trivial, ?_⟩
    have jl : j < cnt := by
      have := (List.getElem?_eq_some_iff.mp hj).1
      simpa [rngI] using this
    have ql := getlt hq2
    by_cases cm : (1 : Int) < (m : Nat)
    · push_cast [cm, decide_true]
      refine ws_seq ?_
      push_cast []
      refine (dr_w s2 (m := (m : Nat)) (by omega) (by omega) (bs (by omega) (by omega))).to ?_
      rintro _ S3 ⟨one, rfl, o0, o1, s3, u3⟩
      refine ws_seq ?_
      push_cast []
      refine (dr_w s3 (m := (m : Nat) - 1) (by omega) (by omega) (bs (by omega) (by omega))).to ?_
      rintro _ S4 ⟨r4, rfl, r40, r41, s4, u4⟩
      have mz : ¬ ((m : Nat) : Int) = 0 := by omega
      have fmm := fun z => fmd_p (i := z) (show 0 < ((m : Nat) : Int) by omega)
      push_cast [mz, fmm]
      obtain ⟨oth, hoth⟩ : ∃ oth, oth = (one + 1 + r4) % ((m : Nat) : Int) := ⟨_, rfl⟩
      have oth0 : 0 ≤ oth ∧ oth < (m : Nat) ∧ oth ≠ one := by
        rw [hoth]
        refine ⟨Int.emod_nonneg _ mz, Int.emod_lt_of_pos _ (by omega), fun e => ?_⟩
        by_cases z : one + 1 + r4 < (m : Nat)
        · rw [Int.emod_eq_of_lt (by omega) z] at e
          omega
        · have : (one + 1 + r4) % ((m : Nat) : Int) = one + 1 + r4 - (m : Nat) := by
            have e2 : (one + 1 + r4 - ((m : Nat) : Int) + (m : Nat)) % ((m : Nat) : Int) = (one + 1 + r4 - (m : Nat)) % ((m : Nat) : Int) := Int.add_emod_right ..
            rw [Int.sub_add_cancel] at e2
            rw [e2, Int.emod_eq_of_lt (by omega) (by omega)]
          omega
      rw [← hoth]
      have a4 : Ag S n S4 := (a2.trans u3.ag).trans u4.ag
      have hg4 := ag_get a4 hg gn
      have ht4 := ag_get a4 ht tn
      have hq4 := ag_get (u3.ag.trans u4.ag) hq2 (by omega)
      have ix0 : InP m (one, oth) := ⟨⟨o0, o1⟩, ⟨oth0.1, oth0.2.1⟩, fun e => oth0.2.2 e.symm⟩
      refine ws_seq ?_
      have ow := orbit_w (S := S4) ix0 hG m12 hg4
      unfold prD at ow
      push_cast []
      refine ow.to ?_
      rintro _ S5 ⟨po, O, rfl, poS, hpo, ob, cl, od5⟩
      have hpo : S5[po]? = some (.lst (O.map prD)) := hpo
      have a5 : Ag S n S5 := a4.trans (Ag.of_od od5)
      have ht5 := od5.get ht4
      have hq5 := od5.get hq4
      have s5 := s4.od od5
      have Ol := ob.len
      have mm : m * m ≤ 12 * 12 := Nat.mul_le_mul m12 m12
      have l4 := a4.1
      have l5 := od5.1
      have q4 := getlt hq4
      have po5 := getlt hpo
      have O0 : 0 < O.length := (List.getElem?_eq_some_iff.mp ob.hd).1
      -- the rests
      refine ws_seq ?_
      push_cast [hpo]
      refine w_lcM (fun d => match d with | .tup [.int i, .int j] => .int ((ts.getD j.toNat 0 - ts.getD i.toNat 0) % (b * M)) | d => d) (fun T => app_get hpo) (by rw [List.length_map]; omega) ?_ ?_
      · intro d hd a
        obtain ⟨x, hx, rfl⟩ := List.mem_map.mp hd
        obtain ⟨⟨x0, x1⟩, ⟨y0, y1⟩, _⟩ := ob.rg x hx
        have c0 : ∀ x y : D, atI [x, y] 0 = some x := fun _ _ => rfl
        have c1 : ∀ x y : D, atI [x, y] 1 = some y := fun _ _ => rfl
        have at1 : atI (ts.map D.int) x.1 = some (.int (ts.getD x.1.toNat 0)) := by
          obtain ⟨z, hz⟩ : ∃ z : Nat, x.1 = (z : Nat) := ⟨x.1.toNat, by omega⟩
          rw [hz]
          exact ys_at (by omega)
        have at2 : atI (ts.map D.int) x.2 = some (.int (ts.getD x.2.toNat 0)) := by
          obtain ⟨z, hz⟩ : ∃ z : Nat, x.2 = (z : Nat) := ⟨x.2.toNat, by omega⟩
          rw [hz]
          exact ys_at (by omega)
        refine ⟨_, rfl, ?_⟩
        unfold prD
        push_cast [setL, app_get (T := [Ob.lst a]) ht5, c0, c1, at1, at2, bM, bMz, fmM]
      have em : (O.map prD).map (fun d => match d with | .tup [.int i, .int j] => D.int ((ts.getD j.toNat 0 - ts.getD i.toNat 0) % (b * M)) | d => d) = (O.map fun x => (ts.getD x.2.toNat 0 - ts.getD x.1.toNat 0) % (b * M)).map D.int := by
        rw [List.map_map, List.map_map]
        rfl
      rw [em]
      obtain ⟨rs, hrs⟩ : ∃ rs, rs = O.map fun x => (ts.getD x.2.toNat 0 - ts.getD x.1.toNat 0) % (b * M) := ⟨_, rfl⟩
      rw [← hrs]
      obtain ⟨S6, hS6⟩ : ∃ S6, S6 = S5 ++ [Ob.lst (rs.map D.int)] := ⟨_, rfl⟩
      have l6 : S6[S5.length]? = some (.lst (rs.map D.int)) := by rw [hS6]; exact last1
      have od6 : Od S5 S6 := by rw [hS6]; exact Od.app
      rw [← hS6]
      have rsl : rs.length = O.length := by rw [hrs, List.length_map]
      have s6 := s5.od od6
      -- the window
      refine ws_seq ?_
      push_cast []
      refine (window_w s6 (by omega) l6 (by omega) (by omega) (by omega) (fun x hx => by
        rw [hrs] at hx
        obtain ⟨y, _, rfl⟩ := List.mem_map.mp hx
        exact ⟨Int.emod_nonneg _ bMz, Int.emod_lt_of_pos _ (by omega)⟩) b1 b2 M1 M2).to ?_
      rintro wd S7 ⟨s7, u7, hw⟩
      have a7 : Ag S n S7 := (a5.trans (Ag.of_od od6)).trans u7
      have hq7 := ag_get u7 (od6.get hq5) (by omega)
      have hpo7 := ag_get u7 (od6.get hpo) (by omega)
      have spd : ∀ d ∈ l, ∃ x lo hi, d = spD x lo hi := fun d hd => by
        obtain ⟨x, lo, hi, e, _⟩ := sp.all d hd
        exact ⟨x, lo, hi, e⟩
      rcases hw with rfl | ⟨lo, hi, rfl, hb⟩
      · push_cast [isNonD]
        exact ⟨a7, s7.mono (by omega), l, _, _, _, _, _, _, _, rfl, hq7, sp⟩
      · have lenl : (((O.map prD).length : Nat) : Int) = (O.length : Nat) := by rw [List.length_map]
        have c4 : (4 : Nat) ≤ lim := by omega
        by_cases c1 : ((l.length : Nat) : Int) + (O.length : Nat) ≤ (lm_ : Nat)
        · by_cases c2 : spD (one, oth) lo hi ∈ l
          · have im : gInZ true (.tup [.int one, .int oth, .int lo, .int hi]) (.ref q) S7 = _ := in_sp (neg := true) (β := true) (x := (one, oth)) (lo := lo) (hi := hi) hq7 spd ⟨fun _ => c2, fun _ => rfl⟩
            push_cast [isNonD, hq7, hpo7, lenl, c1, decide_true, c4, im]
            exact ⟨a7, s7.mono (by omega), l, _, _, _, _, _, _, _, rfl, rfl, sp⟩
          · have im : gInZ true (.tup [.int one, .int oth, .int lo, .int hi]) (.ref q) S7 = _ := in_sp (neg := true) (β := false) (x := (one, oth)) (lo := lo) (hi := hi) hq7 spd ⟨fun z => (by cases z), fun z => absurd z c2⟩
            push_cast [isNonD, hq7, hpo7, lenl, c1, decide_true, c4, im]
            refine w_for (I := fun i env S' => Ag S n S' ∧ Sr S' n (k + 1 + 100 * (j : Nat) + 20 + (i : Nat)) ∧ S'[po]? = some (.lst (O.map prD)) ∧ ∃ l' w13, env = [some (.ref n), some (.int b), some (.ref g), some (.ref t), some (.int M), some (.int (lm_ : Nat)), some (.ref q), some (.int (m : Nat)), some d, some (.int one), some (.int oth), some (.ref po), some (.ref S5.length), w13, some (.tup [.int lo, .int hi])] ∧ S'[q]? = some (.lst l') ∧ l'.Perm (l ++ (O.take i).map fun x => spD x lo hi)) ?_ ?_ ?_
            · exact ⟨a7, s7.mono (by omega), hpo7, l, _, rfl, hq7, by simp⟩
            · rintro i d' env S8 hi' ⟨a8, s8, hpo8, l', w13, rfl, hq8, pm⟩
              rw [List.getElem?_map] at hi'
              cases hOi : O[i]? with
              | none => rw [hOi] at hi'; cases hi'
              | some y =>
                rw [hOi] at hi'
                simp only [Option.map_some, Option.some.injEq] at hi'
                subst hi'
                have il := (List.getElem?_eq_some_iff.mp hOi).1
                have ll' : l'.length = l.length + i := by
                  rw [pm.length_eq, List.length_append, List.length_map, List.length_take]
                  omega
                refine ⟨hpo8, ?_⟩
                have lq := getlt hq8
                unfold prD
                push_cast [hq8]
                refine (dr_w s8 (m := (l'.length : Nat) + 1) (by omega) (by omega) (bs (by omega) (by omega))).to ?_
                rintro _ S9 ⟨r9, rfl, r90, r91, s9, u9⟩
                have hq9 := ag_get u9.ag hq8 (by omega)
                have hpo9 := ag_get u9.ag hpo8 (by omega)
                push_cast [c4, v_insert, hq9]
                have c9 : Ag S9 q (S9.set q (.lst (l'.take r9.toNat ++ [D.tup [.int y.1, .int y.2, .int lo, .int hi]] ++ l'.drop r9.toNat))) := Ch.ag ⟨_, rfl⟩
                refine ⟨⟨by omega, by omega, by omega⟩, ag_set (a8.trans u9.ag) (by omega), (s9.ag c9 (by omega)).mono (by omega), ag_get c9 hpo9 (by omega), _, _, rfl, List.getElem?_set_self (getlt hq9), ?_⟩
                have e1 : (O.take (i + 1)).map (fun x => spD x lo hi) = (O.take i).map (fun x => spD x lo hi) ++ [spD y lo hi] := by
                  rw [List.take_add_one, hOi, Option.toList_some, List.map_append]
                  rfl
                rw [e1, ← List.append_assoc]
                refine ins_permX.trans ?_
                refine (List.Perm.cons _ pm).trans ?_
                exact (List.perm_append_comm (l₁ := [spD y lo hi]))
            · rintro env S8 ⟨a8, s8, hpo8, l', w13, rfl, hq8, pm⟩
              rw [List.length_map, List.take_length] at pm
              rw [List.length_map] at s8
              exact ⟨hpo8, a8, s8.mono (by omega), l', _, _, _, _, _, _, _, rfl, hq8, sp.put hG ob cl c2 hb (by omega) pm⟩
        · push_cast [isNonD, hq7, hpo7, lenl, c1, decide_false]
          exact ⟨a7, s7.mono (by omega), l, _, _, _, _, _, _, _, rfl, rfl, sp⟩
    · push_cast [cm, decide_false]
      exact ⟨a2, s2.mono (by omega), l, _, _, _, _, _, _, _, rfl, hq2, sp⟩
  · rintro env S2 ⟨a2, s2, l, w8, w9, w10, w11, w12, w13, w14, rfl, hq2, sp⟩
    rw [show (rngI 0 cnt).length = cnt by simp [rngI]] at s2
    refine ⟨trivial, ?_⟩
    push_cast []
    exact w_gc_new (by omega) ⟨s2.mono (by omega), a2, q, l, rfl, by omega, hq2, sp⟩
end
end Mi_k25

set_option linter.all false
set_option autoImplicit false
set_option maxRecDepth 100000
set_option maxHeartbeats 4000000
namespace Mi_k25
open PySem Lk L2
section
variable {Q : D → Store → Prop} {X : XP} {P : Po}
theorem Pm.mem {m : Nat} {p : List Int} (h : Pm m p) {x : Int} (h0 : 0 ≤ x) (h1 : x < (m : Nat)) : x ∈ p := by
  apply Classical.byContradiction
  intro z
  have := nd_sub (A := x :: p) (L := rngZ m) (by rw [List.nodup_cons]; exact ⟨z, h.nd⟩) fun y hy => by
    have hb : 0 ≤ y ∧ y < (m : Nat) := by
      rcases List.mem_cons.mp hy with rfl | hy
      · exact ⟨h0, h1⟩
      · exact h.rg y hy
    exact List.mem_map.mpr ⟨y.toNat, List.mem_range.mpr (by omega), by omega⟩
  have l : (rngZ m).length = m := by simp [rngZ]
  rw [List.length_cons, h.ln, l] at this
  omega
theorem Pm.ix {m : Nat} {p : List Int} (h : Pm m p) {x : Int} (h0 : 0 ≤ x) (h1 : x < (m : Nat)) : ∃ i, i < m ∧ p.getD i 0 = x := by
  obtain ⟨i, hi⟩ := List.getElem?_of_mem (h.mem h0 h1)
  have il := (List.getElem?_eq_some_iff.mp hi).1
  refine ⟨i, by rw [h.ln] at il; exact il, ?_⟩
  rw [List.getD_eq_getElem?_getD, hi]
  rfl
theorem Pm.atN {m : Nat} {p : List Int} (h : Pm m p) {i : Nat} (hi : i < m) : 0 ≤ p.getD i 0 ∧ p.getD i 0 < (m : Nat) := by
  have := h.at (x := (i : Nat)) (by omega) (by omega)
  simpa using this
theorem Pm.injN {m : Nat} {p : List Int} (h : Pm m p) {i j : Nat} (hi : i < m) (hj : j < m) (e : p.getD i 0 = p.getD j 0) : i = j := by
  have := h.inj (x := (i : Nat)) (y := (j : Nat)) (by omega) (by omega) (by omega) (by omega) (by simpa using e)
  omega
theorem Pm.of {m : Nat} {p : List Int} (ln : p.length = m) (rg : ∀ i, i < m → 0 ≤ p.getD i 0 ∧ p.getD i 0 < (m : Nat)) (inj : ∀ i j, i < m → j < m → p.getD i 0 = p.getD j 0 → i = j) : Pm m p := ⟨ln, fun x hx => by
  obtain ⟨i, hi⟩ := List.getElem?_of_mem hx
  have il := (List.getElem?_eq_some_iff.mp hi).1
  have := rg i (by omega)
  rw [List.getD_eq_getElem?_getD, hi] at this
  exact this, by
  rw [List.nodup_iff_pairwise_ne, List.pairwise_iff_getElem]
  intro i j hi hj hij e
  have := inj i j (by omega) (by omega) (by rw [List.getD_eq_getElem?_getD, List.getD_eq_getElem?_getD, List.getElem?_eq_getElem hi, List.getElem?_eq_getElem hj, e])
  omega⟩
theorem Pm.of_map {m : Nat} {nm R p : List Int} (hn : Pm m nm) (hR : Pm m R) (pl : p.length = m) (h : ∀ i, i < m → p.getD (nm.getD i 0).toNat 0 = nm.getD (R.getD i 0).toNat 0) : Pm m p := by
  have key : ∀ x, x < m → ∃ i, i < m ∧ nm.getD i 0 = (x : Nat) ∧ p.getD x 0 = nm.getD (R.getD i 0).toNat 0 := fun x hx => by
    obtain ⟨i, hi, e⟩ := hn.ix (x := (x : Nat)) (by omega) (by omega)
    refine ⟨i, hi, e, ?_⟩
    have := h i hi
    rw [e, Int.toNat_natCast] at this
    exact this
  refine Pm.of pl (fun x hx => ?_) fun x y hx hy e => ?_
  · obtain ⟨i, hi, _, e⟩ := key x hx
    rw [e]
    have r := hR.atN hi
    exact hn.at r.1 r.2
  · obtain ⟨i, hi, ei, e1⟩ := key x hx
    obtain ⟨j, hj, ej, e2⟩ := key y hy
    rw [e1, e2] at e
    have r := hR.atN hi
    have r' := hR.atN hj
    have := hR.injN hi hj (hn.inj r.1 r.2 r'.1 r'.2 e)
    subst this
    omega
def rawL (c s h : Nat) (cp pp : List Int) : List Int := rngZ h ++ (List.range (c * s)).map fun k => (h : Nat) + cp.getD (k / s) 0 * (s : Nat) + pp.getD (k % s) 0
theorem raw_pm {c s h : Nat} {cp pp : List Int} (hc : Pm c cp) (hs : Pm s pp) : Pm (c * s + h) (rawL c s h cp pp) := by
  have at1 : ∀ i, i < h → (rawL c s h cp pp).getD i 0 = (i : Nat) := fun i hi => by
    unfold rawL rngZ
    rw [List.getD_eq_getElem?_getD, List.getElem?_append_left (by simpa using hi), List.getElem?_map, List.getElem?_range hi]
    rfl
  have at2 : ∀ k, k < c * s → (rawL c s h cp pp).getD (h + k) 0 = (h : Nat) + cp.getD (k / s) 0 * (s : Nat) + pp.getD (k % s) 0 := fun k hk => by
    unfold rawL rngZ
    rw [List.getD_eq_getElem?_getD, List.getElem?_append_right (by simp), List.getElem?_map]
    simp only [List.length_map, List.length_range, Nat.add_sub_cancel_left]
    rw [List.getElem?_range hk]
    rfl
  have b2 : ∀ k, k < c * s → 0 < s ∧ k / s < c ∧ k % s < s := fun k hk => by
    have s0 : 0 < s := Nat.pos_of_ne_zero fun e => by rw [e, Nat.mul_zero] at hk; omega
    exact ⟨s0, (Nat.div_lt_iff_lt_mul s0).mpr hk, Nat.mod_lt _ s0⟩
  have r2 : ∀ k, k < c * s → (h : Int) ≤ (rawL c s h cp pp).getD (h + k) 0 ∧ (rawL c s h cp pp).getD (h + k) 0 < ((c * s + h : Nat) : Int) := fun k hk => by
    obtain ⟨s0, d1, d2⟩ := b2 k hk
    have a := hc.atN d1
    have b := hs.atN d2
    rw [at2 k hk]
    have m1 : 0 ≤ cp.getD (k / s) 0 * (s : Int) := Int.mul_nonneg a.1 (by omega)
    have m2 : cp.getD (k / s) 0 * (s : Int) ≤ ((c : Int) - 1) * s := Int.mul_le_mul_of_nonneg_right (by omega) (by omega)
    have m3 : ((c : Int) - 1) * s = c * s - s := by rw [Int.sub_mul, Int.one_mul]
    push_cast
    constructor <;> omega
  have cases_ : ∀ i, i < c * s + h → i < h ∨ ∃ k, k < c * s ∧ i = h + k := fun i hi => by
    by_cases z : i < h
    · exact .inl z
    · exact .inr ⟨i - h, by omega, by omega⟩
  refine Pm.of (by simp [rawL, rngZ]; omega) (fun i hi => ?_) fun i j hi hj e => ?_
  · rcases cases_ i hi with z | ⟨k, hk, rfl⟩
    · rw [at1 i z]
      omega
    · have := r2 k hk
      omega
  · rcases cases_ i hi with z | ⟨k, hk, rfl⟩
    · rcases cases_ j hj with y | ⟨l, hl, rfl⟩
      · rw [at1 i z, at1 j y] at e
        omega
      · have := r2 l hl
        rw [at1 i z] at e
        omega
    · rcases cases_ j hj with y | ⟨l, hl, rfl⟩
      · have := r2 k hk
        rw [at1 j y] at e
        omega
      · rw [at2 k hk, at2 l hl] at e
        obtain ⟨s0, d1, d2⟩ := b2 k hk
        obtain ⟨_, d3, d4⟩ := b2 l hl
        have a := hc.atN d1
        have b := hs.atN d2
        have a' := hc.atN d3
        have b' := hs.atN d4
        have e1 : cp.getD (k / s) 0 * (s : Nat) + pp.getD (k % s) 0 = cp.getD (l / s) 0 * (s : Nat) + pp.getD (l % s) 0 := by omega
        have q1 : (cp.getD (k / s) 0 * ((s : Nat) : Int) + pp.getD (k % s) 0) / ((s : Nat) : Int) = cp.getD (k / s) 0 := by
          rw [Int.add_comm, Int.add_mul_ediv_right _ _ (by omega), Int.ediv_eq_zero_of_lt b.1 b.2, Int.zero_add]
        have q2 : (cp.getD (l / s) 0 * ((s : Nat) : Int) + pp.getD (l % s) 0) / ((s : Nat) : Int) = cp.getD (l / s) 0 := by
          rw [Int.add_comm, Int.add_mul_ediv_right _ _ (by omega), Int.ediv_eq_zero_of_lt b'.1 b'.2, Int.zero_add]
        have f1 : cp.getD (k / s) 0 = cp.getD (l / s) 0 := by rw [← q1, ← q2, e1]
        have f2 : pp.getD (k % s) 0 = pp.getD (l % s) 0 := by rw [f1] at e1; omega
        have g1 := hc.injN d1 d3 f1
        have g2 := hs.injN d2 d4 f2
        have := Nat.div_add_mod k s
        have := Nat.div_add_mod l s
        rw [g1, g2] at *
        omega
end
end Mi_k25

set_option linter.all false
set_option autoImplicit false
set_option maxRecDepth 100000
set_option maxHeartbeats 4000000
namespace Mi_k25
open PySem Lk L2
section
variable {Q : D → Store → Prop} {X : XP} {P : Po}
theorem rep00 {m : Nat} : (List.replicate m [D.int 0]).flatten = (List.replicate m (0 : Int)).map D.int := by
  induction m with
  | zero => rfl
  | succ m ih => rw [List.replicate_succ, List.flatten_cons, ih, List.replicate_succ]; rfl
theorem raw_w {S : Store} {pn pc pp c s h m : Nat} {nm cp pr : List Int} {f : Bool} (em : m = c * s + h) (m12 : m ≤ 12) (hn : Pm m nm) (hc : Pm c cp) (hs : Pm s pr) (c12 : c ≤ 12) (s12 : s ≤ 12) (h1 : S[pn]? = some (.lst (nm.map D.int))) (h2 : S[pc]? = some (.lst (cp.map D.int))) (h3 : S[pp]? = some (.lst (pr.map D.int))) :
    Wr (f__law_raw [.ref pn, .tup [.int (c : Nat), .int (s : Nat), .int (h : Nat)], .ref pc, .ref pp, .bl f] S) (fun d S' => S' = S ∧ ∃ p, d = lkD_ p f ∧ Pm m p) noX := by
  have lm := lim_16
  have okh := okRg_small (j := (h : Nat)) (by omega) (by omega)
  have ecs : ((c : Nat) : Int) * ((s : Nat) : Int) = ((c * s : Nat) : Int) := by push_cast; rfl
  have cs60 : c * s ≤ 60 := by omega
  have bdcs : bd ((c * s : Nat) : Int) := bd_small cs60
  have bcs : bits ((c : Nat) : Int) + bits ((s : Nat) : Int) < 1000000 := bk1 (by omega) (by omega)
  have R := raw_pm (h := h) hc hs
  rw [← em] at R
  refine w_def ?_
  unfold b__law_raw
  refine ws_seq ?_
  push_cast []
  refine ws_seq ?_
  push_cast [v_lstRg1, okh]
  rw [rgD_Z]
  obtain ⟨S1, hS1⟩ : ∃ S1, S1 = S ++ [Ob.lst ((rngZ h).map D.int)] := ⟨_, rfl⟩
  have q1 : S1[S.length]? = some (.lst ((rngZ h).map D.int)) := by rw [hS1]; exact last1
  have od1 : Od S S1 := by rw [hS1]; exact Od.app
  rw [← hS1]
  refine ws_seq ?_
  push_cast [bcs, ecs, bdcs, Int.toNat_natCast]
  refine w_lcM (fun d => match d with | .int k => .int ((h : Nat) + cp.getD (k.toNat / s) 0 * (s : Nat) + pr.getD (k.toNat % s) 0) | d => d) (fun T => trivial) (by simp [rngI]; omega) ?_ ?_
  · intro d hd a
    obtain ⟨k, hk⟩ := List.getElem?_of_mem hd
    obtain ⟨kl, rfl⟩ := rng_get hk
    have s0 : 0 < s := Nat.pos_of_ne_zero fun e => by rw [e, Nat.mul_zero] at kl; omega
    have d1 : k / s < c := (Nat.div_lt_iff_lt_mul s0).mpr kl
    have d2 : k % s < s := Nat.mod_lt _ s0
    have sz : ¬ ((s : Nat) : Int) = 0 := by omega
    have sb : bits ((s : Nat) : Int) < 9000 := bk9 (by omega)
    have f1 : fdv ((k : Nat) : Int) ((s : Nat) : Int) = ((k / s : Nat) : Int) := by rw [fdv_pos (by omega)]; push_cast; rfl
    have f2 : fmd ((k : Nat) : Int) ((s : Nat) : Int) = ((k % s : Nat) : Int) := by rw [fmd_p (by omega)]; push_cast; rfl
    have a1 : atI (cp.map D.int) ((k / s : Nat) : Int) = some (.int (cp.getD (k / s) 0)) := ys_at (by rw [hc.ln]; exact d1)
    have a2 : atI (pr.map D.int) ((k % s : Nat) : Int) = some (.int (pr.getD (k % s) 0)) := ys_at (by rw [hs.ln]; exact d2)
    have cb := hc.atN d1
    have b1 : bits (cp.getD (k / s) 0) + bits ((s : Nat) : Int) < 1000000 := bk1 (by omega) (by omega)
    have h2' := app_get (T := [Ob.lst a]) (od1.get h2)
    have h3' := app_get (T := [Ob.lst a]) (od1.get h3)
    refine ⟨_, rfl, ?_⟩
    push_cast [sz, sb, f1, f2, a1, a2, b1, h2', h3']
  have el : (rngI 0 (c * s)).map (fun d => match d with | .int k => D.int ((h : Nat) + cp.getD (k.toNat / s) 0 * (s : Nat) + pr.getD (k.toNat % s) 0) | d => d) = ((List.range (c * s)).map fun k => ((h : Nat) : Int) + cp.getD (k / s) 0 * (s : Nat) + pr.getD (k % s) 0).map D.int := by
    simp only [rngI, List.map_map]
    refine List.map_congr_left fun k _ => ?_
    simp
  rw [el]
  have q1' := app_get (T := [Ob.lst (((List.range (c * s)).map fun k => ((h : Nat) : Int) + cp.getD (k / s) 0 * (s : Nat) + pr.getD (k % s) 0).map D.int)]) q1
  push_cast [q1', last1]
  have hl : ((rngZ h).map D.int).length = h := by simp [rngZ]
  refine ⟨by simp [rngZ]; omega, ?_⟩
  rw [← List.map_append]
  rw [show rngZ h ++ (List.range (c * s)).map (fun k => ((h : Nat) : Int) + cp.getD (k / s) 0 * (s : Nat) + pr.getD (k % s) 0) = rawL c s h cp pr from rfl]
  obtain ⟨S2, hS2⟩ : ∃ S2, S2 = S1 ++ [Ob.lst (((List.range (c * s)).map fun k => ((h : Nat) : Int) + cp.getD (k / s) 0 * (s : Nat) + pr.getD (k % s) 0).map D.int)] := ⟨_, rfl⟩
  have od2 : Od S S2 := by rw [hS2]; exact od1.snoc
  rw [← hS2]
  obtain ⟨r, hr⟩ : ∃ r, r = S2.length := ⟨_, rfl⟩
  obtain ⟨S3, hS3⟩ : ∃ S3, S3 = S2 ++ [Ob.lst ((rawL c s h cp pr).map D.int)] := ⟨_, rfl⟩
  have q3 : S3[r]? = some (.lst ((rawL c s h cp pr).map D.int)) := by rw [hS3, hr]; exact last1
  have od3 : Od S S3 := by rw [hS3]; exact od2.snoc
  rw [← hS3, ← hr]
  refine ws_seq ?_
  have nlen : (((nm.map D.int).length : Nat) : Int) = (m : Nat) := by rw [List.length_map, hn.ln]
  push_cast [app_get (T := [Ob.lst [D.int 0]]) (od3.get h1), nlen, v_mulL, last1, Int.toNat_natCast]
  refine ⟨⟨by omega, by omega, by omega⟩, ?_⟩
  rw [show (List.map D.int nm).length = m by rw [List.length_map, hn.ln], rep00]
  obtain ⟨z, hz⟩ : ∃ z, z = (S3 ++ [Ob.lst [D.int 0]]).length := ⟨_, rfl⟩
  obtain ⟨S4, hS4⟩ : ∃ S4, S4 = S3 ++ [Ob.lst [D.int 0]] ++ [Ob.lst ((List.replicate m (0 : Int)).map D.int)] := ⟨_, rfl⟩
  have q4 : S4[z]? = some (.lst ((List.replicate m (0 : Int)).map D.int)) := by rw [hS4, hz]; exact last1
  have od34 : Od S3 S4 := by rw [hS4]; exact Od.app.snoc
  have zS : S3.length < z := by rw [hz]; simp
  rw [← hS4, ← hz]
  have od4 := od3.trans od34
  have l3 := od3.1
  have rl := getlt q3
  refine ws_seq ?_
  push_cast [od34.get q3]
  refine w_for (I := fun j env S' => Od S S' ∧ S'[r]? = some (.lst ((rawL c s h cp pr).map D.int)) ∧ ∃ (Gs : List Int) (w9 w11 : Option D), env = [some (.ref pn), some (.tup [.int (c : Nat), .int (s : Nat), .int (h : Nat)]), some (.ref pc), some (.ref pp), some (.bl f), some (.int (c : Nat)), some (.int (s : Nat)), some (.int (h : Nat)), some (.ref r), w9, some (.ref z), w11] ∧ S'[z]? = some (.lst (Gs.map D.int)) ∧ Gs.length = m ∧ ∀ i, i < j → i < m → Gs.getD (nm.getD i 0).toNat 0 = nm.getD ((rawL c s h cp pr).getD i 0).toNat 0) ?_ ?_ ?_
  · exact ⟨od4, od34.get q3, List.replicate m 0, _, _, rfl, q4, by simp, fun i h => by omega⟩
  · rintro j d env S5 hj ⟨od5, q5, Gs, w9, w11, rfl, z5, gl, dn⟩
    obtain ⟨x, hx, rfl⟩ := enum_at hj
    rw [List.getElem?_map] at hx
    cases hrj : (rawL c s h cp pr)[j]? with
    | none => rw [hrj] at hx; cases hx
    | some y =>
      rw [hrj] at hx
      simp only [Option.map_some, Option.some.injEq] at hx
      subst hx
      have jm : j < m := by have := (List.getElem?_eq_some_iff.mp hrj).1; rw [R.ln] at this; exact this
      have ey : (rawL c s h cp pr).getD j 0 = y := by rw [List.getD_eq_getElem?_getD, hrj]; rfl
      have yb := R.atN jm
      rw [ey] at yb
      have nb := hn.atN jm
      refine ⟨q5, ?_⟩
      have a1 : atI (nm.map D.int) y = some (.int (nm.getD y.toNat 0)) := by
        obtain ⟨v, rfl⟩ : ∃ v : Nat, y = (v : Nat) := ⟨y.toNat, by omega⟩
        exact ys_at (by rw [hn.ln]; omega)
      have a2 : atI (nm.map D.int) (j : Nat) = some (.int (nm.getD j 0)) := ys_at (by rw [hn.ln]; exact jm)
      push_cast [od5.get h1, a1, a2, z5]
      refine ⟨(nm.getD j 0).toNat, ixN_lt nb.1 (by rw [List.length_map, gl]; exact nb.2), od5.set (by omega), ?_, Gs.set (nm.getD j 0).toNat (nm.getD y.toNat 0), _, _, rfl, ?_, by rw [List.length_set]; exact gl, fun i hi im => ?_⟩
      · rw [List.getElem?_set_ne (by omega)]
        exact q5
      · rw [List.getElem?_set_self (getlt z5), List.map_set]
      · by_cases e : i = j
        · subst e
          rw [ey, List.getD_eq_getElem?_getD, List.getElem?_set_self (by rw [gl]; omega)]
          rfl
        · have ni := hn.atN im
          have ne : ¬ (nm.getD j 0).toNat = (nm.getD i 0).toNat := fun q => e (hn.injN im jm (by omega))
          rw [List.getD_eq_getElem?_getD, List.getElem?_set_ne ne, ← List.getD_eq_getElem?_getD]
          exact dn i (by omega) im
  · rintro env S5 ⟨od5, q5, Gs, w9, w11, rfl, z5, gl, dn⟩
    refine ⟨q5, ?_⟩
    rw [enum_len, List.length_map, R.ln] at dn
    push_cast [z5]
    exact w_gc_take (by simp [D.cl, clL, clL_ints]) od5.take ⟨rfl, Gs, rfl, Pm.of_map hn R gl fun i hi => dn i hi hi⟩
end
end Mi_k25

set_option linter.all false
set_option autoImplicit false
set_option maxRecDepth 100000
set_option maxHeartbeats 4000000
namespace Mi_k25
open PySem Lk L2
section
variable {Q : D → Store → Prop} {X : XP} {P : Po}
/-- a comprehension whose elements are ints that draws tell -/
theorem lcd_w {gd : Store → Prop} {g : Tg} {me : ME} {env : Lk.Env} {S : Store} {items : List D} {n : Nat} {k : Int} {Pr : Int → Prop} (h : Sr S n k) (hgd : ∀ S', Ag S n S' → gd S') (hl : items.length ≤ 1000)
    (hm : ∀ d ∈ items, ∃ e1, g.put d env = some e1 ∧ ∀ (S' : Store) (k' : Int), k' ≤ k + 1000 → Sr S' n k' → Ag S n S' → Wr (me e1 S') (fun y S2 => ∃ x, y = .int x ∧ Pr x ∧ Sr S2 n (k' + 1) ∧ Ch S' n S2) noX)
    (hQ : ∀ (xs : List Int) (S' : Store), xs.length = items.length → (∀ x ∈ xs, Pr x) → Sr S' n (k + (items.length : Nat)) → Ag S n S' → S'[S.length]? = some (.lst (xs.map D.int)) → Q (.ref S.length) S') :
    Wr (lcGo gd g mYes me env S.length items (S ++ [.lst []])) Q X := by
  have lm := lim_16
  have nl := h.lt
  refine w_lcGo (J := fun rest rs S' => ∃ xs : List Int, rs = xs.map D.int ∧ (∀ x ∈ xs, Pr x) ∧ xs.length + rest.length = items.length ∧ Ag S n S' ∧ Sr S' n (k + (xs.length : Nat))) ?_ items [] _ (by simp; omega) ?_ ⟨[], rfl, by simp, by simp, .app _ _ _, by simpa using h.app⟩ last1
  · rintro rs S' ⟨xs, rfl, h1, h2, h3, h4⟩ hp
    have e : xs.length = items.length := by simpa using h2
    exact ⟨hgd S' h3, hQ xs S' e h1 (by rw [← e]; exact h4) h3 hp⟩
  · rintro d ds' rs S' ⟨pre, hpre⟩ ⟨xs, rfl, h1, h2, h3, h4⟩ hp
    obtain ⟨e1, p1, p2⟩ := hm d (by rw [hpre]; simp)
    refine ⟨hgd S' h3, e1, p1, ?_⟩
    have hy : ∀ (env : Lk.Env) (S : Store), mYes env S = .ok true S := fun _ _ => rfl
    rw [hy, w_ok, if_pos rfl]
    simp only [List.length_cons] at h2
    refine (p2 S' _ (by omega) h4 h3).to ?_
    rintro _ S2 ⟨x, rfl, px, s2, c2⟩
    have l3 := h3.1
    have hp2 := ag_get c2.ag hp (by omega)
    have pl := getlt hp2
    refine ⟨hp2, xs ++ [x], by simp, fun y hy => ?_, by simp; omega, ag_set (h3.trans c2.ag) (Nat.le_refl _), ?_⟩
    · rcases List.mem_append.mp hy with z | z
      · exact h1 y z
      · rw [List.mem_singleton.mp z]
        exact px
    · exact (s2.ag (n := n) (m := S.length) (Ch.ag ⟨_, rfl⟩) (by omega)).mono (by simp; omega)
theorem draws_w {S : Store} {n : Nat} {k m : Int} {env : Lk.Env} {g : Tg} {me : ME} {items : List D} {gd : Store → Prop} (h : Sr S n k) (hk : k < 90000) (hm : 0 < m) (hm2 : m ≤ 1000000) (hgd : ∀ S', Ag S n S' → gd S') (hl : items.length ≤ 1000) (he : ∀ d ∈ items, ∃ e1, g.put d env = some e1 ∧ ∀ S', me e1 S' = f__law_draw [.ref n, .int m] S')
    (hQ : ∀ (xs : List Int) (S' : Store), xs.length = items.length → (∀ x ∈ xs, 0 ≤ x ∧ x < m) → Sr S' n (k + (items.length : Nat)) → Ag S n S' → S'[S.length]? = some (.lst (xs.map D.int)) → Q (.ref S.length) S') :
    Wr (lcGo gd g mYes me env S.length items (S ++ [.lst []])) Q X := lcd_w (Pr := fun x => 0 ≤ x ∧ x < m) h hgd hl (fun d hd => by
  obtain ⟨e1, h1, h2⟩ := he d hd
  refine ⟨e1, h1, fun S' k' hk' s' _ => ?_⟩
  rw [h2]
  refine (dr_w s' (by omega) hm (bs (by omega) (by omega))).to ?_
  rintro _ S2 ⟨r, rfl, r0, r1, s2, c2⟩
  exact ⟨r, rfl, ⟨r0, r1⟩, s2, c2⟩) hQ
end
end Mi_k25

set_option linter.all false
set_option autoImplicit false
set_option maxRecDepth 100000
set_option maxHeartbeats 4000000
namespace Mi_k25
open PySem Lk L2
section
variable {Q : D → Store → Prop} {X : XP} {P : Po}
theorem tops_w {S : Store} {n pf c s h : Nat} {k W : Int} {sw mi : Bool} {fl : List Int} (hs : Sr S n k) (hk : k < 50000) (hf : Pm s fl) (c1 : 1 ≤ c) (c12 : c ≤ 12) (s12 : s ≤ 12) (cs12 : c * s + h ≤ 12) (W1 : 1 ≤ W) (W2 : W ≤ 100000) (h1 : S[pf]? = some (.lst (fl.map D.int))) (fn : pf ≠ n) :
    Wr (f__law_even_tops [.ref n, .tup [.int (c : Nat), .int (s : Nat), .int (h : Nat)], .tup [.bl sw, .bl mi], .ref pf, .int W] S) (fun d S' => Sr S' n (k + 100) ∧ Ag S n S' ∧ ∃ (q : Nat) (xs : List Int), d = .ref q ∧ S.length ≤ q ∧ S'[q]? = some (.lst (xs.map D.int)) ∧ xs.length = c * s + h ∧ ∀ x ∈ xs, 0 ≤ x ∧ x < W) noX := by
  have lm := lim_16
  have nl := hs.lt
  have pl := getlt h1
  have Wz : ¬ W = 0 := by omega
  have fmW := fun z => fmd_p (i := z) (show 0 < W by omega)
  have ecs : ((c : Nat) : Int) * ((s : Nat) : Int) = ((c * s : Nat) : Int) := by push_cast; rfl
  have bdcs : bd ((c * s : Nat) : Int) := bd_small (by omega)
  have bds : bd ((s : Nat) : Int) := bd_small (by omega)
  have bdh : bd ((h : Nat) : Int) := bd_small (by omega)
  have bcs : bits ((c : Nat) : Int) + bits ((s : Nat) : Int) < 1000000 := bk1 (by omega) (by omega)
  have bb : ∀ x y : Int, -100000000 ≤ x → x ≤ 100000000 → -100000000 ≤ y → y ≤ 100000000 → bits x + bits y < 1000000 := fun x y a b c d => by
    have := bits_small (i := x) (by omega) (by omega)
    have := bits_small (i := y) (by omega) (by omega)
    omega
  refine w_def ?_
  unfold b__law_even_tops
  refine ws_seq ?_
  push_cast []
  refine ws_seq ?_
  push_cast []
  refine ws_seq ?_
  push_cast []
  refine (dr_w hs (m := (c : Nat)) (by omega) (by omega) (bs (by omega) (by omega))).to ?_
  rintro _ S1 ⟨ti, rfl, ti0, ti1, s1, u1⟩
  refine ws_seq ?_
  refine Ws.mono (P := ⟨fun e S' => S' = S1 ∧ ∃ t' : Int, (0 ≤ t' ∧ t' ≤ 12) ∧ e = [some (.ref n), some (.tup [.int (c : Nat), .int (s : Nat), .int (h : Nat)]), some (.tup [.bl sw, .bl mi]), some (.ref pf), some (.int W), some (.int (c : Nat)), some (.int (s : Nat)), some (.int (h : Nat)), some (.bl sw), some (.bl mi), some (.int t'), none, none, none, none, none, none, none], fun _ _ => False, fun _ _ => False, fun _ _ => False, fun _ _ _ _ => False⟩) ?_ ?_ (fun _ _ h => h.elim) (fun _ _ h => h.elim) (fun _ _ h => h.elim) (fun _ _ _ _ h => h.elim)
  · by_cases z1 : (0 : Int) < (h : Nat)
    · push_cast [z1, decide_true]
      exact ⟨0, by decide, rfl⟩
    · cases sw with
      | false =>
        push_cast [z1, decide_false]
        exact ⟨ti, by omega, rfl⟩
      | true =>
        by_cases z2 : (2 : Int) < (c : Nat)
        · push_cast [z1, decide_false, z2, decide_true]
          exact ⟨0, by decide, rfl⟩
        · push_cast [z1, decide_false, z2]
          exact ⟨ti, by omega, rfl⟩
  clear ti0 ti1
  rintro _ _ ⟨rfl, ti, ⟨ti0, ti1⟩, rfl⟩
  refine ws_seq ?_
  push_cast []
  refine (dr_w s1 (m := W) (by omega) (by omega) (bs (by omega) (by omega))).to ?_
  rintro _ S2 ⟨md, rfl, md0, md1, s2, u2⟩
  have a2 : Ag S n S2 := u1.ag.trans u2.ag
  have l2 := a2.1
  refine ws_seq ?_
  have n2 : ¬ (2 : Int) = 0 := by decide
  have b2 : bits 2 < 9000 := bk9 (by omega)
  have f2 := fun z => fdv_pos (i := z) (show (0 : Int) < 2 by decide)
  push_cast [n2, b2, f2]
  obtain ⟨hf_, hhf⟩ : ∃ hf_, hf_ = W / 2 := ⟨_, rfl⟩
  have hfb : 0 ≤ hf_ ∧ hf_ ≤ 100000 := by omega
  rw [← hhf]
  refine ws_seq ?_
  push_cast [bds, Int.toNat_natCast]
  refine draws_w (m := W) s2 (by omega) (by omega) (by omega) (fun _ _ => trivial) (by simp [rngI]; omega) (fun d hd => ⟨_, rfl, fun S' => rfl⟩) ?_
  intro fs S3 fsl fsb s3 a3 q3
  have fsl : fs.length = s := by rw [fsl]; simp [rngI]
  rw [show (rngI 0 s).length = s by simp [rngI]] at s3
  obtain ⟨p, hp⟩ : ∃ p, p = S2.length := ⟨_, rfl⟩
  rw [← hp] at q3 ⊢
  have a23 := a2.trans a3
  refine ws_seq ?_
  push_cast [bds, Int.toNat_natCast]
  refine w_for (I := fun j env S' => Ag S n S' ∧ Sr S' n (k + 20 + (j : Nat)) ∧ ∃ (Fs : List Int) (w14 : Option D), env = [some (.ref n), some (.tup [.int (c : Nat), .int (s : Nat), .int (h : Nat)]), some (.tup [.bl sw, .bl mi]), some (.ref pf), some (.int W), some (.int (c : Nat)), some (.int (s : Nat)), some (.int (h : Nat)), some (.bl sw), some (.bl mi), some (.int ti), some (.int md), some (.int hf_), some (.ref p), w14, none, none, none] ∧ S'[p]? = some (.lst (Fs.map D.int)) ∧ Fs.length = s ∧ ∀ x ∈ Fs, -(400000 * ((j : Nat) + 1)) ≤ x ∧ x ≤ 400000 * ((j : Nat) + 1)) ?_ ?_ ?_
  · exact ⟨a23, s3.mono (by omega), fs, _, rfl, q3, fsl, fun x hx => by have := fsb x hx; omega⟩
  · rintro j d env S4 hj ⟨a4, s4, Fs, w14, rfl, q4, fl4, fb4⟩
    obtain ⟨jl, rfl⟩ := rng_get hj
    refine ⟨trivial, ?_⟩
    have hf4 := ag_get a4 h1 fn
    have fj := hf.atN jl
    have atf : atI (fl.map D.int) (j : Nat) = some (.int (fl.getD j 0)) := ys_at (by rw [hf.ln]; exact jl)
    have p4 := getlt q4
    have atF : atI (Fs.map D.int) (j : Nat) = some (.int (Fs.getD j 0)) := ys_at (by omega)
    have Fjb := fb4 (Fs.getD j 0) (by
      rw [List.getD_eq_getElem?_getD, List.getElem?_eq_getElem (by omega)]
      exact List.getElem_mem _)
    have A : Ag S n S4 ∧ Sr S4 n (k + 20 + ((j + 1 : Nat) : Int)) ∧ ∀ x ∈ Fs, -(400000 * (((j + 1 : Nat) : Int) + 1)) ≤ x ∧ x ≤ 400000 * (((j + 1 : Nat) : Int) + 1) := ⟨a4, s4.mono (by omega), fun x hx => by have := fb4 x hx; omega⟩
    have B : ∀ (S5 : Store) (i : Nat) (v : Int), Ag S n S5 → Sr S5 n (k + 20 + (j : Nat) + 1) → S5[p]? = some (.lst (Fs.map D.int)) → -(400000 * (((j + 1 : Nat) : Int) + 1)) ≤ v ∧ v ≤ 400000 * (((j + 1 : Nat) : Int) + 1) → Ag S n (S5.set p (.lst ((Fs.map D.int).set i (.int v)))) ∧ Sr (S5.set p (.lst ((Fs.map D.int).set i (.int v)))) n (k + 20 + ((j + 1 : Nat) : Int)) ∧ (S5.set p (.lst ((Fs.map D.int).set i (.int v))))[p]? = some (.lst ((Fs.set i v).map D.int)) ∧ (Fs.set i v).length = s ∧ ∀ x ∈ Fs.set i v, -(400000 * (((j + 1 : Nat) : Int) + 1)) ≤ x ∧ x ≤ 400000 * (((j + 1 : Nat) : Int) + 1) := fun S5 i v a5 s5 q5 vb => by
      refine ⟨ag_set a5 (by omega), (s5.ag (n := n) (m := p) (Ch.ag ⟨_, rfl⟩) (by omega)).mono (by omega), ?_, by rw [List.length_set]; exact fl4, fun x hx => ?_⟩
      · rw [List.getElem?_set_self (getlt q5), List.map_set]
      · rcases List.mem_or_eq_of_mem_set hx with z | z
        · have := fb4 x z
          omega
        · rw [z]
          exact vb
    push_cast []
    refine ws_seq ?_
    cases mi with
    | false =>
      push_cast []
      exact ⟨A.1, A.2.1, Fs, _, rfl, q4, fl4, A.2.2⟩
    | true =>
      by_cases e1 : fl.getD j 0 = (j : Nat)
      · have gt : ¬ ((j : Nat) : Int) < fl.getD j 0 := by omega
        push_cast [hf4, atf, e1, decide_true]
        refine (dr_w s4 (m := 2) (by omega) (by decide) (bs (by decide) (by decide))).to ?_
        rintro _ S5 ⟨r, rfl, r0, r1, s5, u5⟩
        have q5 := ag_get u5.ag q4 (by omega)
        have b5 := bb hf_ r (by omega) (by omega) (by omega) (by omega)
        have a5 := a4.trans u5.ag
        have vb : 0 ≤ hf_ * r ∧ hf_ * r ≤ 100000 := by
          have : r = 0 ∨ r = 1 := by omega
          rcases this with rfl | rfl <;> omega
        obtain ⟨g1, g2, g3, g4, g5⟩ := B S5 j (md + hf_ * r) a5 s5 q5 (by omega)
        have hf5 := ag_get g1 h1 fn
        push_cast [b5, q5]
        refine ⟨j, by have := ixN_lt (show (0 : Int) ≤ ((j : Nat) : Int) by omega) (show ((j : Nat) : Int) < (((Fs.map D.int).length : Nat) : Int) by rw [List.length_map]; omega); simpa using this, ?_⟩
        push_cast [hf5, atf, gt, decide_false]
        exact ⟨g1, g2, _, _, rfl, g3, g4, g5⟩
      · push_cast [hf4, atf, e1, decide_false]
        by_cases gt : ((j : Nat) : Int) < fl.getD j 0
        · have b5 := bb 2 md (by omega) (by omega) (by omega) (by omega)
          obtain ⟨g1, g2, g3, g4, g5⟩ := B S4 (fl.getD j 0).toNat (2 * md - Fs.getD j 0) a4 (s4.mono (by omega)) q4 (by omega)
          push_cast [hf4, atf, gt, decide_true, q4, atF, b5]
          exact ⟨(fl.getD j 0).toNat, ixN_lt fj.1 (by rw [List.length_map]; omega), g1, g2, _, _, rfl, g3, g4, g5⟩
        · push_cast [hf4, atf, gt, decide_false]
          exact ⟨A.1, A.2.1, Fs, _, rfl, q4, fl4, A.2.2⟩
  · rintro env S4 ⟨a4, s4, Fs, w14, rfl, q4, fl4, fb4⟩
    rw [show (rngI 0 s).length = s by simp [rngI]] at s4 fb4
    refine ⟨trivial, ?_⟩
    have p4 := getlt q4
    refine ws_seq ?_
    have cz : ¬ ((c : Nat) : Int) = 0 := by omega
    have cb : bits ((c : Nat) : Int) < 9000 := bk9 (by omega)
    have fc := fun z => fdv_pos (i := z) (show 0 < ((c : Nat) : Int) by omega)
    have wc : 0 ≤ W / ((c : Nat) : Int) ∧ W / ((c : Nat) : Int) ≤ 100000 := ⟨Int.ediv_nonneg (by omega) (by omega), Int.le_trans (Int.ediv_le_self _ (by omega)) W2⟩
    have b6 := bb ti (W / ((c : Nat) : Int)) (by omega) (by omega) (by omega) (by omega)
    push_cast [cz, cb, fc, b6]
    obtain ⟨st, hst⟩ : ∃ st, st = ti * (W / ((c : Nat) : Int)) := ⟨_, rfl⟩
    have stb : 0 ≤ st ∧ st ≤ 1200000 := by
      rw [hst]
      refine ⟨Int.mul_nonneg ti0 wc.1, ?_⟩
      have : ti * (W / ((c : Nat) : Int)) ≤ 12 * 100000 := Int.mul_le_mul ti1 wc.2 wc.1 (by decide)
      omega
    rw [← hst]
    refine ws_seq ?_
    push_cast [bdh, Int.toNat_natCast]
    refine lcd_w (Pr := fun _ => True) s4 (fun _ _ => trivial) (by simp [rngI]; omega) (fun d hd => ⟨_, rfl, fun S5 k' hk' s5 _ => ?_⟩) ?_
    · have bm : ∀ r : Int, 0 ≤ r → r < 2 → bits (hf_ * (if mi = true then 1 else 0)) + bits r < 1000000 := fun r r0 r1 => by
        cases mi <;> simp only [Bool.false_eq_true, if_true, if_false, Int.mul_one, Int.mul_zero] <;> exact bb _ _ (by omega) (by omega) (by omega) (by omega)
      have bm0 : bits hf_ + bits (if mi = true then (1 : Int) else 0) < 1000000 := by cases mi <;> exact bb _ _ (by omega) (by omega) (by decide) (by decide)
      push_cast [bm0]
      refine (dr_w s5 (m := 2) (by omega) (by decide) (bs (by decide) (by decide))).to ?_
      rintro _ S6 ⟨r, rfl, r0, r1, s6, u6⟩
      push_cast [bm r r0 r1]
      exact ⟨s6, u6⟩
    intro hx S5 hxl _ s5 a5 q5
    have hxl : hx.length = h := by rw [hxl]; simp [rngI]
    rw [show (rngI 0 h).length = h by simp [rngI]] at s5
    have a45 := a4.trans a5
    have l4 := a4.1
    have q45 := ag_get a5 q4 (by omega)
    have q5l := getlt q5
    refine ws_seq ?_
    push_cast [bcs, ecs, bdcs, Int.toNat_natCast]
    refine w_lcM (fun d => match d with | .int v => .int (Fs.getD (v.toNat % s) 0 + ((v.toNat / s : Nat) : Int) * st) | d => d) (fun T => trivial) (by simp [rngI]; omega) ?_ ?_
    · intro d hd a
      obtain ⟨v, hv⟩ := List.getElem?_of_mem hd
      obtain ⟨vl, rfl⟩ := rng_get hv
      have s0 : 0 < s := Nat.pos_of_ne_zero fun e => by rw [e, Nat.mul_zero] at vl; omega
      have d1 : v / s < c := (Nat.div_lt_iff_lt_mul s0).mpr vl
      have d2 : v % s < s := Nat.mod_lt _ s0
      have sz : ¬ ((s : Nat) : Int) = 0 := by omega
      have sb : bits ((s : Nat) : Int) < 9000 := bk9 (by omega)
      have f1 : fdv ((v : Nat) : Int) ((s : Nat) : Int) = ((v / s : Nat) : Int) := by rw [fdv_pos (by omega)]; push_cast; rfl
      have f2' : fmd ((v : Nat) : Int) ((s : Nat) : Int) = ((v % s : Nat) : Int) := by rw [fmd_p (by omega)]; push_cast; rfl
      have a2' : atI (Fs.map D.int) ((v % s : Nat) : Int) = some (.int (Fs.getD (v % s) 0)) := ys_at (by omega)
      have b1 : bits ((v / s : Nat) : Int) + bits st < 1000000 := bb _ _ (Int.le_trans (by decide) (Int.natCast_nonneg _)) (Int.le_trans (Int.ofNat_le.mpr (show v / s ≤ 12 by omega)) (by decide)) (by omega) (by omega)
      have q' := app_get (T := [Ob.lst a]) q45
      refine ⟨_, rfl, ?_⟩
      push_cast [sz, sb, f1, f2', a2', b1, q']
    have el : (rngI 0 (c * s)).map (fun d => match d with | .int v => D.int (Fs.getD (v.toNat % s) 0 + ((v.toNat / s : Nat) : Int) * st) | d => d) = ((List.range (c * s)).map fun v => Fs.getD (v % s) 0 + ((v / s : Nat) : Int) * st).map D.int := by
      simp only [rngI, List.map_map]
      refine List.map_congr_left fun v _ => ?_
      simp
    rw [el]
    obtain ⟨ys, hys⟩ : ∃ ys, ys = (List.range (c * s)).map fun v => Fs.getD (v % s) 0 + ((v / s : Nat) : Int) * st := ⟨_, rfl⟩
    have ysl : ys.length = c * s := by rw [hys]; simp
    rw [← hys]
    push_cast [app_get (T := [Ob.lst (ys.map D.int)]) q5, last1]
    refine ⟨by rw [List.length_map, List.length_map]; omega, ?_⟩
    rw [← List.map_append]
    refine w_lcM (fun d => match d with | .int v => .int (v % W) | d => d) (fun T => app_get last1) (by rw [List.length_map, List.length_append]; omega) ?_ ?_
    · intro d hd a
      obtain ⟨v, _, rfl⟩ := List.mem_map.mp hd
      refine ⟨_, rfl, ?_⟩
      push_cast [setL, Wz, fmW]
    have em : ((hx ++ ys).map D.int).map (fun d => match d with | .int v => D.int (v % W) | d => d) = ((hx ++ ys).map fun v => v % W).map D.int := by
      rw [List.map_map, List.map_map]
      rfl
    rw [em]
    refine w_gc_new (by have := a45.1; simp; omega) ⟨((s5.app.app).app).mono (by omega), ((a45.trans (Ag.app _ _ _)).trans (Ag.app _ _ _)).trans (Ag.app _ _ _), _, _, rfl, by have := a45.1; simp; omega, last1, by rw [List.length_map, List.length_append]; omega, fun x hx' => ?_⟩
    obtain ⟨v, _, rfl⟩ := List.mem_map.mp hx'
    exact ⟨Int.emod_nonneg _ Wz, Int.emod_lt_of_pos _ (by omega)⟩
end
end Mi_k25

set_option linter.all false
set_option autoImplicit false
set_option maxRecDepth 100000
set_option maxHeartbeats 4000000
namespace Mi_k25
open PySem Lk L2
section
variable {Q : D → Store → Prop} {X : XP} {P : Po}
/-! the orders of the copies -/
theorem pm_rot {c : Nat} : Pm c ((rngZ c).drop 1 ++ (rngZ c).take 1) := perm_of (List.perm_append_comm.trans (by rw [List.take_append_drop]))
theorem pm_rev {c : Nat} : Pm c (rngZ c).reverse := perm_of (List.reverse_perm _)
theorem pm_swap {c : Nat} (h : 2 ≤ c) : Pm c ([1, 0] ++ (rngZ c).drop 2) := perm_of (by
  obtain ⟨d, rfl⟩ : ∃ d, c = d + 2 := ⟨c - 2, by omega⟩
  have e : rngZ (d + 2) = 0 :: 1 :: (rngZ (d + 2)).drop 2 := by
    unfold rngZ
    rw [List.range_succ_eq_map, List.range_succ_eq_map]
    rfl
  have p : ([1, 0] ++ (rngZ (d + 2)).drop 2).Perm (0 :: 1 :: (rngZ (d + 2)).drop 2) := List.Perm.swap _ _ _
  rw [← e] at p
  exact p)
theorem pm_neg {c : Nat} (h : 1 ≤ c) : Pm c ((rngZ c).map fun k => ((c : Nat) - k) % (c : Nat)) := Pm.of (by simp [rngZ]) (fun i hi => by
  have e : ((rngZ c).map fun k => (((c : Nat) : Int) - k) % (c : Nat)).getD i 0 = (((c : Nat) : Int) - (i : Nat)) % (c : Nat) := by
    rw [List.getD_eq_getElem?_getD, List.getElem?_eq_getElem (by simp [rngZ]; omega)]
    simp [rngZ]
  rw [e]
  exact ⟨Int.emod_nonneg _ (by omega), Int.emod_lt_of_pos _ (by omega)⟩) (fun i j hi hj he => by
  have e : ∀ i, i < c → ((rngZ c).map fun k => (((c : Nat) : Int) - k) % (c : Nat)).getD i 0 = if i = 0 then 0 else ((c : Nat) : Int) - (i : Nat) := fun i hi => by
    rw [List.getD_eq_getElem?_getD, List.getElem?_eq_getElem (by simp [rngZ]; omega)]
    simp only [rngZ, List.getElem_map, List.getElem_range, Option.getD_some]
    split
    · next h => subst h; simp
    · exact Int.emod_eq_of_lt (by omega) (by omega)
  rw [e i hi, e j hj] at he
  split at he <;> split at he <;> omega)
/-- what lines answer -/
def LnO (S : Store) (L q : Nat) (b : Int) (m : Nat) (wh : Bool) : Prop := ∃ (g t e : Nat) (pt : Int) (G : List Gnr) (xs : List Int), S[q]? = some (.lst [.ref g, .ref t, .int pt]) ∧ L ≤ g ∧ L ≤ t ∧ S[g]? = some (.lst (G.map gD)) ∧ G.length ≤ 4 ∧ (∀ x ∈ G, Pm e x.1) ∧ S[t]? = some (.lst (xs.map D.int)) ∧ xs.length = e ∧ 1 ≤ e ∧ e ≤ m ∧ (1 ≤ pt ∧ pt ≤ 24) ∧ (wh = true → pt = 1) ∧ ∀ x ∈ xs, 0 ≤ x ∧ x < b * pt
theorem shape_ok {c h s m : Nat} {r : Int} (r0 : 0 ≤ r) (r3 : r < 3) (c1 : 1 ≤ c) (c4 : c ≤ 4) (h1 : h ≤ 1) (hc : h = 1 → c < m) (cm : c ≤ m) (m12 : m ≤ 12) (e : ((s : Nat) : Int) = if (if (((m : Nat) : Int) - (h : Nat)) / (c : Nat) < r + 1 + (if ((c : Nat) : Int) = 1 then 1 else 0) then (((m : Nat) : Int) - (h : Nat)) / (c : Nat) else r + 1 + (if ((c : Nat) : Int) = 1 then 1 else 0)) > 1 then (if (((m : Nat) : Int) - (h : Nat)) / (c : Nat) < r + 1 + (if ((c : Nat) : Int) = 1 then 1 else 0) then (((m : Nat) : Int) - (h : Nat)) / (c : Nat) else r + 1 + (if ((c : Nat) : Int) = 1 then 1 else 0)) else 1) : 1 ≤ s ∧ s ≤ 4 ∧ c * s + h ≤ m := by
  obtain ⟨d, hd⟩ : ∃ d, d = (((m : Nat) : Int) - (h : Nat)) / (c : Nat) := ⟨_, rfl⟩
  rw [← hd] at e
  have cz : (0 : Int) < (c : Nat) := by omega
  have dm : d * (c : Nat) ≤ ((m : Nat) : Int) - (h : Nat) := by rw [hd]; exact Int.ediv_mul_le _ (by omega)
  obtain ⟨w, hw⟩ : ∃ w, w = r + 1 + (if ((c : Nat) : Int) = 1 then (1 : Int) else 0) := ⟨_, rfl⟩
  rw [← hw] at e
  have wb : 1 ≤ w ∧ w ≤ 4 := by
    rw [hw]
    split <;> omega
  have key : ((s : Nat) : Int) ≤ 1 ∨ ((s : Nat) : Int) ≤ d := by
    split at e <;> split at e <;> omega
  have s1 : 1 ≤ s := by split at e <;> omega
  have s4 : s ≤ 4 := by
    have : ((s : Nat) : Int) ≤ 4 := by split at e <;> split at e <;> omega
    omega
  refine ⟨s1, s4, ?_⟩
  rcases key with k | k
  · have : s = 1 := by omega
    subst this
    rcases Nat.eq_zero_or_pos h with z | z
    · omega
    · have := hc (by omega)
      omega
  · have : ((s : Nat) : Int) * (c : Nat) ≤ d * (c : Nat) := Int.mul_le_mul_of_nonneg_right k (by omega)
    have e2 : ((c * s + h : Nat) : Int) = ((s : Nat) : Int) * (c : Nat) + (h : Nat) := by
      push_cast
      rw [Int.mul_comm]
    have : ((c * s + h : Nat) : Int) ≤ (m : Nat) := by rw [e2]; omega
    omega
end
end Mi_k25

set_option linter.all false
set_option autoImplicit false
set_option maxRecDepth 100000
set_option maxHeartbeats 4000000
namespace Mi_k25
open PySem Lk L2
section
variable {Q : D → Store → Prop} {X : XP} {P : Po}
/-- a statement that only goes on, cut off from what follows -/
theorem ws_cut {a b : MS} {env : Lk.Env} {S : Store} (R : Lk.Env → Store → Prop) (h : Ws (a env S) ⟨R, fun _ _ => False, fun _ _ => False, fun _ _ => False, fun _ _ _ _ => False⟩) (h2 : ∀ e S', R e S' → Ws (b e S') P) : Ws (mSeq a b env S) P :=
  ws_seq (Ws.mono h (fun e S' hr => h2 e S' hr) (fun _ _ h => h.elim) (fun _ _ h => h.elim) (fun _ _ h => h.elim) (fun _ _ _ _ h => h.elim))
structure GI (S0 : Store) (n : Nat) (K : Int) (z p pf pq g c s e : Nat) (fl nm : List Int) (G : List Gnr) (S' : Store) : Prop where
  sr : Sr S' n K
  ag : Ag S0 n S'
  hz : S'[z]? = some (.lst ((rngZ c).map D.int))
  hp : S'[p]? = some (.lst ((rngZ s).map D.int))
  hf : S'[pf]? = some (.lst (fl.map D.int))
  hq : S'[pq]? = some (.lst (nm.map D.int))
  hg : S'[g]? = some (.lst (G.map gD))
  pm : ∀ x ∈ G, Pm e x.1
  ne : g ≠ n ∧ g ≠ z ∧ g ≠ p ∧ g ≠ pf ∧ g ≠ pq ∧ S0.length ≤ g
theorem GI.app {S0 : Store} {n : Nat} {K : Int} {z p pf pq g c s e : Nat} {fl nm : List Int} {G : List Gnr} {S' T : Store} (h : GI S0 n K z p pf pq g c s e fl nm G S') : GI S0 n K z p pf pq g c s e fl nm G (S' ++ T) := ⟨h.sr.app, h.ag.trans (Ag.app _ _ _), app_get h.hz, app_get h.hp, app_get h.hf, app_get h.hq, app_get h.hg, h.pm, h.ne⟩
theorem GI.push {S0 : Store} {n : Nat} {K : Int} {z p pf pq g c s e : Nat} {fl nm : List Int} {G : List Gnr} {S' : Store} {x : Gnr} (h : GI S0 n K z p pf pq g c s e fl nm G S') (hx : Pm e x.1) : GI S0 n K z p pf pq g c s e fl nm (G ++ [x]) (S'.set g (.lst (G.map gD ++ [gD x]))) := by
  obtain ⟨h1, h2, h3, h4, h5, h6⟩ := h.ne
  refine ⟨h.sr.ag (n := n) (m := g) (Ch.ag ⟨_, rfl⟩) (by omega), ag_set h.ag h6, ?_, ?_, ?_, ?_, ?_, fun y hy => ?_, h.ne⟩
  · rw [List.getElem?_set_ne (by omega)]; exact h.hz
  · rw [List.getElem?_set_ne (by omega)]; exact h.hp
  · rw [List.getElem?_set_ne (by omega)]; exact h.hf
  · rw [List.getElem?_set_ne (by omega)]; exact h.hq
  · rw [List.getElem?_set_self (getlt h.hg), List.map_append]; rfl
  · rcases List.mem_append.mp hy with w | w
    · exact h.pm y w
    · rw [List.mem_singleton.mp w]; exact hx
theorem GI.raw {S0 : Store} {n : Nat} {K : Int} {z p pf pq g c s h e x y : Nat} {fl nm cp pr : List Int} {G : List Gnr} {S' : Store} {f : Bool} (H : GI S0 n K z p pf pq g c s e fl nm G S') (he : e = c * s + h) (e12 : e ≤ 12) (hn : Pm e nm) (hc : Pm c cp) (hs : Pm s pr) (c12 : c ≤ 12) (s12 : s ≤ 12) (hx : S'[x]? = some (.lst (cp.map D.int))) (hy : S'[y]? = some (.lst (pr.map D.int))) (Gl : G.length ≤ 5) {R : List Gnr → Store → Prop} (hR : ∀ v S1, GI S0 n K z p pf pq g c s e fl nm (G ++ [v]) S1 → R (G ++ [v]) S1) :
    Wr (f__law_raw [.ref pq, .tup [.int (c : Nat), .int (s : Nat), .int (h : Nat)], .ref x, .ref y, .bl f] S') (fun d S1 => ∃ l, S1[g]? = some (.lst l) ∧ l.length < lim ∧ ∃ G', R G' (S1.set g (.lst (l ++ [d])))) noX := by
  have lm := lim_16
  refine (raw_w (f := f) he e12 hn hc hs c12 s12 H.hq hx hy).to ?_
  rintro _ _ ⟨rfl, v, rfl, hv⟩
  exact ⟨_, H.hg, by rw [List.length_map]; omega, _, hR (v, f) _ (H.push hv)⟩
theorem lines_w {S : Store} {n m : Nat} {k b : Int} {wh : Bool} (hs : Sr S n k) (hk : k < 40000) (b1 : 1 ≤ b) (b2 : b ≤ 1440) (m1 : 1 ≤ m) (m12 : m ≤ 12) :
    Wr (f__law_lines [.ref n, .int b, .int (m : Nat), .bl wh] S) (fun d S' => Sr S' n (k + 200) ∧ Ag S n S' ∧ ∃ q, d = .ref q ∧ S.length ≤ q ∧ LnO S' S.length q b m wh) noX := by
  have lm := lim_16
  have nl := hs.lt
  have db : ∀ z : Int, 0 ≤ z → z ≤ 10000 → bits z < 9000 := fun z h0 h1 => bs (by omega) (by omega)
  refine w_def ?_
  unfold b__law_lines
  refine ws_seq ?_
  push_cast []
  refine (dr_w hs (m := 4) (by omega) (by decide) (db _ (by decide) (by decide))).to ?_
  rintro _ S1 ⟨r1, rfl, r10, r11, s1, u1⟩
  obtain ⟨c, hc⟩ : ∃ c : Nat, ((c : Nat) : Int) = if (m : Nat) < 1 + r1 then ((m : Nat) : Int) else 1 + r1 := ⟨(if (m : Nat) < 1 + r1 then ((m : Nat) : Int) else 1 + r1).toNat, by split <;> omega⟩
  have cb : 1 ≤ c ∧ c ≤ 4 ∧ c ≤ m := by split at hc <;> omega
  have a1 := u1.ag
  push_cast []
  rw [← hc]
  refine ws_cut (fun e S' => (Sr S' n (k + 2) ∧ Ag S n S') ∧ ∃ h : Nat, h ≤ 1 ∧ (h = 1 → c < m) ∧ e = [some (.ref n), some (.int b), some (.int (m : Nat)), some (.bl wh), some (.int (c : Nat)), some (.int (h : Nat)), none, none, none, none, none, none, none, none, none, none, none, none, none, none]) ?_ ?_
  · push_cast []
    refine (dr_w s1 (m := 4) (by omega) (by decide) (db _ (by decide) (by decide))).to ?_
    rintro _ S2 ⟨r2, rfl, r20, r21, s2, u2⟩
    have g2 : Sr S2 n (k + 2) ∧ Ag S n S2 := ⟨s2.mono (by omega), a1.trans u2.ag⟩
    by_cases e3 : r2 = 3
    · push_cast [e3, decide_true]
      by_cases cl : ((c : Nat) : Int) < (m : Nat)
      · push_cast [cl, decide_true]
        exact ⟨g2, 1, by decide, fun _ => by omega, rfl⟩
      · push_cast [cl, decide_false]
        exact ⟨g2, 0, by decide, fun h => by omega, rfl⟩
    · push_cast [e3, decide_false]
      exact ⟨g2, 0, by decide, fun h => by omega, rfl⟩
  clear u1 a1 s1
  rintro _ S2 ⟨⟨s2, a2⟩, h, h1, hcm, rfl⟩
  refine ws_cut (fun e S' => (Sr S' n (k + 3) ∧ Ag S n S') ∧ ∃ s : Nat, (1 ≤ s ∧ s ≤ 4 ∧ c * s + h ≤ m) ∧ e = [some (.ref n), some (.int b), some (.int (m : Nat)), some (.bl wh), some (.int (c : Nat)), some (.int (h : Nat)), some (.int (s : Nat)), none, none, none, none, none, none, none, none, none, none, none, none, none]) ?_ ?_
  · have cz : ¬ ((c : Nat) : Int) = 0 := by omega
    have cbt : bits ((c : Nat) : Int) < 9000 := bk9 (by omega)
    have fc := fun z => fdv_pos (i := z) (show 0 < ((c : Nat) : Int) by omega)
    push_cast []
    refine (dr_w s2 (m := 3) (by omega) (by decide) (db _ (by decide) (by decide))).to ?_
    rintro _ S3 ⟨r3, rfl, r30, r31, s3, u3⟩
    push_cast [cz, cbt, fc]
    obtain ⟨z, hz⟩ : ∃ z, z = (if (if (((m : Nat) : Int) - (h : Nat)) / (c : Nat) < r3 + 1 + (if ((c : Nat) : Int) = 1 then 1 else 0) then (((m : Nat) : Int) - (h : Nat)) / (c : Nat) else r3 + 1 + (if ((c : Nat) : Int) = 1 then 1 else 0)) > 1 then (if (((m : Nat) : Int) - (h : Nat)) / (c : Nat) < r3 + 1 + (if ((c : Nat) : Int) = 1 then 1 else 0) then (((m : Nat) : Int) - (h : Nat)) / (c : Nat) else r3 + 1 + (if ((c : Nat) : Int) = 1 then 1 else 0)) else 1) := ⟨_, rfl⟩
    rw [← hz]
    have z1 : 1 ≤ z := by split at hz <;> omega
    obtain ⟨s, rfl⟩ : ∃ s : Nat, z = (s : Nat) := ⟨z.toNat, by omega⟩
    exact ⟨⟨s3.mono (by omega), a2.trans u3.ag⟩, s, shape_ok r30 r31 cb.1 cb.2.1 h1 hcm cb.2.2 m12 hz, rfl⟩
  clear hc r10 r11 r1
  rintro _ S3 ⟨⟨s3, a3⟩, s, ⟨s1, s4, csm⟩, rfl⟩
  have cs16 : c * s ≤ 16 := Nat.le_trans (Nat.mul_le_mul cb.2.1 s4) (by decide)
  have ecs : ((c : Nat) : Int) * ((s : Nat) : Int) = ((c * s : Nat) : Int) := by push_cast; rfl
  have bcs : bits ((c : Nat) : Int) + bits ((s : Nat) : Int) < 1000000 := bk1 (by omega) (by omega)
  refine ws_seq ?_
  push_cast []
  refine ws_cut (fun e S' => (Sr S' n (k + 5) ∧ Ag S n S') ∧ ∃ sw mi : Bool, (sw = true → 2 ≤ c) ∧ e = [some (.ref n), some (.int b), some (.int (m : Nat)), some (.bl wh), some (.int (c : Nat)), some (.int (h : Nat)), some (.int (s : Nat)), some (.tup [.int (c : Nat), .int (s : Nat), .int (h : Nat)]), some (.tup [.bl sw, .bl mi]), none, none, none, none, none, none, none, none, none, none, none]) ?_ ?_
  · push_cast []
    refine (dr_w s3 (m := 3) (by omega) (by decide) (db _ (by decide) (by decide))).to ?_
    rintro _ S4 ⟨r4, rfl, _, _, s4', u4⟩
    have a4 := a3.trans u4.ag
    by_cases e0 : r4 = 0
    · push_cast [e0, decide_true]
      by_cases c1 : (1 : Int) < (c : Nat)
      · push_cast [c1, decide_true]
        refine (dr_w s4' (m := 3) (by omega) (by decide) (db _ (by decide) (by decide))).to ?_
        rintro _ S5 ⟨r5, rfl, _, _, s5, u5⟩
        push_cast []
        exact ⟨⟨s5.mono (by omega), a4.trans u5.ag⟩, _, _, fun _ => by omega, rfl⟩
      · push_cast [c1, decide_false]
        refine (dr_w s4' (m := 3) (by omega) (by decide) (db _ (by decide) (by decide))).to ?_
        rintro _ S5 ⟨r5, rfl, _, _, s5, u5⟩
        push_cast []
        exact ⟨⟨s5.mono (by omega), a4.trans u5.ag⟩, _, _, fun h => (by cases h), rfl⟩
    · push_cast [e0, decide_false]
      refine (dr_w s4' (m := 3) (by omega) (by decide) (db _ (by decide) (by decide))).to ?_
      rintro _ S5 ⟨r5, rfl, _, _, s5, u5⟩
      push_cast []
      exact ⟨⟨s5.mono (by omega), a4.trans u5.ag⟩, _, _, fun h => (by cases h), rfl⟩
  clear s3
  rintro _ S4 ⟨⟨t4, a4⟩, sw, mi, sw2, rfl⟩
  have l4 := a4.1
  have oks := okRg_small (j := (s : Nat)) (by omega) (by omega)
  have okc := okRg_small (j := (c : Nat)) (by omega) (by omega)
  refine ws_seq ?_
  push_cast [v_lstRg1, oks]
  rw [rgD_Z]
  obtain ⟨p, hp⟩ : ∃ p, p = S4.length := ⟨_, rfl⟩
  obtain ⟨S5, hS5⟩ : ∃ S5, S5 = S4 ++ [Ob.lst ((rngZ s).map D.int)] := ⟨_, rfl⟩
  have p5 : S5[p]? = some (.lst ((rngZ s).map D.int)) := by rw [hS5, hp]; exact last1
  have t5 : Sr S5 n (k + 5) := by rw [hS5]; exact t4.app
  have a5 : Ag S n S5 := by rw [hS5]; exact a4.trans (Ag.app _ _ _)
  have pn : p ≠ n := by omega
  rw [← hS5, ← hp]
  -- the flip
  refine ws_cut (fun e S' => (Sr S' n (k + 6) ∧ Ag S5 n S') ∧ ∃ (pf : Nat) (fl : List Int), (pf ≠ n ∧ S.length ≤ pf) ∧ S'[pf]? = some (.lst (fl.map D.int)) ∧ Pm s fl ∧ e = [some (.ref n), some (.int b), some (.int (m : Nat)), some (.bl wh), some (.int (c : Nat)), some (.int (h : Nat)), some (.int (s : Nat)), some (.tup [.int (c : Nat), .int (s : Nat), .int (h : Nat)]), some (.tup [.bl sw, .bl mi]), some (.ref p), some (.ref pf), none, none, none, none, none, none, none, none, none]) ?_ ?_
  · push_cast []
    refine (dr_w t5 (m := 2) (by omega) (by decide) (db _ (by decide) (by decide))).to ?_
    rintro _ S6 ⟨r6, rfl, _, _, s6, u6⟩
    have p6 := ag_get u6.ag p5 pn
    have l6 := u6.len
    have l5 := a5.1
    have n6 := s6.lt
    by_cases e0 : r6 = 0
    · push_cast [e0, decide_true, v_revR, p6]
      exact ⟨⟨(s6.app).mono (by omega), u6.ag.trans (Ag.app _ _ _)⟩, _, (rngZ s).reverse, ⟨by omega, by omega⟩, by rw [← List.map_reverse]; exact last1, pm_rev, rfl⟩
    · push_cast [e0, decide_false]
      exact ⟨⟨s6.mono (by omega), u6.ag⟩, _, rngZ s, ⟨pn, by omega⟩, p6, rngZ_pm, rfl⟩
  rintro _ S6 ⟨⟨t6, a56⟩, pf, fl, ⟨pfn, pfS⟩, f6, hfl, rfl⟩
  have p6 := ag_get a56 p5 pn
  have a6 := a5.trans a56
  refine ws_seq ?_
  have em : ((c * s : Nat) : Int) + ((h : Nat) : Int) = ((c * s + h : Nat) : Int) := by push_cast; rfl
  push_cast [bcs, ecs, em]
  obtain ⟨e, he⟩ : ∃ e, e = c * s + h := ⟨_, rfl⟩
  rw [← he]
  refine (perm_w t6 (by omega) (by omega)).to ?_
  rintro _ S7 ⟨pn_, nm, rfl, pnl, q7, hnm, t7, a67⟩
  have l6 := a6.1
  have p7 := ag_get a67 p6 pn
  have f7 := ag_get a67 f6 pfn
  have a7 := a6.trans a67
  have l7 := a7.1
  have n6 := t6.lt
  refine ws_seq ?_
  push_cast [v_lstRg1, okc]
  rw [rgD_Z]
  obtain ⟨z, hz⟩ : ∃ z, z = S7.length := ⟨_, rfl⟩
  obtain ⟨S8, hS8⟩ : ∃ S8, S8 = S7 ++ [Ob.lst ((rngZ c).map D.int)] := ⟨_, rfl⟩
  have z8 : S8[z]? = some (.lst ((rngZ c).map D.int)) := by rw [hS8, hz]; exact last1
  have p8 : S8[p]? = some (.lst ((rngZ s).map D.int)) := by rw [hS8]; exact app_get p7
  have f8 : S8[pf]? = some (.lst (fl.map D.int)) := by rw [hS8]; exact app_get f7
  have q8 : S8[pn_]? = some (.lst (nm.map D.int)) := by rw [hS8]; exact app_get q7
  have t8 : Sr S8 n (k + 6 + (e : Nat)) := by rw [hS8]; exact t7.app
  have a8 : Ag S n S8 := by rw [hS8]; exact a7.trans (Ag.app _ _ _)
  rw [← hS8, ← hz]
  have l8 := a8.1
  have n8 := t8.lt
  -- the first generator
  have rdr : ∀ i : Int, cutD ((rngZ c).map D.int) (some 1) none = ((rngZ c).drop 1).map D.int := fun _ => by rw [cut_drop (by decide), List.map_drop]; rfl
  have rdt : ∀ i : Int, cutD ((rngZ c).map D.int) none (some 1) = ((rngZ c).take 1).map D.int := fun _ => by rw [cut_take (by decide), List.map_take]; rfl
  have rdr := rdr 0
  have rdt := rdt 0
  have z8' := fun T => app_get (T := T) z8
  have rzl : (rngZ c).length = c := by simp [rngZ]
  refine ws_seq ?_
  push_cast [z8, z8', rdr, rdt, last1, app_get last1]
  obtain ⟨T1, hT1⟩ : ∃ T1, T1 = S8 ++ [Ob.lst (((rngZ c).drop 1).map D.int)] ++ [Ob.lst (((rngZ c).take 1).map D.int)] := ⟨_, rfl⟩
  refine ⟨by rw [List.length_map, List.length_map, List.length_drop, List.length_take, rzl]; omega, ?_⟩
  rw [← List.map_append]
  obtain ⟨T2, hT2⟩ : ∃ T2, T2 = S8 ++ [Ob.lst (((rngZ c).drop 1).map D.int)] ++ [Ob.lst (((rngZ c).take 1).map D.int)] ++ [Ob.lst (((rngZ c).drop 1 ++ (rngZ c).take 1).map D.int)] := ⟨_, rfl⟩
  obtain ⟨x2, hx2⟩ : ∃ x2, x2 = (S8 ++ [Ob.lst (((rngZ c).drop 1).map D.int)] ++ [Ob.lst (((rngZ c).take 1).map D.int)]).length := ⟨_, rfl⟩
  have q2 : T2[x2]? = some (.lst (((rngZ c).drop 1 ++ (rngZ c).take 1).map D.int)) := by rw [hT2, hx2]; exact last1
  have up : ∀ {i : Nat} {o : Ob}, S8[i]? = some o → T2[i]? = some o := fun h => by rw [hT2]; exact app_get (app_get (app_get h))
  have o2 : Od S8 T2 := by rw [hT2]; exact (Od.app.snoc).snoc
  rw [← hT2, ← hx2]
  refine (raw_w (f := true) he (by omega) hnm pm_rot rngZ_pm (by omega) (by omega) (up q8) q2 (up p8)).to ?_
  rintro _ T2 ⟨rfl, g1, rfl, hg1⟩
  have L2 := o2.1
  have G1 : GI S n (k + 6 + (e : Nat)) z p pf pn_ T2.length c s e fl nm [(g1, true)] (T2 ++ [.lst [lkD_ g1 true]]) := ⟨(t8.od o2).app, a8.trans (Ag.of_od o2.snoc), app_get (up z8), app_get (up p8), app_get (up f8), app_get (up q8), last1, fun x hx => by rw [List.mem_singleton.mp hx]; exact hg1, by
    have := getlt z8
    have := getlt p8
    have := getlt f8
    have := getlt q8
    omega⟩
  obtain ⟨g, hg⟩ : ∃ g, g = T2.length := ⟨_, rfl⟩
  rw [← hg] at G1 ⊢
  generalize T2 ++ [.lst [lkD_ g1 true]] = S9 at G1 ⊢
  -- the second
  refine ws_cut (fun e' S' => ∃ G : List Gnr, G.length ≤ 2 ∧ GI S n (k + 6 + (e : Nat)) z p pf pn_ g c s e fl nm G S' ∧ e' = [some (.ref n), some (.int b), some (.int (m : Nat)), some (.bl wh), some (.int (c : Nat)), some (.int (h : Nat)), some (.int (s : Nat)), some (.tup [.int (c : Nat), .int (s : Nat), .int (h : Nat)]), some (.tup [.bl sw, .bl mi]), some (.ref p), some (.ref pf), some (.ref pn_), some (.ref z), some (.ref g), none, none, none, none, none, none]) ?_ ?_
  · cases sw with
    | false =>
      push_cast []
      exact ⟨[(g1, true)], by simp, G1⟩
    | true =>
      have c2 := sw2 rfl
      have rdd : cutD ((rngZ c).map D.int) (some 2) none = ((rngZ c).drop 2).map D.int := by rw [cut_drop (by decide), List.map_drop]; rfl
      push_cast [app_get G1.hz, rdd, last1, app_get last1]
      refine ⟨_, G1.hg, by rw [List.length_map, List.length_drop, rzl]; omega, ?_⟩
      have e2 : D.int 1 :: D.int 0 :: List.map D.int ((rngZ c).drop 2) = (([1, 0] : List Int) ++ (rngZ c).drop 2).map D.int := rfl
      rw [e2]
      have G2 := (((G1.app (T := [Ob.lst [D.int 1, D.int 0]])).app (T := [Ob.lst (((rngZ c).drop 2).map D.int)])).app (T := [Ob.lst ((([1, 0] : List Int) ++ (rngZ c).drop 2).map D.int)]))
      exact G2.raw (R := fun G S1 => G.length ≤ 2 ∧ GI S n (k + 6 + (e : Nat)) z p pf pn_ g c s e fl nm G S1) he (by omega) hnm (pm_swap c2) rngZ_pm (by omega) (by omega) last1 G2.hp (by simp) (fun v S1 h => ⟨by simp, h⟩)
  clear G1
  rintro _ S10 ⟨G, Gl, G1, rfl⟩
  -- the third
  refine ws_cut (fun e' S' => ∃ G : List Gnr, G.length ≤ 3 ∧ GI S n (k + 6 + (e : Nat)) z p pf pn_ g c s e fl nm G S' ∧ e' = [some (.ref n), some (.int b), some (.int (m : Nat)), some (.bl wh), some (.int (c : Nat)), some (.int (h : Nat)), some (.int (s : Nat)), some (.tup [.int (c : Nat), .int (s : Nat), .int (h : Nat)]), some (.tup [.bl sw, .bl mi]), some (.ref p), some (.ref pf), some (.ref pn_), some (.ref z), some (.ref g), none, none, none, none, none, none]) ?_ ?_
  · cases mi with
    | false =>
      push_cast []
      exact ⟨G, by omega, G1⟩
    | true =>
      have cz : ¬ ((c : Nat) : Int) = 0 := by omega
      have fmc := fun z => fmd_p (i := z) (show 0 < ((c : Nat) : Int) by omega)
      push_cast [G1.hz]
      refine ⟨_, G1.hg, ?_⟩
      refine w_lcM (fun d => match d with | .int v => .int (((c : Nat) - v) % (c : Nat)) | d => d) (fun T => app_get G1.hz) (by rw [List.length_map, rzl]; omega) ?_ ?_
      · intro d hd a
        obtain ⟨v, _, rfl⟩ := List.mem_map.mp hd
        refine ⟨_, rfl, ?_⟩
        push_cast [setL, cz, fmc]
      have em2 : ((rngZ c).map D.int).map (fun d => match d with | .int v => D.int ((((c : Nat) : Int) - v) % (c : Nat)) | d => d) = ((rngZ c).map fun v => (((c : Nat) : Int) - v) % (c : Nat)).map D.int := by
        rw [List.map_map, List.map_map]
        rfl
      rw [em2]
      have G2 := G1.app (T := [Ob.lst (((rngZ c).map fun v => (((c : Nat) : Int) - v) % (c : Nat)).map D.int)])
      exact G2.raw (R := fun G S1 => G.length ≤ 3 ∧ GI S n (k + 6 + (e : Nat)) z p pf pn_ g c s e fl nm G S1) he (by omega) hnm (pm_neg cb.1) hfl (by omega) (by omega) last1 G2.hf (by omega) (fun v S1 h => ⟨by simp; omega, h⟩)
  clear G1 Gl G
  rintro _ S11 ⟨G, Gl, G1, rfl⟩
  have t11 := G1.sr
  have a11 := G1.ag
  -- parts
  refine ws_cut (fun e' S' => (Sr S' n (k + 7 + (e : Nat)) ∧ Ag S11 n S') ∧ ∃ pt : Int, (1 ≤ pt ∧ pt ≤ 24) ∧ e' = [some (.ref n), some (.int b), some (.int (m : Nat)), some (.bl wh), some (.int (c : Nat)), some (.int (h : Nat)), some (.int (s : Nat)), some (.tup [.int (c : Nat), .int (s : Nat), .int (h : Nat)]), some (.tup [.bl sw, .bl mi]), some (.ref p), some (.ref pf), some (.ref pn_), some (.ref z), some (.ref g), none, some (.int pt), none, none, none, none]) ?_ ?_
  · have b4 : bits 2 + bits ((c : Nat) : Int) < 1000000 := bk1 (by omega) (by omega)
    push_cast [b4]
    refine (dr_w t11 (m := 3) (by omega) (by decide) (db _ (by decide) (by decide))).to ?_
    rintro _ S12 ⟨r, rfl, r0, r1, s12, u12⟩
    have b5 : bits (2 * ((c : Nat) : Int)) + bits (1 + r) < 1000000 := bk1 (by omega) (by omega)
    push_cast [b5]
    refine ⟨⟨s12.mono (by omega), u12.ag⟩, 2 * ((c : Nat) : Int) * (1 + r), ?_, rfl⟩
    have : r = 0 ∨ r = 1 ∨ r = 2 := by omega
    rcases this with rfl | rfl | rfl <;> omega
  rintro _ S12 ⟨⟨t12, a1112⟩, pt, ⟨pt1, pt24⟩, rfl⟩
  obtain ⟨gn, gz, gp, gpf, gq, gS⟩ := G1.ne
  have zn : z ≠ n := by omega
  have qn : pn_ ≠ n := by omega
  have z12 := ag_get a1112 G1.hz zn
  have f12 := ag_get a1112 G1.hf pfn
  have q12 := ag_get a1112 G1.hq qn
  have g12 := ag_get a1112 G1.hg gn
  have Gpm := G1.pm
  have a12 := a11.trans a1112
  clear G1 a1112 a11 t11 z8 p8 f8 q8 t8 z8'
  have bbp : bits b + bits pt < 1000000 := bk1 (by omega) (by omega)
  have W1 : 1 ≤ b * pt := by
    have : 1 * 1 ≤ b * pt := Int.mul_le_mul b1 pt1 (by omega) (by omega)
    omega
  have W2 : b * pt ≤ 34560 := by
    have : b * pt ≤ 1440 * 24 := Int.mul_le_mul b2 pt24 (by omega) (by omega)
    omega
  have Wz : ¬ b * pt = 0 := by omega
  have fmW := fun z => fmd_p (i := z) (show 0 < b * pt by omega)
  have e1 : 1 ≤ e := by
    have : 1 * 1 ≤ c * s := Nat.mul_le_mul cb.1 s1
    omega
  obtain ⟨E, hE⟩ : ∃ E : Option D → Option D → Lk.Env, E = fun t r => [some (.ref n), some (.int b), some (.int (m : Nat)), some (.bl wh), some (.int (c : Nat)), some (.int (h : Nat)), some (.int (s : Nat)), some (.tup [.int (c : Nat), .int (s : Nat), .int (h : Nat)]), some (.tup [.bl sw, .bl mi]), some (.ref p), some (.ref pf), some (.ref pn_), some (.ref z), some (.ref g), none, some (.int pt), t, r, none, none] := ⟨_, rfl⟩
  have nSl := a12.1
  -- the tops
  refine ws_cut (fun e' S' => (Sr S' n (k + 120) ∧ Ag S12 n S') ∧ ∃ (t : Nat) (xs : List Int), S12.length ≤ t ∧ S'[t]? = some (.lst (xs.map D.int)) ∧ xs.length = e ∧ (∀ x ∈ xs, 0 ≤ x ∧ x < b * pt) ∧ e' = E (some (.ref t)) none) ?_ ?_
  · push_cast [bbp]
    refine (tops_w (pf := pf) t12 (by omega) hfl cb.1 (by omega) (by omega) (by omega) W1 (by omega) f12 pfn).to ?_
    rintro _ S13 ⟨t13, a13, t, xs, rfl, tl, q13, xl, xb⟩
    rw [hE]
    exact ⟨⟨t13.mono (by omega), a13⟩, t, xs, tl, q13, by omega, xb, rfl⟩
  rintro _ S13 ⟨⟨t13, a13⟩, t, xs, tl, q13, xl, xb, rfl⟩
  rw [hE]
  have l13 := a13.1
  refine ws_cut (fun e' S' => (Sr S' n (k + 121) ∧ Ag S13 n S') ∧ ∃ r : Int, e' = E (some (.ref t)) (some (.int r))) ?_ ?_
  · push_cast []
    refine (dr_w t13 (m := 6) (by omega) (by decide) (db _ (by decide) (by decide))).to ?_
    rintro _ S14 ⟨r, rfl, r0, r1, s14, u14⟩
    rw [hE]
    exact ⟨⟨s14.mono (by omega), u14.ag⟩, r, rfl⟩
  rintro _ S14 ⟨⟨t14, a14⟩, r, rfl⟩
  have tn : t ≠ n := by omega
  have q14 := ag_get a14 q13 tn
  have a1214 := a13.trans a14
  clear a13 t13 a14 q13
  refine ws_cut (fun e' S' => (Sr S' n (k + 140) ∧ Ag S12 n S') ∧ ∃ (t : Nat) (xs : List Int), S12.length ≤ t ∧ S'[t]? = some (.lst (xs.map D.int)) ∧ xs.length = e ∧ (∀ x ∈ xs, 0 ≤ x ∧ x < b * pt) ∧ e' = E (some (.ref t)) (some (.int r))) ?_ ?_
  · rw [hE]
    by_cases r2 : r < 2
    · push_cast [r2, decide_true, q14]
      refine lcd_w (Pr := fun x => 0 ≤ x ∧ x < b * pt) t14 (fun S' a => ag_get a q14 tn) (by rw [List.length_map]; omega) ?_ ?_
      · intro d hd
        obtain ⟨v, hv, rfl⟩ := List.mem_map.mp hd
        have vb := xb v hv
        refine ⟨_, rfl, fun S' k' hk' s' _ => ?_⟩
        push_cast [setL]
        refine (dr_w s' (m := 3) (by omega) (by decide) (db _ (by decide) (by decide))).to ?_
        rintro _ S15 ⟨y, rfl, y0, y1, s15, u15⟩
        have b6 : bits pt + bits (y - 1) < 1000000 := by
          have := bits_small (i := pt) (by omega) (by omega)
          have := bits_small (i := y - 1) (by omega) (by omega)
          omega
        push_cast [b6, bbp, Wz, fmW]
        exact ⟨⟨Int.emod_nonneg _ Wz, Int.emod_lt_of_pos _ (by omega)⟩, s15, u15⟩
      · intro ys S15 yl yb s15 a15 q15
        rw [List.length_map] at yl s15
        exact ⟨⟨s15.mono (by omega), a1214.trans a15⟩, _, ys, by have := a1214.1; omega, q15, by omega, yb, rfl⟩
    · push_cast [r2, decide_false]
      exact ⟨⟨t14.mono (by omega), a1214⟩, t, xs, tl, q14, xl, xb, rfl⟩
  clear a1214 t14 q14 xb xl tl tn xs t
  rintro _ S14 ⟨⟨t14, a14⟩, t, xs, tl, q14, xl, xb, rfl⟩
  refine ws_cut (fun e' S' => (Sr S' n (k + 160) ∧ Ag S12 n S') ∧ ∃ (t : Nat) (xs : List Int), S12.length ≤ t ∧ S'[t]? = some (.lst (xs.map D.int)) ∧ xs.length = e ∧ (∀ x ∈ xs, 0 ≤ x ∧ x < b * pt) ∧ e' = E (some (.ref t)) (some (.int r))) ?_ ?_
  · rw [hE]
    have nl_ : (nm.map D.int).length = e := by rw [List.length_map, hnm.ln]
    by_cases r2 : 3 < r
    · push_cast [r2, decide_true, ag_get a14 q12 qn]
      refine lcd_w (Pr := fun x => 0 ≤ x ∧ x < b * pt) t14 (fun S' a => ag_get a (ag_get a14 q12 qn) qn) (by rw [nl_]; omega) ?_ ?_
      · intro d hd
        refine ⟨_, rfl, fun S' k' hk' s' _ => ?_⟩
        push_cast [setL, bbp]
        refine (dr_w s' (m := b * pt) (by omega) (by omega) (bs (by omega) (by omega))).to ?_
        rintro _ S15 ⟨y, rfl, y0, y1, s15, u15⟩
        exact ⟨y, rfl, ⟨y0, y1⟩, s15, u15⟩
      · intro ys S15 yl yb s15 a15 q15
        rw [nl_] at yl s15
        exact ⟨⟨s15.mono (by omega), a14.trans a15⟩, _, ys, by have := a14.1; omega, q15, by omega, yb, rfl⟩
    · push_cast [r2, decide_false]
      exact ⟨⟨t14.mono (by omega), a14⟩, t, xs, tl, q14, xl, xb, rfl⟩
  clear a14 t14 q14 xb xl tl xs t
  rintro _ S14 ⟨⟨t14, a14⟩, t, xs, tl, q14, xl, xb, rfl⟩
  rw [hE]
  have l14 := a14.1
  have n14 := t14.lt
  have tn : t ≠ n := by omega
  have q14n := ag_get a14 q12 qn
  have g14 := ag_get a14 g12 gn
  have aS := a12.trans a14
  -- the tops by event
  refine ws_seq ?_
  have nl_ : (((nm.map D.int).length : Nat) : Int) = (e : Nat) := by rw [List.length_map, hnm.ln]
  push_cast [app_get (T := [Ob.lst [D.int 0]]) q14n, nl_, v_mulL, last1, Int.toNat_natCast]
  refine ⟨⟨by omega, by omega, by omega⟩, ?_⟩
  rw [show (List.map D.int nm).length = e by rw [List.length_map, hnm.ln], rep00]
  obtain ⟨w, hw⟩ : ∃ w, w = (S14 ++ [Ob.lst [D.int 0]]).length := ⟨_, rfl⟩
  obtain ⟨S15, hS15⟩ : ∃ S15, S15 = S14 ++ [Ob.lst [D.int 0]] ++ [Ob.lst ((List.replicate e (0 : Int)).map D.int)] := ⟨_, rfl⟩
  have w15 : S15[w]? = some (.lst ((List.replicate e (0 : Int)).map D.int)) := by rw [hS15, hw]; exact last1
  have od15 : Od S14 S15 := by rw [hS15]; exact Od.app.snoc
  have wS : S14.length < w := by rw [hw]; simp
  rw [← hS15, ← hw]
  obtain ⟨pt', hpt'⟩ : ∃ pt' : Int, pt' = if wh = true then 1 else pt := ⟨_, rfl⟩
  have ptb : 1 ≤ pt' ∧ pt' ≤ 24 := by split at hpt' <;> omega
  have W3 : 1 ≤ b * pt' := by
    have : 1 * 1 ≤ b * pt' := Int.mul_le_mul b1 ptb.1 (by omega) (by omega)
    omega
  have ql := getlt q14
  refine ws_seq ?_
  push_cast [od15.get q14]
  refine w_for (I := fun j env S' => Od S14 S' ∧ ∃ (Gs : List Int) (w14 w18 : Option D), env = [some (.ref n), some (.int b), some (.int (m : Nat)), some (.bl wh), some (.int (c : Nat)), some (.int (h : Nat)), some (.int (s : Nat)), some (.tup [.int (c : Nat), .int (s : Nat), .int (h : Nat)]), some (.tup [.bl sw, .bl mi]), some (.ref p), some (.ref pf), some (.ref pn_), some (.ref z), some (.ref g), w14, some (.int pt), some (.ref t), some (.int r), w18, some (.ref w)] ∧ S'[w]? = some (.lst (Gs.map D.int)) ∧ Gs.length = e ∧ ∀ x ∈ Gs, 0 ≤ x ∧ x < b * pt') ?_ ?_ ?_
  · exact ⟨od15, List.replicate e 0, _, _, rfl, w15, by simp, fun x hx => by rw [List.eq_of_mem_replicate hx]; omega⟩
  · rintro j d env S16 hj ⟨od16, Gs, w14, w18, rfl, z16, gl, gb⟩
    obtain ⟨x, hx, rfl⟩ := enum_at hj
    rw [List.getElem?_map] at hx
    cases hrj : xs[j]? with
    | none => rw [hrj] at hx; cases hx
    | some y =>
      rw [hrj] at hx
      simp only [Option.map_some, Option.some.injEq] at hx
      subst hx
      have jm : j < e := by have := (List.getElem?_eq_some_iff.mp hrj).1; omega
      have yb := xb y (List.mem_of_getElem? hrj)
      refine ⟨od16.get q14, ?_⟩
      have nb := hnm.atN jm
      have a2 : atI (nm.map D.int) (j : Nat) = some (.int (nm.getD j 0)) := ys_at (by rw [hnm.ln]; exact jm)
      have fin : ∀ v : Int, 0 ≤ v ∧ v < b * pt' → Od S14 (S16.set w (.lst ((Gs.map D.int).set (nm.getD j 0).toNat (.int v)))) ∧ (S16.set w (.lst ((Gs.map D.int).set (nm.getD j 0).toNat (.int v))))[w]? = some (.lst ((Gs.set (nm.getD j 0).toNat v).map D.int)) ∧ (Gs.set (nm.getD j 0).toNat v).length = e ∧ ∀ x ∈ Gs.set (nm.getD j 0).toNat v, 0 ≤ x ∧ x < b * pt' := fun v vb => by
        refine ⟨od16.set (by omega), by rw [List.getElem?_set_self (getlt z16), List.map_set], by rw [List.length_set]; exact gl, fun x hx => ?_⟩
        rcases List.mem_or_eq_of_mem_set hx with q | q
        · exact gb x q
        · rw [q]; exact vb
      cases wh with
      | true =>
        have pz : ¬ pt = 0 := by omega
        have pb : bits pt < 9000 := bk9 (by omega)
        have fp := fun z => fdv_pos (i := z) (show 0 < pt by omega)
        have e1 : pt' = 1 := hpt'
        obtain ⟨f1, f2, f3, f4⟩ := fin (y / pt) ⟨Int.ediv_nonneg yb.1 (by omega), by rw [e1, Int.mul_one]; exact Int.ediv_lt_of_lt_mul (by omega) yb.2⟩
        push_cast [pz, pb, fp, od16.get q14n, a2, z16]
        exact ⟨(nm.getD j 0).toNat, ixN_lt nb.1 (by rw [List.length_map, gl]; exact nb.2), f1, _, _, _, rfl, f2, f3, f4⟩
      | false =>
        have e1 : pt' = pt := hpt'
        obtain ⟨f1, f2, f3, f4⟩ := fin y (by rw [e1]; exact yb)
        push_cast [od16.get q14n, a2, z16]
        exact ⟨(nm.getD j 0).toNat, ixN_lt nb.1 (by rw [List.length_map, gl]; exact nb.2), f1, _, _, _, rfl, f2, f3, f4⟩
  · rintro env S16 ⟨od16, Gs, w14, w18, rfl, z16, gl, gb⟩
    refine ⟨od16.get q14, ?_⟩
    have l16 := od16.1
    have T16 := t14.od od16
    have fin : Wr (gc S (.ref S16.length) (S16 ++ [.lst [.ref g, .ref w, .int pt']])) (fun d S' => Sr S' n (k + 200) ∧ Ag S n S' ∧ ∃ q, d = .ref q ∧ S.length ≤ q ∧ LnO S' S.length q b m wh) noX :=
      w_gc_new (by have := aS.1; omega) ⟨T16.app.mono (by omega), (aS.trans (Ag.of_od od16)).trans (Ag.app _ _ _), _, rfl, by have := aS.1; omega, g, w, e, pt', G, Gs, last1, gS, by have := aS.1; omega, app_get (od16.get g14), by omega, Gpm, app_get z16, gl, e1, by omega, ptb, fun hw => by rw [hpt', hw]; rfl, gb⟩
    cases wh with
    | true =>
      rw [show pt' = 1 from hpt'] at fin
      push_cast []
      exact fin
    | false =>
      rw [show pt' = pt from hpt'] at fin
      push_cast []
      exact fin
end
end Mi_k25

set_option linter.all false
set_option autoImplicit false
set_option maxRecDepth 100000
set_option maxHeartbeats 4000000
namespace Mi_k25
open PySem Lk L2
section
variable {Q : D → Store → Prop} {X : XP} {P : Po}
/-- a comprehension whose elements draw -/
theorem lcx_w {α : Type} (fD : α → D) (cost : Nat) {gd : Store → Prop} {g : Tg} {me : ME} {env : Lk.Env} {S : Store} {items : List D} {n : Nat} {k : Int} {Pr : α → Prop} (h : Sr S n k) (hgd : ∀ S', Ag S n S' → gd S') (hl : items.length ≤ 1000)
    (hm : ∀ d ∈ items, ∃ e1, g.put d env = some e1 ∧ ∀ (S' : Store) (k' : Int), k' ≤ k + (cost * items.length : Nat) → Sr S' n k' → Ag S n S' → Wr (me e1 S') (fun y S2 => ∃ x, y = fD x ∧ Pr x ∧ Sr S2 n (k' + (cost : Nat)) ∧ Ag S' n S2) noX)
    (hQ : ∀ (xs : List α) (S' : Store), xs.length = items.length → (∀ x ∈ xs, Pr x) → Sr S' n (k + (cost * items.length : Nat)) → Ag S n S' → S'[S.length]? = some (.lst (xs.map fD)) → Q (.ref S.length) S') :
    Wr (lcGo gd g mYes me env S.length items (S ++ [.lst []])) Q X := by
  have lm := lim_16
  have nl := h.lt
  refine w_lcGo (J := fun rest rs S' => ∃ xs : List α, rs = xs.map fD ∧ (∀ x ∈ xs, Pr x) ∧ xs.length + rest.length = items.length ∧ Ag S n S' ∧ Sr S' n (k + (cost * xs.length : Nat))) ?_ items [] _ (by simp; omega) ?_ ⟨[], rfl, by simp, by simp, .app _ _ _, by simpa using h.app⟩ last1
  · rintro rs S' ⟨xs, rfl, h1, h2, h3, h4⟩ hp
    have e : xs.length = items.length := by simpa using h2
    exact ⟨hgd S' h3, hQ xs S' e h1 (by rw [← e]; exact h4) h3 hp⟩
  · rintro d ds' rs S' ⟨pre, hpre⟩ ⟨xs, rfl, h1, h2, h3, h4⟩ hp
    obtain ⟨e1, p1, p2⟩ := hm d (by rw [hpre]; simp)
    refine ⟨hgd S' h3, e1, p1, ?_⟩
    have hy : ∀ (env : Lk.Env) (S : Store), mYes env S = .ok true S := fun _ _ => rfl
    rw [hy, w_ok, if_pos rfl]
    simp only [List.length_cons] at h2
    have ml : cost * xs.length ≤ cost * items.length := Nat.mul_le_mul_left _ (by omega)
    refine (p2 S' _ (by omega) h4 h3).to ?_
    rintro _ S2 ⟨x, rfl, px, s2, c2⟩
    have l3 := h3.1
    have hp2 := ag_get c2 hp (by omega)
    have pl := getlt hp2
    refine ⟨hp2, xs ++ [x], by simp, fun y hy => ?_, by simp; omega, ag_set (h3.trans c2) (Nat.le_refl _), ?_⟩
    · rcases List.mem_append.mp hy with z | z
      · exact h1 y z
      · rw [List.mem_singleton.mp z]
        exact px
    · refine (s2.ag (n := n) (m := S.length) (Ch.ag ⟨_, rfl⟩) (by omega)).mono ?_
      rw [List.length_append, Nat.mul_add]
      simp
      omega
/-- a plan of things as the law draws it -/
def WdO (S : Store) (L q : Nat) (b : Int) (m lm_ : Nat) (wh : Bool) : Prop := ∃ (sp t g e : Nat) (pt : Int) (G : List Gnr) (xs : List Int) (l : List D), S[q]? = some (.lst [.ref sp, .ref t, .int pt, .ref g]) ∧ (L ≤ sp ∧ L ≤ t ∧ L ≤ g) ∧ S[sp]? = some (.lst l) ∧ SpI b e G lm_ l ∧ S[t]? = some (.lst (xs.map D.int)) ∧ xs.length = e ∧ (1 ≤ e ∧ e ≤ m) ∧ (1 ≤ pt ∧ pt ≤ 24) ∧ (wh = true → pt = 1) ∧ S[g]? = some (.lst (G.map gD)) ∧ G.length ≤ 4 ∧ (∀ x ∈ G, Pm e x.1) ∧ ∀ x ∈ xs, 0 ≤ x ∧ x < b * pt
theorem beat_w {S : Store} {n : Nat} {k : Int} (hs : Sr S n k) (hk : k < 40000) : Wr (f__law_beat [.ref n] S) (fun d S' => ∃ b, d = .int b ∧ 3 ≤ b ∧ b ≤ 1440 ∧ Sr S' n (k + 2) ∧ Ag S n S') noX := by
  have db : ∀ z : Int, 0 ≤ z → z ≤ 10000 → bits z < 9000 := fun z h0 h1 => bs (by omega) (by omega)
  refine w_def ?_
  unfold b__law_beat
  refine ws_seq ?_
  push_cast []
  refine (dr_w hs (m := 6) (by omega) (by decide) (db _ (by decide) (by decide))).to ?_
  rintro _ S1 ⟨i, rfl, i0, i1, s1, u1⟩
  refine ws_seq ?_
  push_cast []
  refine (dr_w s1 (m := 58) (by omega) (by decide) (db _ (by decide) (by decide))).to ?_
  rintro _ S2 ⟨r, rfl, r0, r1, s2, u2⟩
  have z4 : ¬ (4 : Int) = 0 := by decide
  have z5 : ¬ (5 : Int) = 0 := by decide
  have f4 := fun z => fmd_p (i := z) (show (0 : Int) < 4 by decide)
  have f5 := fun z => fmd_p (i := z) (show (0 : Int) < 5 by decide)
  have b5 : bits 12 + bits (r % 5) < 1000000 := bk1 (by omega) (by omega)
  push_cast [z4, z5, f4, f5, b5]
  have fin : ∀ v : Int, 3 ≤ v → v ≤ 1440 → Wr (gc S (.int v) S2) (fun d S' => ∃ b, d = .int b ∧ 3 ≤ b ∧ b ≤ 1440 ∧ Sr S' n (k + 2) ∧ Ag S n S') noX := fun v v0 v1 => w_gc_len (by rw [u2.len, u1.len]) ⟨v, rfl, v0, v1, s2.mono (by omega), u1.ag.trans u2.ag⟩
  have : i = 0 ∨ i = 1 ∨ i = 2 ∨ i = 3 ∨ i = 4 ∨ i = 5 := by omega
  rcases this with rfl | rfl | rfl | rfl | rfl | rfl
  · exact ⟨_, rfl, fin _ (by omega) (by omega)⟩
  · exact ⟨_, rfl, fin _ (by omega) (by omega)⟩
  · exact ⟨_, rfl, fin _ (by omega) (by omega)⟩
  · exact ⟨_, rfl, fin _ (by omega) (by omega)⟩
  · exact ⟨_, rfl, fin _ (by omega) (by omega)⟩
  · exact ⟨_, rfl, fin _ (by omega) (by omega)⟩
theorem once_w {S : Store} {n m lm_ : Nat} {k b : Int} {wh : Bool} (hs : Sr S n k) (hk : k < 30000) (b1 : 3 ≤ b) (b2 : b ≤ 1440) (m1 : 1 ≤ m) (m12 : m ≤ 12) (hl : lm_ ≤ 60) :
    Wr (f__law_once [.ref n, .int b, .int (m : Nat), .int (lm_ : Nat), .bl wh] S) (fun d S' => Sr S' n (k + 2500) ∧ Ag S n S' ∧ ∃ q, d = .ref q ∧ S.length ≤ q ∧ WdO S' S.length q b m lm_ wh) noX := by
  have lm := lim_16
  have nl := hs.lt
  have db : ∀ z : Int, 0 ≤ z → z ≤ 10000 → bits z < 9000 := fun z h0 h1 => bs (by omega) (by omega)
  refine w_def ?_
  unfold b__law_once
  refine ws_cut (fun e' S' => (Sr S' n (k + 300) ∧ Ag S n S') ∧ ∃ (g t e : Nat) (pt : Int) (G : List Gnr) (xs : List Int) (w8 w9 : Option D), e' = [some (.ref n), some (.int b), some (.int (m : Nat)), some (.int (lm_ : Nat)), some (.bl wh), some (.ref g), some (.ref t), some (.int pt), w8, w9] ∧ (S.length ≤ g ∧ S.length ≤ t) ∧ S'[g]? = some (.lst (G.map gD)) ∧ G.length ≤ 4 ∧ (∀ x ∈ G, Pm e x.1) ∧ S'[t]? = some (.lst (xs.map D.int)) ∧ xs.length = e ∧ (1 ≤ e ∧ e ≤ m) ∧ (1 ≤ pt ∧ pt ≤ 24) ∧ (wh = true → pt = 1) ∧ ∀ x ∈ xs, 0 ≤ x ∧ x < b * pt) ?_ ?_
  · push_cast []
    refine (dr_w hs (m := 4) (by omega) (by decide) (db _ (by decide) (by decide))).to ?_
    rintro _ S1 ⟨r, rfl, r0, r1, s1, u1⟩
    have l1 := u1.len
    by_cases rz : 0 < r
    · push_cast [rz, decide_true]
      refine (lines_w s1 (by omega) (by omega) b2 m1 m12).to ?_
      rintro _ S2 ⟨s2, a2, q, rfl, ql, g, t, e, pt, G, xs, h1, h2, h3, h4, h5, h6, h7, h8, h9, h10, h11, h12, h13⟩
      rw [v_gUS h1]
      push_cast []
      exact ⟨⟨s2.mono (by omega), u1.ag.trans a2⟩, g, t, e, pt, G, xs, _, _, rfl, ⟨by omega, by omega⟩, h4, h5, h6, h7, h8, ⟨h9, h10⟩, h11, h12, h13⟩
    · push_cast [rz, decide_false]
      have mm : ∃ v : Nat, ((v : Nat) : Int) = (if ((m : Nat) : Int) < 4 then ((m : Nat) : Int) else 4) ∧ 1 ≤ v ∧ v ≤ 4 ∧ v ≤ m := ⟨(if ((m : Nat) : Int) < 4 then ((m : Nat) : Int) else 4).toNat, by split <;> omega⟩
      obtain ⟨v, ev, v1, v4, vm⟩ := mm
      refine ws_seq ?_
      push_cast []
      rw [← ev]
      refine (dr_w s1 (m := (v : Nat)) (by omega) (by omega) (bs (by omega) (by omega))).to ?_
      rintro _ S2 ⟨r2, rfl, r20, r21, s2, u2⟩
      have a2 := u1.ag.trans u2.ag
      have l2 := a2.1
      obtain ⟨e, he⟩ : ∃ e : Nat, ((e : Nat) : Int) = 1 + r2 := ⟨(1 + r2).toNat, by omega⟩
      have eb : 1 ≤ e ∧ e ≤ 4 ∧ e ≤ m := by omega
      have bde : bd ((e : Nat) : Int) := bd_small (by omega)
      push_cast []
      rw [← he]
      -- free likenesses
      refine ws_seq ?_
      push_cast []
      refine (dr_w s2 (m := 4) (by omega) (by decide) (db _ (by decide) (by decide))).to ?_
      rintro _ S3 ⟨r3, rfl, r30, r31, s3, u3⟩
      have a3 := a2.trans u3.ag
      have bd3 : bd r3 := by
        obtain ⟨z, rfl⟩ : ∃ z : Nat, r3 = (z : Nat) := ⟨r3.toNat, by omega⟩
        exact bd_small (by omega)
      have n3 : (rngI 0 r3.toNat).length ≤ 4 := by simp [rngI]; omega
      refine ⟨r3, rfl, bd3, ?_⟩
      refine lcx_w (α := Gnr) gD 6 (Pr := fun x => Pm e x.1) s3 (fun _ _ => trivial) (by omega) ?_ ?_
      · intro d hd
        refine ⟨_, rfl, fun S' k' hk' s' a' => ?_⟩
        push_cast []
        refine (perm_w s' (by omega) (by omega)).to ?_
        rintro _ S4 ⟨qq, p, rfl, ql, q4, hp, s4, a4⟩
        push_cast [q4]
        refine (dr_w s4 (m := 2) (by omega) (by decide) (db _ (by decide) (by decide))).to ?_
        rintro _ S5 ⟨r5, rfl, r50, r51, s5, u5⟩
        push_cast []
        exact ⟨(p, decide (r5 = 1)), rfl, hp, s5.mono (by omega), a4.trans u5.ag⟩
      intro G S4 Gl Gp s4 a4 q4
      have l3 := a3.1
      have a34 := a3.trans a4
      obtain ⟨g, hg⟩ : ∃ g, g = S3.length := ⟨_, rfl⟩
      rw [← hg] at q4 ⊢
      have gn : g ≠ n := by omega
      -- parts
      refine ws_cut (fun e' S' => (Sr S' n (k + 60) ∧ Ag S4 n S') ∧ ∃ pt : Int, (1 ≤ pt ∧ pt ≤ 4) ∧ (wh = true → pt = 1) ∧ e' = [some (.ref n), some (.int b), some (.int (m : Nat)), some (.int (lm_ : Nat)), some (.bl wh), some (.ref g), none, some (.int pt), some (.int (e : Nat)), none]) ?_ ?_
      · cases wh with
        | true =>
          push_cast []
          exact ⟨⟨s4.mono (by omega), Ag.refl _ _⟩, 1, by decide, fun _ => rfl, rfl⟩
        | false =>
          push_cast []
          refine (dr_w s4 (m := 4) (by omega) (by decide) (db _ (by decide) (by decide))).to ?_
          rintro _ S5 ⟨r5, rfl, r50, r51, s5, u5⟩
          push_cast []
          exact ⟨⟨s5.mono (by omega), u5.ag⟩, 1 + r5, by omega, (fun h => by cases h), rfl⟩
      rintro _ S5 ⟨⟨s5, a5⟩, pt, ptb, pw, rfl⟩
      have q5 := ag_get a5 q4 gn
      have a35 := a34.trans a5
      have bbp : bits b + bits pt < 1000000 := bk1 (by omega) (by omega)
      have W1 : 1 ≤ b * pt := by
        have : 1 * 1 ≤ b * pt := Int.mul_le_mul (by omega) ptb.1 (by omega) (by omega)
        omega
      have W2 : b * pt ≤ 5760 := by
        have : b * pt ≤ 1440 * 4 := Int.mul_le_mul b2 ptb.2 (by omega) (by omega)
        omega
      have re : (rngI 0 e).length = e := by simp [rngI]
      refine ws_seq ?_
      push_cast [bde, Int.toNat_natCast]
      refine lcx_w (α := Int) D.int 1 (Pr := fun x => 0 ≤ x ∧ x < b * pt) s5 (fun _ _ => trivial) (by omega) ?_ ?_
      · intro d hd
        refine ⟨_, rfl, fun S' k' hk' s' a' => ?_⟩
        push_cast [bbp]
        refine (dr_w s' (m := b * pt) (by omega) (by omega) (bs (by omega) (by omega))).to ?_
        rintro _ S6 ⟨y, rfl, y0, y1, s6, u6⟩
        exact ⟨y, rfl, ⟨y0, y1⟩, s6, u6.ag⟩
      intro xs S6 xl xb s6 a6 q6
      rw [re] at xl s6
      have l5 := a35.1
      have q6g := ag_get a6 q5 gn
      have a36 := a35.trans a6
      obtain ⟨t, ht⟩ : ∃ t, t = S5.length := ⟨_, rfl⟩
      rw [← ht] at q6 ⊢
      have tn : t ≠ n := by omega
      refine (dr_w s6 (m := 3) (by omega) (by decide) (db _ (by decide) (by decide))).to ?_
      rintro _ S7 ⟨r7, rfl, r70, r71, s7, u7⟩
      have q7 := ag_get u7.ag q6 tn
      have q7g := ag_get u7.ag q6g gn
      have a37 := a36.trans u7.ag
      by_cases r0 : r7 = 0
      · push_cast [r0, decide_true, bde, Int.toNat_natCast]
        have x0 : atI (xs.map D.int) 0 = some (.int (xs.getD 0 0)) := ys_at (k := 0) (by omega)
        have x0b := xb (xs.getD 0 0) (by rw [List.getD_eq_getElem?_getD, List.getElem?_eq_getElem (by omega)]; exact List.getElem_mem _)
        refine w_lcM (fun _ => .int (xs.getD 0 0)) (fun _ => trivial) (by omega) ?_ ?_
        · intro d hd a
          refine ⟨_, rfl, ?_⟩
          push_cast [setL, app_get q7, x0]
        have em : (rngI 0 e).map (fun _ => D.int (xs.getD 0 0)) = (List.replicate e (xs.getD 0 0)).map D.int := by
          rw [List.map_replicate]
          exact List.eq_replicate_iff.mpr ⟨by rw [List.length_map, re], fun x hx => by obtain ⟨_, _, rfl⟩ := List.mem_map.mp hx; rfl⟩
        rw [em]
        exact ⟨⟨(s7.app).mono (by omega), a37.trans (Ag.app _ _ _)⟩, g, S7.length, e, pt, G, List.replicate e (xs.getD 0 0), _, _, rfl, ⟨by omega, a37.1⟩, app_get q7g, by omega, Gp, last1, by simp, ⟨eb.1, eb.2.2⟩, by omega, pw, fun x hx => by rw [List.eq_of_mem_replicate hx]; exact x0b⟩
      · push_cast [r0, decide_false]
        exact ⟨⟨s7.mono (by omega), a37⟩, g, t, e, pt, G, xs, _, _, rfl, ⟨by omega, by omega⟩, q7g, by omega, Gp, q7, by omega, ⟨eb.1, eb.2.2⟩, by omega, pw, xb⟩
  rintro _ S1 ⟨⟨s1, a1⟩, g, t, e, pt, G, xs, w8, w9, rfl, ⟨gS, tS⟩, h4, h5, h6, h7, h8, ⟨h9, h10⟩, h11, h12, h13⟩
  push_cast []
  have l1 := a1.1
  have gn : g ≠ n := by omega
  have tn : t ≠ n := by omega
  refine (spans_w s1 (by omega) h6 h9 (by omega) h4 gn h7 tn h8 h13 b1 b2 h11.1 (by omega) hl).to ?_
  rintro _ S2 ⟨s2, a2, q, l, rfl, ql, q2, hsp⟩
  have l2 := a2.1
  exact w_gc_new (by omega) ⟨(s2.app).mono (by omega), (a1.trans a2).trans (Ag.app _ _ _), _, rfl, by omega, q, t, g, e, pt, G, xs, l, last1, ⟨by omega, by omega, by omega⟩, app_get q2, hsp, app_get (ag_get a2 h7 tn), h8, ⟨h9, h10⟩, h11, h12, app_get (ag_get a2 h4 gn), h5, h6, h13⟩
end
end Mi_k25

set_option linter.all false
set_option autoImplicit false
set_option maxRecDepth 100000
set_option maxHeartbeats 4000000
namespace Mi_k25
open PySem Lk L2
section
variable {Q : D → Store → Prop} {X : XP} {P : Po}
theorem okI9 {n : Nat} {xs : List Int} : okPL (n + 1) (xs.map D.int) = true := okPL_all fun d hd => by
  obtain ⟨x, _, rfl⟩ := List.mem_map.mp hd
  rfl
theorem gD9 {g : Gnr} : okP 9 (gD g) = true := by
  have h : okPL 7 (g.1.map D.int) = true := okI9
  simp only [gD, lkD_, okP, okPL, h, Bool.and_true, Bool.true_and]
theorem gDs9 {G : List Gnr} : okPL 9 (G.map gD) = true := okPL_all fun x hx => by
  obtain ⟨g, _, rfl⟩ := List.mem_map.mp hx
  exact gD9
theorem sp9 {l : List D} (h : ∀ d ∈ l, ∃ x lo hi, d = spD x lo hi) : okPL 9 l = true := okPL_all fun d hd => by
  obtain ⟨x, lo, hi, rfl⟩ := h d hd
  rfl
/-- a list of lists of data, against the empty list -/
theorem py_lst {S : Store} {p : Nat} {ds : List D} (h : S[p]? = some (.lst ds)) (ok : okPL 9 ds = true) : pyD S 11 (.ref p) = some (.list (toPL ds)) ∧ (PyData.list (toPL ds)).canLay0 = true ∧ (PyData.list (toPL ds)).depth ≤ 10 := by
  obtain ⟨h1, h2, h3⟩ := okPL_py (S := S) 9 ds ok
  refine ⟨?_, by simpa only [PyData.canLay0] using h2, by simp only [PyData.depth]; omega⟩
  show (match S[p]? with | some (.lst ds) => (ds.mapM (pyD S 10)).map PyData.list | _ => none) = _
  rw [h]
  show (ds.mapM (pyD S 10)).map PyData.list = _
  rw [h1]
  rfl
theorem wd_eq {S : Store} {q e sp t g : Nat} {pt : Int} {l ts G : List D} (h : S[q]? = some (.lst [.ref sp, .ref t, .int pt, .ref g])) (he : S[e]? = some (.lst [])) (h1 : S[sp]? = some (.lst l)) (o1 : okPL 9 l = true) (h2 : S[t]? = some (.lst ts)) (o2 : okPL 9 ts = true) (h3 : S[g]? = some (.lst G)) (o3 : okPL 9 G = true) : gEqZ cs oe (.ref q) (.ref e) S = .ok (.bl false) S := by
  obtain ⟨a1, a2, a3⟩ := py_lst h1 o1
  obtain ⟨b1, b2, b3⟩ := py_lst h2 o2
  obtain ⟨c1, c2, c3⟩ := py_lst h3 o3
  have e1 : pyD S 12 (.ref q) = some (.list [.list (toPL l), .list (toPL ts), .int pt, .list (toPL G)]) := by
    show (match S[q]? with | some (.lst ds) => (ds.mapM (pyD S 11)).map PyData.list | _ => none) = _
    rw [h]
    show ([D.ref sp, D.ref t, D.int pt, D.ref g].mapM (pyD S 11)).map PyData.list = _
    simp [List.mapM_cons, a1, b1, c1, show pyD S 11 (.int pt) = some (.int pt) from rfl]
  have e2 : pyD S 12 (.ref e) = some (.list []) := by
    show (match S[e]? with | some (.lst ds) => (ds.mapM (pyD S 11)).map PyData.list | _ => none) = _
    rw [he]
    rfl
  have s1 : SeqAt.shaped (.list [.list (toPL l), .list (toPL ts), .int pt, .list (toPL G)]) = true := by
    simp only [PyData.depth] at a3 b3 c3
    simp only [PyData.canLay0] at a2 b2 c2
    have d : (PyData.list [.list (toPL l), .list (toPL ts), .int pt, .list (toPL G)]).depth ≤ 64 := by
      simp only [PyData.depth, PyData.depthAll]
      omega
    simp [SeqAt.shaped, PyData.canLay0, PyData.canLayAll0, a2, b2, c2, d]
  refine eq_data (by intro C ds z; cases z) ?_ ?_
  · unfold eqData
    rw [e1, e2]
    have s2 : SeqAt.shaped (.list []) = true := by decide
    simp only [s1, s2, and_self, if_true]
    rfl
  · intro n kvs z
    cases z
    rw [h]
    simp
def WdI (j : Nat) (S' : Store) (L q : Nat) (b : Int) (m lm_ : Nat) (wh : Bool) : Prop := (j = 0 ∧ S'[q]? = some (.lst [])) ∨ WdO S' L q b m lm_ wh
theorem world_w {S : Store} {n m lm_ : Nat} {k b : Int} {wh : Bool} (hs : Sr S n k) (hk : k < 10000) (b1 : 3 ≤ b) (b2 : b ≤ 1440) (m1 : 1 ≤ m) (m12 : m ≤ 12) (hl : lm_ ≤ 60) :
    Wr (f__law_world [.ref n, .int b, .int (m : Nat), .int (lm_ : Nat), .bl wh] S) (fun d S' => Sr S' n (k + 10100) ∧ Ag S n S' ∧ ∃ q, d = .ref q ∧ S.length ≤ q ∧ WdO S' S.length q b m lm_ wh) noX := by
  have lm := lim_16
  have nl := hs.lt
  have db : ∀ z : Int, 0 ≤ z → z ≤ 10000 → bits z < 9000 := fun z h0 h1 => bs (by omega) (by omega)
  have bd4 : bd 4 := bd_small (n := 4) (by decide)
  refine w_def ?_
  unfold b__law_world
  refine ws_seq ?_
  push_cast []
  refine ws_seq ?_
  push_cast [bd4]
  refine w_for (I := fun j env S' => Sr S' n (k + 2510 * (j : Nat)) ∧ Ag S n S' ∧ ∃ (q : Nat) (w6 w7 : Option D), env = [some (.ref n), some (.int b), some (.int (m : Nat)), some (.int (lm_ : Nat)), some (.bl wh), some (.ref q), w6, w7] ∧ S.length ≤ q ∧ WdI j S' S.length q b m lm_ wh) ?_ ?_ ?_
  · exact ⟨(hs.app).mono (by omega), Ag.app _ _ _, _, _, _, rfl, Nat.le_refl _, .inl ⟨rfl, last1⟩⟩
  · rintro j d env S1 hj ⟨s1, a1, q, w6, w7, rfl, ql, hq⟩
    have j4 : j < 4 := by
      have := (List.getElem?_eq_some_iff.mp hj).1
      simpa [rngI] using this
    refine ⟨trivial, ?_⟩
    have l1 := a1.1
    have n1 := s1.lt
    have run : ∀ S2 : Store, Sr S2 n (k + 2510 * (j : Nat) + 5) → Ag S n S2 → Wr (f__law_once [.ref n, .int b, .int (m : Nat), .int (lm_ : Nat), .bl wh] S2) (fun d S' => Sr S' n (k + 2510 * ((j + 1 : Nat) : Int)) ∧ Ag S n S' ∧ ∃ q, d = .ref q ∧ S.length ≤ q ∧ WdO S' S.length q b m lm_ wh) noX := fun S2 s2 a2 => by
      refine (once_w s2 (by omega) b1 b2 m1 m12 hl).to ?_
      rintro _ S3 ⟨s3, a3, q', rfl, ql', sp, t, g, e, pt, G, xs, l, h1, ⟨h2, h3, h4⟩, h5⟩
      have l2 := a2.1
      exact ⟨s3.mono (by omega), a2.trans a3, q', rfl, by omega, sp, t, g, e, pt, G, xs, l, h1, ⟨by omega, by omega, by omega⟩, h5⟩
    rcases hq with ⟨rfl, hq⟩ | hq
    · have e0 := fun T => eq_nil (S := S1 ++ [Ob.lst []] ++ T) (app_get (app_get hq)) (app_get last1) (L := []) rfl
      have e0' : gEqZ cs oe (.ref q) (.ref S1.length) (S1 ++ [Ob.lst []]) = .ok (.bl true) (S1 ++ [Ob.lst []]) := by
        have := eq_nil (S := S1 ++ [Ob.lst []]) (app_get hq) last1 (L := []) rfl
        simpa using this
      have e1 : gEqZ cs oe (.ref q) (.ref (S1 ++ [Ob.lst []]).length) (S1 ++ [Ob.lst []] ++ [Ob.lst []]) = .ok (.bl true) (S1 ++ [Ob.lst []] ++ [Ob.lst []]) := by
        have := eq_nil (S := S1 ++ [Ob.lst []] ++ [Ob.lst []]) (app_get (app_get hq)) last1 (L := []) rfl
        simpa using this
      push_cast [e0', e1]
      refine (run _ ((s1.app.app).mono (by omega)) ((a1.trans (Ag.app _ _ _)).trans (Ag.app _ _ _))).to ?_
      rintro _ S3 ⟨s3, a3, q', rfl, ql', hw⟩
      exact ⟨s3, a3, q', _, _, rfl, ql', .inr hw⟩
    · obtain ⟨sp, t, g, e, pt, G, xs, l, h1, ⟨hsp, ht, hg⟩, h2, hS, h3, xl, eb, h5⟩ := hq
      have lsp : ∀ d ∈ l, ∃ x lo hi, d = spD x lo hi := fun d hd => by
        obtain ⟨x, lo, hi, e, _⟩ := hS.all d hd
        exact ⟨x, lo, hi, e⟩
      have h4 := h5.2.2.1
      have Gl := h5.2.2.2.1
      have Gp := h5.2.2.2.2.1
      have wd : ∀ S2 : Store, Od S1 S2 → WdO S2 S.length q b m lm_ wh := fun S2 o => ⟨sp, t, g, e, pt, G, xs, l, o.get h1, ⟨hsp, ht, hg⟩, o.get h2, hS, o.get h3, xl, eb, h5.1, h5.2.1, o.get h4, h5.2.2.2⟩
      have weq : ∀ S2 : Store, Od S1 S2 → gEqZ cs oe (.ref q) (.ref S2.length) (S2 ++ [Ob.lst []]) = .ok (.bl false) (S2 ++ [Ob.lst []]) := fun S2 o => wd_eq (app_get (o.get h1)) last1 (app_get (o.get h2)) (sp9 lsp) (app_get (o.get h3)) okI9 (app_get (o.get h4)) gDs9
      have fin : ∀ (S2 : Store) (w7 : Option D), Od S1 S2 → Sr S2 n (k + 2510 * ((j + 1 : Nat) : Int)) ∧ Ag S n S2 ∧ ∃ (q' : Nat) (w6' w7' : Option D), [some (D.ref n), some (D.int b), some (D.int ((m : Nat) : Int)), some (D.int ((lm_ : Nat) : Int)), some (D.bl wh), some (D.ref q), some d, w7] = [some (D.ref n), some (D.int b), some (D.int ((m : Nat) : Int)), some (D.int ((lm_ : Nat) : Int)), some (D.bl wh), some (D.ref q'), w6', w7'] ∧ S.length ≤ q' ∧ WdI (j + 1) S2 S.length q' b m lm_ wh := fun S2 w7 o =>
        ⟨(s1.od o).mono (by omega), a1.trans (Ag.of_od o), q, _, _, rfl, ql, .inr (wd S2 o)⟩
      have inner : ∀ (S2 : Store) (w7 : Option D), Od S1 S2 → Ws ((mIfS (mOrT (mTest (m2 (gEqZ cs oe) (mVar 5) (mLst mNil))) (mTest (m2 (gCmp fun i j => decide (j < i)) (mCall 2 f__law_draw (mCons (mVar 0) (mCons (mC (.int 8)) mNil))) (mC (.int 0))))) (mSet 5 (mCall 5 f__law_once (mCons (mVar 0) (mCons (mVar 1) (mCons (mVar 2) (mCons (mVar 3) (mCons (mVar 4) mNil))))))) mNext) [some (D.ref n), some (D.int b), some (D.int ((m : Nat) : Int)), some (D.int ((lm_ : Nat) : Int)), some (D.bl wh), some (D.ref q), some d, w7] S2) ⟨fun env S' => Sr S' n (k + 2510 * ((j + 1 : Nat) : Int)) ∧ Ag S n S' ∧ ∃ (q' : Nat) (w6' w7' : Option D), env = [some (D.ref n), some (D.int b), some (D.int ((m : Nat) : Int)), some (D.int ((lm_ : Nat) : Int)), some (D.bl wh), some (D.ref q'), w6', w7'] ∧ S.length ≤ q' ∧ WdI (j + 1) S' S.length q' b m lm_ wh, fun _ _ => False, fun _ _ => False, fun _ _ => False, fun _ _ _ _ => False⟩ := fun S2 w7 o => by
        have T2 := (s1.od o).app (T := [Ob.lst []])
        have o2 := o.snoc (T := [Ob.lst []])
        push_cast [weq S2 o]
        refine (dr_w T2 (m := 8) (by omega) (by decide) (db _ (by decide) (by decide))).to ?_
        rintro _ S3 ⟨r, rfl, r0, r1, s3, u3⟩
        by_cases rz : 0 < r
        · push_cast [rz, decide_true]
          refine (run S3 (s3.mono (by omega)) ((a1.trans (Ag.of_od o2)).trans u3.ag)).to ?_
          rintro _ S4 ⟨s4, a4, q', rfl, ql', hw⟩
          exact ⟨s4, a4, q', _, _, rfl, ql', .inr hw⟩
        · push_cast [rz, decide_false]
          have a3 := (Ag.of_od (n := n) o2).trans u3.ag
          have qn : q ≠ n := by omega
          have spn : sp ≠ n := by omega
          have tn : t ≠ n := by omega
          have gn : g ≠ n := by omega
          exact ⟨s3.mono (by omega), a1.trans a3, q, _, _, rfl, ql, .inr ⟨sp, t, g, e, pt, G, xs, l, ag_get a3 h1 qn, ⟨hsp, ht, hg⟩, ag_get a3 h2 spn, hS, ag_get a3 h3 tn, xl, eb, h5.1, h5.2.1, ag_get a3 h4 gn, h5.2.2.2⟩⟩
      have test : Wr ((mOrT (mTest (m2 (gEqZ cs oe) (mVar 5) (mLst mNil))) (mOrT (mTest (m2 (gEqZ cs oe) (m2 gIx (mVar 5) (mC (.int 0))) (mLst mNil))) (mTest (mB gAll (mCons (mLc (iSeq (m2 gIx (mVar 5) (mC (.int 3)))) (.nm 7) mYes (m2 (gEqZ cs oe) (m2 gIx (mVar 7) (mC (.int 0))) (mTupRg1 (mB gLen (mCons (m2 gIx (mVar 7) (mC (.int 0))) mNil)))) [7]) mNil))))) [some (D.ref n), some (D.int b), some (D.int ((m : Nat) : Int)), some (D.int ((lm_ : Nat) : Int)), some (D.bl wh), some (D.ref q), some d, w7] S1) (fun c S2 => Od S1 S2) noX := by
        have h1' := app_get (T := [Ob.lst []]) h1
        have h1'' := app_get (T := [Ob.lst []]) h1'
        have h2' := app_get (T := [Ob.lst []]) (app_get (T := [Ob.lst []]) h2)
        have h4' := app_get (T := [Ob.lst []]) (app_get (T := [Ob.lst []]) h4)
        have eqn := eq_nil (S := S1 ++ [Ob.lst []] ++ [Ob.lst []]) h2' last1 (okPL_le (sp9 lsp) (by decide))
        have c0 : ∀ x y z w : D, atI [x, y, z, w] 0 = some x := fun _ _ _ _ => rfl
        have c3 : ∀ x y z w : D, atI [x, y, z, w] 3 = some w := fun _ _ _ _ => rfl
        have g0 : ∀ x y : D, atI [x, y] 0 = some x := fun _ _ => rfl
        push_cast [weq S1 .refl, h1', c0, eqn]
        by_cases ln : l = []
        · push_cast [ln, decide_true]
          exact Od.app.snoc
        · push_cast [ln, decide_false, h1'', c3, h4']
          have oke := okRg_small (j := (e : Nat)) (by omega) (by omega)
          refine w_lcM (fun d => match d with | .tup [x, y] => .bl (PyData.eqv (toP x) (toP (.tup ((rngZ e).map D.int)))) | d => d) (fun T => app_get h4') (by rw [List.length_map]; omega) ?_ ?_
          · intro d' hd' a
            obtain ⟨v, hv, rfl⟩ := List.mem_map.mp hd'
            have vp := Gp v hv
            have vl : (((v.1.map D.int).length : Nat) : Int) = (e : Nat) := by rw [List.length_map, vp.ln]
            have ee : ∀ S2 : Store, gEqZ cs oe (.tup (v.1.map D.int)) (.tup ((rngZ e).map D.int)) S2 = .ok (.bl (PyData.eqv (toP (.tup (v.1.map D.int))) (toP (.tup ((rngZ e).map D.int))))) S2 := fun S2 => by
              have o1 : okP 11 (.tup (v.1.map D.int)) = true := by
                have h : okPL 10 (v.1.map D.int) = true := okI9
                simp only [okP, h]
              have o2 : okP 11 (.tup ((rngZ e).map D.int)) = true := by
                have h : okPL 10 ((rngZ e).map D.int) = true := okI9
                simp only [okP, h]
              exact (Dat.val o1).eqZ (Dat.val o2)
            refine ⟨_, rfl, ?_⟩
            unfold gD lkD_
            push_cast [setL, g0, v_tupRg1, vl, oke]
            rw [rgD_Z]
            rw [ee]
            exact ⟨rfl, rfl⟩
          have em : (G.map gD).map (fun d => match d with | .tup [x, y] => D.bl (PyData.eqv (toP x) (toP (.tup ((rngZ e).map D.int)))) | d => d) = (G.map fun v => PyData.eqv (toP (.tup (v.1.map D.int))) (toP (.tup ((rngZ e).map D.int)))).map D.bl := by
            rw [List.map_map, List.map_map]
            rfl
          rw [em]
          push_cast [last1, dBools_map]
          exact (Od.app.snoc).snoc
      rw [v_gS]
      simp only [Lk.e_s, Lk.e_0]
      rw [w_if]
      refine test.mono ?_ (fun _ _ _ h => h.elim)
      intro c S2 o
      cases c with
      | true =>
        rw [if_pos rfl]
        exact (inner S2 w7 o).mono (fun _ _ h => h) (fun _ _ h => h.elim) (fun _ _ h => h.elim) (fun _ _ h => h.elim) (fun _ _ _ _ h => h.elim)
      | false =>
        rw [if_neg (by decide), u_next]
        exact fin S2 w7 o
  · rintro env S1 ⟨s1, a1, q, w6, w7, rfl, ql, hq⟩
    have hq : WdO S1 S.length q b m lm_ wh := by
      rcases hq with ⟨z, _⟩ | hq
      · simp [rngI] at z
      · exact hq
    refine ⟨trivial, ?_⟩
    push_cast []
    refine w_gc_new ql ⟨s1.mono ?_, a1, q, rfl, ql, hq⟩
    simp [rngI]
end
end Mi_k25

set_option linter.all false
set_option autoImplicit false
set_option maxRecDepth 100000
set_option maxHeartbeats 4000000
namespace Mi_k25
open PySem Lk L2
section
variable {Q : D → Store → Prop} {X : XP} {P : Po}
/-! the first fault of a thing -/
def evF (e : Nat) : List Int → List D → Nat → Option Nat
  | _, [], _ => none
  | ps, .int i :: ds, k => if (0 ≤ i ∧ i < (e : Nat)) ∧ i ∉ ps then evF e (ps ++ [i]) ds (k + 1) else some k
  | _, _ :: _, k => some k
def ledD (p : List Int) (f : Bool) : D → D
  | .tup [.int i, .int j, .int lo, .int hi] => spD (act (p, f) (i, j)) lo hi
  | d => d
def spF (p : List Int) (f : Bool) (l : List D) : List D → Nat → Option Nat
  | [], _ => none
  | d :: ds, k => if inB (ledD p f d) l = true then spF p f l ds (k + 1) else some k
def unI : List D → List Int
  | .int i :: ds => i :: unI ds
  | _ :: ds => 0 :: unI ds
  | [] => []
def nLk : D := .tup [.str (Str.ofString "likeness"), .int (-1)]
def nEv (k : Nat) : D := .tup [.str (Str.ofString "event"), .int (k : Nat)]
def nSp (k : Nat) : D := .tup [.str (Str.ofString "span"), .int (k : Nat)]
def fltI (e : Nat) (l its : List D) (f : Bool) : D := match evF e [] its 0 with
  | some k => nEv k
  | none => (match spF (unI its) f l l 0 with
    | some k => nSp k
    | none => .non)
def fltD (e : Nat) (l : List D) : D → D
  | .tup [.tup its, .bl f] => if its.length = e then fltI e l its f else nLk
  | _ => nLk
theorem fltD_tt {e : Nat} {l its : List D} {f : Bool} : fltD e l (.tup [.tup its, .bl f]) = if its.length = e then fltI e l its f else nLk := rfl
/-- what may be asked -/
inductive ThK (S : Store) : D → Prop
  | no {d : D} : Kn S d → isTup d = false → ThK S d
  | tu {ds : List D} : ds.length ≤ 100 → (∀ x ∈ ds, Kn S x) → (∀ its y, ds = [.tup its, y] → its.length ≤ 60 ∧ ∀ x ∈ its, Kn S x) → ThK S (.tup ds)
theorem unI_map {xs : List Int} : unI (xs.map D.int) = xs := by
  induction xs with
  | nil => rfl
  | cons x xs ih => simp [unI, ih]
theorem lis_int {S : Store} {d : D} (h : Kn S d) : f__law_is_integer [d] S = .ok (.bl (isInt d)) S := by
  obtain ⟨h1, h2, _⟩ := gI_any h
  refine Wr.eq (w_def ?_)
  unfold b__law_is_integer
  cases d with
  | bl b =>
    simp only [isInt, isBl, Bool.or_true, Bool.false_or] at h1 h2
    push_cast [h1, h2]
    exact w_gc_take (by simp [D.cl]) Od.refl.take ⟨rfl, rfl⟩
  | int i =>
    simp only [isInt, isBl, Bool.or_false] at h1 h2
    push_cast [h1, h2]
    exact w_gc_take (by simp [D.cl]) Od.refl.take ⟨rfl, rfl⟩
  | _ =>
    simp only [isInt, isBl, Bool.or_false] at h1 h2
    push_cast [h1, h2]
    exact w_gc_take (by simp [D.cl]) Od.refl.take ⟨rfl, rfl⟩
/-- the law's own led span -/
theorem led_w {S : Store} {x : Int × Int} {lo hi : Int} {p : List Int} {e : Nat} {f : Bool} (hp : Pm e p) (hx : InP e x) : f__law_span_led [spD x lo hi, lkD_ p f] S = .ok (ledD p f (spD x lo hi)) S := by
  have i4 : ∀ a b c d : D, atI [a, b, c, d] 0 = some a ∧ atI [a, b, c, d] 1 = some b ∧ atI [a, b, c, d] 2 = some c ∧ atI [a, b, c, d] 3 = some d := fun _ _ _ _ => ⟨rfl, rfl, rfl, rfl⟩
  have x0 := fun a b c d => (i4 a b c d).1
  have x1 := fun a b c d => (i4 a b c d).2.1
  have x2 := fun a b c d => (i4 a b c d).2.2.1
  have x3 := fun a b c d => (i4 a b c d).2.2.2
  have at_ : ∀ z : Int, 0 ≤ z → z < (e : Nat) → atI (p.map D.int) z = some (.int (p.getD z.toNat 0)) := fun z h0 h1 => by
    obtain ⟨n, rfl⟩ : ∃ n : Nat, z = (n : Nat) := ⟨z.toNat, by omega⟩
    exact ys_at (by rw [hp.ln]; omega)
  have a1 := at_ x.1 hx.1.1 hx.1.2
  have a2 := at_ x.2 hx.2.1.1 hx.2.1.2
  refine Wr.eq (w_def ?_)
  unfold b__law_span_led spD lkD_
  refine ws_seq ?_
  push_cast []
  refine ws_seq ?_
  cases f with
  | true =>
    push_cast [x0, x1, x2, x3, a1, a2]
    exact w_gc_take rfl Od.refl.take ⟨rfl, rfl⟩
  | false =>
    push_cast [x0, x1, x2, x3, a1, a2]
    exact w_gc_take rfl Od.refl.take ⟨rfl, rfl⟩
theorem led_p {S : Store} {x : Int × Int} {lo hi : Int} {p : List Int} {e : Nat} {f : Bool} (hp : Pm e p) (hx : InP e x) : f_span_led [spD x lo hi, .tup (p.map D.int), .bl f] S = .ok (ledD p f (spD x lo hi)) S := by
  have at_ : ∀ z : Int, 0 ≤ z → z < (e : Nat) → atI (p.map D.int) z = some (.int (p.getD z.toNat 0)) := fun z h0 h1 => by
    obtain ⟨n, rfl⟩ : ∃ n : Nat, z = (n : Nat) := ⟨z.toNat, by omega⟩
    exact ys_at (by rw [hp.ln]; omega)
  have a1 := at_ x.1 hx.1.1 hx.1.2
  have a2 := at_ x.2 hx.2.1.1 hx.2.1.2
  refine Wr.eq (w_def ?_)
  unfold b_span_led spD
  refine ws_seq ?_
  push_cast []
  cases f with
  | true =>
    push_cast [a1, a2]
    exact w_gc_take rfl Od.refl.take ⟨rfl, rfl⟩
  | false =>
    push_cast [a1, a2]
    exact w_gc_take rfl Od.refl.take ⟨rfl, rfl⟩
/-! the walk along the items -/
structure EvI (e : Nat) (its : List D) (j : Nat) (ps : List Int) : Prop where
  tk : its.take j = ps.map D.int
  ln : ps.length = j
  rg : ∀ x ∈ ps, 0 ≤ x ∧ x < (e : Nat)
  nd : ps.Nodup
  ev : evF e ps (its.drop j) j = evF e [] its 0
theorem EvI.zero {e : Nat} {its : List D} : EvI e its 0 [] := ⟨by simp, rfl, by simp, by simp, by simp⟩
theorem drop_at {α : Type} {l : List α} {j : Nat} {d : α} (h : l[j]? = some d) : l.drop j = d :: l.drop (j + 1) := by
  obtain ⟨hj, e⟩ := List.getElem?_eq_some_iff.mp h
  rw [List.drop_eq_getElem_cons hj, e]
theorem EvI.bad {e : Nat} {its : List D} {j : Nat} {ps : List Int} {d : D} (h : EvI e its j ps) (hd : its[j]? = some d) (hb : evB e d = false) : evF e [] its 0 = some j := by
  rw [← h.ev, drop_at hd]
  cases d with
  | int i =>
    have nb : ¬ (0 ≤ i ∧ i < (e : Nat)) := by simpa [evB] using hb
    unfold evF
    rw [if_neg (fun z => nb z.1)]
  | _ => rfl
theorem EvI.dbl {e : Nat} {its : List D} {j : Nat} {ps : List Int} {i : Int} (h : EvI e its j ps) (hd : its[j]? = some (.int i)) (hb : i ∈ ps) : evF e [] its 0 = some j := by
  rw [← h.ev, drop_at hd]
  unfold evF
  rw [if_neg (fun z => z.2 hb)]
theorem EvI.go {e : Nat} {its : List D} {j : Nat} {ps : List Int} {i : Int} (h : EvI e its j ps) (hd : its[j]? = some (.int i)) (hr : 0 ≤ i ∧ i < (e : Nat)) (hb : i ∉ ps) : EvI e its (j + 1) (ps ++ [i]) := by
  refine ⟨?_, by simp [h.ln], fun x hx => ?_, ?_, ?_⟩
  · rw [List.take_add_one, h.tk, hd]
    simp
  · rcases List.mem_append.mp hx with z | z
    · exact h.rg x z
    · rw [List.mem_singleton.mp z]; exact hr
  · refine List.nodup_append.mpr ⟨h.nd, by simp, fun x hx y hy => ?_⟩
    rw [List.mem_singleton.mp hy]
    exact fun z => hb (z ▸ hx)
  · rw [← h.ev, drop_at hd]
    conv => rhs; unfold evF
    rw [if_pos ⟨hr, hb⟩]
theorem EvI.last {e : Nat} {its : List D} {ps : List Int} (h : EvI e its its.length ps) (hl : its.length = e) : evF e [] its 0 = none ∧ its = ps.map D.int ∧ Pm e ps := by
  refine ⟨?_, ?_, by rw [h.ln, hl], h.rg, h.nd⟩
  · rw [← h.ev, List.drop_length]
    rfl
  · have := h.tk
    rwa [List.take_length] at this
/-! the walk along the spans -/
structure SpW (p : List Int) (f : Bool) (l : List D) (j : Nat) : Prop where
  ev : spF p f l (l.drop j) j = spF p f l l 0
theorem SpW.zero {p : List Int} {f : Bool} {l : List D} : SpW p f l 0 := ⟨by simp⟩
theorem SpW.bad {p : List Int} {f : Bool} {l : List D} {j : Nat} {d : D} (h : SpW p f l j) (hd : l[j]? = some d) (hb : inB (ledD p f d) l = false) : spF p f l l 0 = some j := by
  rw [← h.ev, drop_at hd]
  unfold spF
  rw [if_neg (by rw [hb]; decide)]
theorem SpW.go {p : List Int} {f : Bool} {l : List D} {j : Nat} {d : D} (h : SpW p f l j) (hd : l[j]? = some d) (hb : inB (ledD p f d) l = true) : SpW p f l (j + 1) := ⟨by
  rw [← h.ev, drop_at hd]
  conv => rhs; unfold spF
  rw [if_pos hb]⟩
theorem SpW.last {p : List Int} {f : Bool} {l : List D} (h : SpW p f l l.length) : spF p f l l 0 = none := by
  rw [← h.ev, List.drop_length]
  rfl
theorem kn_tup {S : Store} {ds : List D} : Kn S (.tup ds) := ⟨.bi "tuple", rfl, by decide⟩
theorem kn_blx {S : Store} {b : Bool} : Kn S (.bl b) := ⟨.bi "bool", rfl, by decide⟩
theorem sp_v4 {x : Int × Int} {lo hi : Int} : V4 (spD x lo hi) := ⟨_, _, _, _, rfl⟩
/-- the law's fault -/
theorem lfault_w {S : Store} {q e : Nat} {b : Int} {l : List D} {t : D} (hq : S[q]? = some (.lst l)) (hl : ∀ d ∈ l, ∃ x lo hi, d = spD x lo hi ∧ Sp1 b e x lo hi) (ln : l.length ≤ 60) (hT : ThK S t) (he : e ≤ 24) : f__law_fault [.ref q, .int (e : Nat), t] S = .ok (fltD e l t) S := by
  have g0 : ∀ x y : D, atI [x, y] 0 = some x := fun _ _ => rfl
  have g1 : ∀ x y : D, atI [x, y] 1 = some y := fun _ _ => rfl
  have V : ∀ d ∈ l, V4 d := fun d hd => by
    obtain ⟨x, lo, hi, rfl, _⟩ := hl d hd
    exact sp_v4
  refine Wr.eq (w_def ?_)
  unfold b__law_fault
  refine ws_seq ?_
  have fin : ∀ d : D, D.cl S.length d = true → d = fltD e l t → Wr (gc S d S) (fun d' S' => d' = fltD e l t ∧ S' = S) noX := fun d hc h => w_gc_take hc Od.refl.take ⟨h, rfl⟩
  cases hT with
  | no hk ht =>
    have g := gIt hk
    rw [ht] at g
    push_cast [g]
    exact fin _ rfl (by cases t <;> first | rfl | cases ht)
  | @tu ds dl dk di =>
    have g := gIt (kn_tup (S := S) (ds := ds))
    have tt : isTup (.tup ds) = true := rfl
    rw [tt] at g
    rcases ds with _ | ⟨a, _ | ⟨y, _ | ⟨z, ds⟩⟩⟩
    · push_cast [g, List.length_nil]
      exact fin _ rfl rfl
    · push_cast [g, List.length_nil, List.length_cons]
      exact fin _ rfl (by cases a <;> rfl)
    · have ka := dk a (by simp)
      have ky := dk y (by simp)
      have gy := (gI_any ky).2.1
      have ga := gIt ka
      cases hy : isBl y with
      | false =>
        rw [hy] at gy
        push_cast [g, List.length_nil, List.length_cons, g1, gy]
        exact fin _ rfl (by cases a <;> cases y <;> first | rfl | cases hy)
      | true =>
        rw [hy] at gy
        cases y with
        | bl f =>
          push_cast [g, List.length_nil, List.length_cons, g1, gy]
          refine ws_seq ?_
          cases ha : isTup a with
          | false =>
            rw [ha] at ga
            push_cast [g0, ga]
            exact fin _ rfl (by cases a <;> first | rfl | cases ha)
          | true =>
            rw [ha] at ga
            cases a with
            | tup its =>
              obtain ⟨il, ik⟩ := di its _ rfl
              by_cases le : its.length = e
              · have le' : ((its.length : Nat) : Int) = (e : Nat) := by rw [le]
                push_cast [g0, ga, le', decide_true]
                have ed : fltD e l (.tup [.tup its, .bl f]) = fltI e l its f := by rw [fltD_tt, if_pos le]
                rw [ed] at fin ⊢
                refine ws_seq ?_
                push_cast [g0]
                refine w_for (I := fun j env S' => S = S' ∧ ∃ (ps : List Int) (w3 w4 : Option D), EvI e its j ps ∧ env = [some (.ref q), some (.int (e : Nat)), some (.tup [.tup its, .bl f]), w3, w4, none]) ?_ ?_ ?_
                · exact ⟨rfl, [], _, _, .zero, rfl⟩
                · rintro j d env _ hj ⟨rfl, ps, w3, w4, hi, rfl⟩
                  obtain ⟨x, hx, rfl⟩ := enum_at hj
                  refine ⟨trivial, ?_⟩
                  have kx := ik x (List.mem_of_getElem? hx)
                  have li := lis_int kx
                  have stop : evF e [] its 0 = some j → Wr (gc S (.tup [.str (Str.ofString "event"), .int (j : Nat)]) S) (fun d' S' => d' = fltI e l its f ∧ S' = S) noX := fun h => fin _ rfl (by unfold fltI; rw [h]; rfl)
                  have cut : cutD its none (some ((j : Nat) : Int)) = ps.map D.int := by
                    rw [cut_take (by omega), Int.toNat_natCast, hi.tk]
                  cases x with
                  | int i =>
                    have li : f__law_is_integer [.int i] S = .ok (.bl true) S := li
                    by_cases i0 : 0 ≤ i
                    · by_cases i1 : i < (e : Nat)
                      · have im := gInZ_ints (S := S) (neg := false) (x := i) (y := .tup (ps.map D.int)) (ys := ps) rfl
                        by_cases ii : i ∈ ps
                        · push_cast [li, i0, i1, decide_true, g0, cut, im, ii]
                          exact stop (hi.dbl hx ii)
                        · push_cast [li, i0, i1, decide_true, g0, cut, im, ii, decide_false]
                          exact ⟨_, _, _, hi.go hx ⟨i0, i1⟩ ii, rfl⟩
                      · push_cast [li, i0, i1, decide_true, decide_false]
                        exact stop (hi.bad hx (by simp [evB, i1]))
                    · push_cast [li, i0, decide_false]
                      exact stop (hi.bad hx (by simp [evB, i0]))
                  | _ =>
                    have li := li
                    simp only [isInt] at li
                    push_cast [li]
                    exact stop (hi.bad hx rfl)
                · rintro env _ ⟨rfl, ps, w3, w4, hi, rfl⟩
                  rw [enum_len] at hi
                  refine ⟨trivial, ?_⟩
                  obtain ⟨e1, e2, e3⟩ := hi.last le
                  have e4 : fltI e l its f = (match spF ps f l l 0 with | some k => nSp k | none => .non) := by
                    unfold fltI
                    rw [e1, e2, unI_map]
                  rw [e4] at fin ⊢
                  refine ws_seq ?_
                  push_cast [hq]
                  refine w_for (I := fun j env S' => S = S' ∧ ∃ (w3 w4 w5 : Option D), SpW ps f l j ∧ env = [some (.ref q), some (.int (e : Nat)), some (.tup [.tup its, .bl f]), w3, w4, w5]) ?_ ?_ ?_
                  · exact ⟨rfl, _, _, _, .zero, rfl⟩
                  · rintro j d env _ hj ⟨rfl, w3, w4, w5, hi, rfl⟩
                    obtain ⟨x, hx, rfl⟩ := enum_at hj
                    refine ⟨hq, ?_⟩
                    obtain ⟨x, lo, hi', rfl, hx1⟩ := hl x (List.mem_of_getElem? hx)
                    have ld := led_w (S := S) (lo := lo) (hi := hi') (f := f) e3 hx1.x
                    unfold lkD_ at ld
                    rw [← e2] at ld
                    have v4 : V4 (ledD ps f (spD x lo hi')) := sp_v4
                    have ir := in_row (S := S) (th := .ref q) (neg := true) (.inr ⟨q, rfl, hq⟩) v4 V
                    cases hb : inB (ledD ps f (spD x lo hi')) l with
                    | true =>
                      rw [hb] at ir
                      push_cast [ld, ir]
                      exact ⟨_, _, _, hi.go hx hb, rfl⟩
                    | false =>
                      rw [hb] at ir
                      push_cast [ld, ir]
                      exact fin _ rfl (by rw [hi.bad hx hb]; rfl)
                  · rintro env _ ⟨rfl, w3, w4, w5, hi, rfl⟩
                    rw [enum_len] at hi
                    refine ⟨hq, ?_⟩
                    push_cast []
                    exact fin _ rfl (by rw [hi.last])
              · have le' : ¬ ((its.length : Nat) : Int) = (e : Nat) := by omega
                push_cast [g0, ga, le', decide_false]
                exact fin _ rfl (by rw [fltD_tt, if_neg le]; rfl)
            | _ => cases ha
        | _ => cases hy
    · have l3 : ¬ ((((a :: y :: z :: ds).length : Nat)) : Int) = 2 := by simp; omega
      push_cast [g, l3]
      exact fin _ rfl (by cases a <;> cases y <;> rfl)
end
end Mi_k25

set_option linter.all false
set_option autoImplicit false
set_option maxRecDepth 100000
set_option maxHeartbeats 4000000
namespace Mi_k25
open PySem Lk L2
section
variable {Q : D → Store → Prop} {X : XP} {P : Po}
/-- the program's fault -/
theorem pfault_w {S : Store} {e : Nat} {b : Int} {l : List D} {t : D} (hl : ∀ d ∈ l, ∃ x lo hi, d = spD x lo hi ∧ Sp1 b e x lo hi) (hT : ThK S t) (he : e ≤ 24) : f_likeness_fault [net b (e : Nat) l, t] S = .ok (fltD e l t) S := by
  have q1 := fun S => fn_ev (S := S) (b := b) (e := (e : Nat)) (ds := l)
  have q2 := fun S => fn_sp (S := S) (b := b) (e := (e : Nat)) (ds := l)
  have V : ∀ d ∈ l, V4 d := fun d hd => by
    obtain ⟨x, lo, hi, rfl, _⟩ := hl d hd
    exact sp_v4
  refine Wr.eq (w_def ?_)
  unfold b_likeness_fault
  refine ws_seq ?_
  have fin : ∀ d : D, D.cl S.length d = true → d = fltD e l t → Wr (gc S d S) (fun d' S' => d' = fltD e l t ∧ S' = S) noX := fun d hc h => w_gc_take hc Od.refl.take ⟨h, rfl⟩
  cases hT with
  | no hk ht =>
    have g := gIt hk
    rw [ht] at g
    push_cast [g]
    exact fin _ rfl (by cases t <;> first | rfl | cases ht)
  | @tu ds dl dk di =>
    have g := gIt (kn_tup (S := S) (ds := ds))
    have tt : isTup (.tup ds) = true := rfl
    rw [tt] at g
    rcases ds with _ | ⟨a, _ | ⟨y, _ | ⟨z, ds⟩⟩⟩
    · push_cast [g, List.length_nil]
      exact fin _ rfl rfl
    · push_cast [g, List.length_nil, List.length_cons]
      exact fin _ rfl (by cases a <;> rfl)
    · have ka := dk a (by simp)
      have ky := dk y (by simp)
      have gy := (gI_any ky).2.1
      have ga := gIt ka
      push_cast [g, List.length_nil, List.length_cons]
      refine ws_seq ?_
      push_cast []
      refine ws_seq ?_
      cases ha : isTup a with
      | false =>
        rw [ha] at ga
        push_cast [ga]
        exact fin _ rfl (by cases a <;> first | rfl | cases ha)
      | true =>
        rw [ha] at ga
        cases a with
        | tup its =>
          obtain ⟨il, ik⟩ := di its _ rfl
          by_cases le : its.length = e
          · have le' : ((its.length : Nat) : Int) = (e : Nat) := by rw [le]
            cases hy : isBl y with
            | false =>
              rw [hy] at gy
              push_cast [ga, q1, le', decide_true, gy]
              exact fin _ rfl (by cases y <;> first | rfl | cases hy)
            | true =>
              rw [hy] at gy
              cases y with
              | bl f =>
                push_cast [ga, q1, le', decide_true, gy]
                have ed : fltD e l (.tup [.tup its, .bl f]) = fltI e l its f := by rw [fltD_tt, if_pos le]
                rw [ed] at fin ⊢
                refine ws_seq ?_
                push_cast []
                refine w_for (I := fun j env S' => S = S' ∧ ∃ (ps : List Int) (w3 w4 : Option D), EvI e its j ps ∧ env = [some (net b (e : Nat) l), some (.tup [.tup its, .bl f]), some (.tup its), some (.bl f), w3, w4, none]) ?_ ?_ ?_
                · exact ⟨rfl, [], _, _, .zero, rfl⟩
                · rintro j d env _ hj ⟨rfl, ps, w3, w4, hi, rfl⟩
                  obtain ⟨x, hx, rfl⟩ := enum_at hj
                  refine ⟨trivial, ?_⟩
                  have kx := ik x (List.mem_of_getElem? hx)
                  have li := is_ev (b := b) (e := e) (l := l) kx
                  have stop : evF e [] its 0 = some j → Wr (gc S (.tup [.str (Str.ofString "event"), .int (j : Nat)]) S) (fun d' S' => d' = fltI e l its f ∧ S' = S) noX := fun h => fin _ rfl (by unfold fltI; rw [h]; rfl)
                  have cut : cutD its none (some ((j : Nat) : Int)) = ps.map D.int := by
                    rw [cut_take (by omega), Int.toNat_natCast, hi.tk]
                  cases hb : evB e x with
                  | false =>
                    rw [hb] at li
                    push_cast [li]
                    exact stop (hi.bad hx hb)
                  | true =>
                    rw [hb] at li
                    obtain ⟨i, rfl, i0, i1⟩ := evB_int hb
                    have im := gInZ_ints (S := S) (neg := false) (x := i) (y := .tup (ps.map D.int)) (ys := ps) rfl
                    by_cases ii : i ∈ ps
                    · push_cast [li, cut, im, ii, decide_true]
                      exact stop (hi.dbl hx ii)
                    · push_cast [li, cut, im, ii, decide_false]
                      exact ⟨_, _, _, hi.go hx ⟨i0, i1⟩ ii, rfl⟩
                · rintro env _ ⟨rfl, ps, w3, w4, hi, rfl⟩
                  rw [enum_len] at hi
                  refine ⟨trivial, ?_⟩
                  obtain ⟨e1, e2, e3⟩ := hi.last le
                  have e4 : fltI e l its f = (match spF ps f l l 0 with | some k => nSp k | none => .non) := by
                    unfold fltI
                    rw [e1, e2, unI_map]
                    try rfl
                  rw [e4] at fin ⊢
                  refine ws_seq ?_
                  push_cast [q2]
                  refine w_for (I := fun j env S' => S = S' ∧ ∃ (w3 w4 w5 : Option D), SpW ps f l j ∧ env = [some (net b (e : Nat) l), some (.tup [.tup its, .bl f]), some (.tup its), some (.bl f), w3, w4, w5]) ?_ ?_ ?_
                  · exact ⟨rfl, _, _, _, .zero, rfl⟩
                  · rintro j d env _ hj ⟨rfl, w3, w4, w5, hi, rfl⟩
                    obtain ⟨x, hx, rfl⟩ := enum_at hj
                    refine ⟨trivial, ?_⟩
                    obtain ⟨x, lo, hi', rfl, hx1⟩ := hl x (List.mem_of_getElem? hx)
                    have ld := led_p (S := S) (lo := lo) (hi := hi') (f := f) e3 hx1.x
                    rw [← e2] at ld
                    have v4 : V4 (ledD ps f (spD x lo hi')) := sp_v4
                    have ir := in_row (S := S) (th := .tup l) (neg := true) (.inl rfl) v4 V
                    cases hb : inB (ledD ps f (spD x lo hi')) l with
                    | true =>
                      rw [hb] at ir
                      push_cast [ld, q2, ir]
                      exact ⟨_, _, _, hi.go hx hb, rfl⟩
                    | false =>
                      rw [hb] at ir
                      push_cast [ld, q2, ir]
                      exact fin _ rfl (by rw [hi.bad hx hb]; rfl)
                  · rintro env _ ⟨rfl, w3, w4, w5, hi, rfl⟩
                    rw [enum_len] at hi
                    refine ⟨trivial, ?_⟩
                    push_cast []
                    exact fin _ rfl (by rw [hi.last])
              | _ => cases hy
          · have le' : ¬ ((its.length : Nat) : Int) = (e : Nat) := by omega
            push_cast [ga, q1, le', decide_false]
            refine fin _ rfl ?_
            cases y with
            | bl f => rw [fltD_tt, if_neg le]; rfl
            | _ => rfl
        | _ => cases ha
    · have l3 : ¬ ((((a :: y :: z :: ds).length : Nat)) : Int) = 2 := by simp; omega
      push_cast [g, l3]
      exact fin _ rfl (by cases a <;> cases y <;> rfl)
end
end Mi_k25

set_option linter.all false
set_option autoImplicit false
set_option maxRecDepth 100000
set_option maxHeartbeats 4000000
namespace Mi_k25
open PySem Lk L2
section
variable {Q : D → Store → Prop} {X : XP} {P : Po}
def kSp (x : Int × Int) (lo hi : Int) : NestedKey := .tup [.num x.1, .num x.2, .num lo, .num hi]
theorem tk_sp {x : Int × Int} {lo hi : Int} : tkey (spD x lo hi) = some (kSp x lo hi) := rfl
theorem tk_inj {d d' : D} (h : ∃ x lo hi, d = spD x lo hi) (h' : ∃ x lo hi, d' = spD x lo hi) (e : tkey d = tkey d') : d = d' := by
  obtain ⟨x, lo, hi, rfl⟩ := h
  obtain ⟨y, c, d, rfl⟩ := h'
  rw [tk_sp, tk_sp] at e
  simp only [kSp, Option.some.injEq, NestedKey.tup.injEq, List.cons.injEq, NestedKey.num.injEq, and_true] at e
  obtain ⟨e1, e2, e3, e4⟩ := e
  rw [show x = y from Prod.ext e1 e2, e3, e4]
theorem evF_pm {e : Nat} : ∀ {ds : List D} {ps : List Int} {k : Nat}, evF e ps ds k = none → (∀ x ∈ ps, 0 ≤ x ∧ x < (e : Nat)) → ps.Nodup → ∃ qs : List Int, ds = qs.map D.int ∧ (∀ x ∈ ps ++ qs, 0 ≤ x ∧ x < (e : Nat)) ∧ (ps ++ qs).Nodup
  | [], ps, k, _, h1, h2 => ⟨[], rfl, by simpa using h1, by simpa using h2⟩
  | .int i :: ds, ps, k, h, h1, h2 => by
    unfold evF at h
    split at h
    · next hc =>
      obtain ⟨qs, rfl, h3, h4⟩ := evF_pm (ps := ps ++ [i]) h (fun x hx => by
        rcases List.mem_append.mp hx with z | z
        · exact h1 x z
        · rw [List.mem_singleton.mp z]; exact hc.1) (List.nodup_append.mpr ⟨h2, by simp, fun x hx y hy => by
        rw [List.mem_singleton.mp hy]
        exact fun z => hc.2 (z ▸ hx)⟩)
      exact ⟨i :: qs, rfl, by simpa using h3, by simpa using h4⟩
    · cases h
  | .non :: _, _, _, h, _, _ => by cases h
  | .bl _ :: _, _, _, h, _, _ => by cases h
  | .str _ :: _, _, _, h, _, _ => by cases h
  | .tup _ :: _, _, _, h, _, _ => by cases h
  | .rol _ :: _, _, _, h, _, _ => by cases h
  | .ref _ :: _, _, _, h, _, _ => by cases h
  | .ins _ _ :: _, _, _, h, _, _ => by cases h
theorem spF_none {p : List Int} {f : Bool} {l : List D} : ∀ {ds : List D} {k : Nat}, spF p f l ds k = none → ∀ d ∈ ds, inB (ledD p f d) l = true
  | [], _, _, d, h => by cases h
  | x :: ds, k, h, d, hd => by
    unfold spF at h
    split at h
    · next hc =>
      rcases List.mem_cons.mp hd with rfl | z
      · exact hc
      · exact spF_none h d z
    · cases h
/-- where there is no fault -/
theorem flt_non {e : Nat} {l : List D} {t : D} (h : fltD e l t = .non) : ∃ ps f, t = lkD_ ps f ∧ Pm e ps ∧ ∀ d ∈ l, inB (ledD ps f d) l = true := by
  unfold fltD at h
  split at h
  · next its f =>
    split at h
    · next le =>
      unfold fltI at h
      split at h
      · cases h
      · next h1 =>
        obtain ⟨ps, rfl, h3, h4⟩ := evF_pm h1 (by simp) (by simp)
        rw [unI_map] at h
        split at h
        · cases h
        · next h5 => exact ⟨ps, f, rfl, ⟨by simpa using le, by simpa using h3, by simpa using h4⟩, spF_none h5⟩
    · cases h
  · cases h
def fkE : D → D
  | .tup [_, s] => s
  | d => d
def fvE : D → D
  | .tup [i, _] => i
  | d => d
theorem enum_fk {l : List D} : (enumD l).map fkE = l := by
  apply List.ext_getElem?
  intro i
  rw [List.getElem?_map]
  cases h : (enumD l)[i]? with
  | none =>
    rw [List.getElem?_eq_none_iff, enum_len] at h
    rw [List.getElem?_eq_none h]
    rfl
  | some y =>
    obtain ⟨d, hd, rfl⟩ := enum_at h
    rw [hd]
    rfl
/-- the program's indexes -/
theorem idx_w {S : Store} {e : Nat} {b : Int} {l : List D} {ps : List Int} {f : Bool} (hl : ∀ d ∈ l, ∃ x lo hi, d = spD x lo hi ∧ Sp1 b e x lo hi) (nd : l.Nodup) (ln : l.length ≤ 60) (hp : Pm e ps) (hs : ∀ d ∈ l, inB (ledD ps f d) l = true) : Wr (f_indexes_led [net b (e : Nat) l, lkD_ ps f] S) (fun d S' => Od S S') noX := by
  have lm := lim_16
  have q2 := fun S => fn_sp (S := S) (b := b) (e := (e : Nat)) (ds := l)
  have V : ∀ d ∈ l, V4 d := fun d hd => by
    obtain ⟨x, lo, hi, rfl, _⟩ := hl d hd
    exact sp_v4
  have Z : ∀ d ∈ l, ∃ x lo hi, d = spD x lo hi := fun d hd => by
    obtain ⟨x, lo, hi, h, _⟩ := hl d hd
    exact ⟨x, lo, hi, h⟩
  have it : ∀ d ∈ enumD l, ∃ (i : Nat) (s : D), d = .tup [.int (i : Nat), s] ∧ s ∈ l := fun d hd => by
    obtain ⟨i, hi⟩ := List.getElem?_of_mem hd
    obtain ⟨s, h1, h2⟩ := enum_at hi
    exact ⟨i, s, h2, List.mem_of_getElem? h1⟩
  have tks : ∀ d ∈ enumD l, ∃ k, tkey (fkE d) = some k := fun d hd => by
    obtain ⟨i, s, rfl, hs⟩ := it d hd
    obtain ⟨x, lo, hi, rfl⟩ := Z s hs
    exact ⟨_, tk_sp⟩
  have ndk : ((enumD l).map fun d => tkey (fkE d)).Nodup := by
    rw [show ((enumD l).map fun d => tkey (fkE d)) = l.map tkey by rw [← enum_fk (l := l), List.map_map, enum_fk]; rfl]
    refine List.pairwise_map.mpr (List.Pairwise.imp_of_mem ?_ nd)
    intro a c ha hc ne he
    exact ne (tk_inj (Z a ha) (Z c hc) he)
  refine w_def ?_
  unfold b_indexes_led lkD_
  refine ws_seq ?_
  push_cast []
  refine ws_seq ?_
  push_cast [v_dc, q2]
  refine w_dcM fkE fvE (fun _ => trivial) (by rw [enum_len]; simp; omega) ?_ ?_
  · intro d hd kvs
    obtain ⟨i, s, rfl, hs⟩ := it d hd
    obtain ⟨k, hk⟩ := tks _ hd
    refine ⟨_, k, rfl, hk, ?_, ?_⟩
    · exact ⟨⟨rfl, rfl⟩⟩
    · exact ⟨⟨rfl, rfl⟩⟩
  rw [dcF_new (fun d hd => by obtain ⟨k, hk⟩ := tks d hd; exact ⟨k, hk, rfl⟩) ndk, List.nil_append]
  obtain ⟨kvs, hk⟩ : ∃ kvs, kvs = (enumD l).map fun d => (fkE d, fvE d) := ⟨_, rfl⟩
  rw [← hk]
  have look : ∀ s ∈ l, ∃ k v, tkey s = some k ∧ lkN kvs k = some v := fun s hs => by
    rw [← enum_fk (l := l)] at hs
    obtain ⟨d, hd, rfl⟩ := List.mem_map.mp hs
    obtain ⟨k, hk'⟩ := tks d hd
    exact ⟨k, fvE d, hk', by rw [hk]; exact lkN_at ndk hd hk' tks⟩
  refine w_lcM (fun d => match tkey (ledD ps f d) with | some k => (lkN kvs k).getD .non | none => .non) (fun _ => trivial) (by omega) ?_ ?_
  · intro d hd a
    obtain ⟨x, lo, hi, rfl, hx⟩ := hl d hd
    have hm := (inB_iff (d := ledD ps f (spD x lo hi)) sp_v4 V).mp (hs _ hd)
    obtain ⟨k, v, hk1, hk2⟩ := look _ hm
    have ld := fun S => led_p (S := S) (lo := lo) (hi := hi) (f := f) hp hx.x
    have q4 : (S ++ [Ob.dt kvs] ++ [Ob.lst a])[S.length]? = some (.dt kvs) := app_get last1
    refine ⟨_, rfl, ?_⟩
    push_cast [setL, ld, v_ixN hk1]
    refine ⟨kvs, q4, v, hk2, ?_⟩
    rw [hk1]
    show v = (lkN kvs k).getD .non
    rw [hk2]
    rfl
  push_cast [last1]
  exact w_gc (Od.app.snoc) fun _ _ => Od.refl
/-! what the program answers -/
theorem flt_is {S : Store} {e : Nat} {l : List D} {t : D} : fltD e l t = .non ∨ ∃ x k, fltD e l t = .tup [.str x, .int k] ∧ PyData.strOk x = true := by
  have a1 : PyData.strOk (Str.ofString "likeness") = true := by decide +kernel
  have a2 : PyData.strOk (Str.ofString "event") = true := by decide +kernel
  have a3 : PyData.strOk (Str.ofString "span") = true := by decide +kernel
  unfold fltD
  split
  · split
    · unfold fltI
      split
      · exact .inr ⟨_, _, rfl, a2⟩
      · split
        · exact .inr ⟨_, _, rfl, a3⟩
        · exact .inl rfl
    · exact .inr ⟨_, _, rfl, a1⟩
  · exact .inr ⟨_, _, rfl, a1⟩
theorem same_ok {S : Store} {d : D} (h : d = .non ∨ ∃ x k, d = .tup [.str x, .int k] ∧ PyData.strOk x = true) : f__law_same [d, d] S = .ok (.bl true) S := by
  refine Wr.eq (w_def ?_)
  unfold b__law_same
  refine ws_seq ?_
  rcases h with rfl | ⟨x, k, rfl, hx⟩
  · push_cast []
    exact w_gc_take rfl Od.refl.take ⟨rfl, rfl⟩
  · have g0 : ∀ x y : D, atI [x, y] 0 = some x := fun _ _ => rfl
    have g1 : ∀ x y : D, atI [x, y] 1 = some y := fun _ _ => rfl
    have g : gIsi cs [.bi "tuple"] (.tup [.str x, .int k]) S = .ok (.bl true) S := gIt kn_tup
    have gs : gIsi cs [.bi "str"] (.str x) S = .ok (.bl true) S := rfl
    have li : f__law_is_integer [.int k] S = .ok (.bl true) S := lis_int (kn_int S k)
    have ok : okP 11 (.tup [.str x, .int k]) = true := by simp [okP, okPL, hx]
    have ee : gEqZ cs oe (.tup [.str x, .int k]) (.tup [.str x, .int k]) S = .ok (.bl true) S := by
      rw [(Dat.val ok).eqZ (Dat.val ok)]
      rw [(eqv_c (.tup [.str x, .int k]) (.tup [.str x, .int k]) rfl rfl).mpr rfl]
    push_cast []
    refine ws_seq ?_
    push_cast [g, g0, g1, gs, li, ee]
    exact w_gc_take rfl Od.refl.take ⟨rfl, rfl⟩
theorem isl_ok {S : Store} {e : Nat} {b : Int} {l : List D} {t : D} (hl : ∀ d ∈ l, ∃ x lo hi, d = spD x lo hi ∧ Sp1 b e x lo hi) (hT : ThK S t) (he : e ≤ 24) : f_is_likeness [net b (e : Nat) l, t] S = .ok (.bl (isNonD (fltD e l t))) S := by
  have pf := pfault_w hl hT he
  refine Wr.eq (w_def ?_)
  unfold b_is_likeness
  push_cast [pf]
  exact w_gc_take rfl Od.refl.take ⟨rfl, rfl⟩
end
end Mi_k25

set_option linter.all false
set_option autoImplicit false
set_option maxRecDepth 100000
set_option maxHeartbeats 4000000
namespace Mi_k25
open PySem Lk L2
section
variable {Q : D → Store → Prop} {X : XP} {P : Po}
variable {S : Store} {e : Nat} {b : Int} {l : List D} {t : D}
theorem chk_ok (hl : ∀ d ∈ l, ∃ x lo hi, d = spD x lo hi ∧ Sp1 b e x lo hi) (hT : ThK S t) (he : e ≤ 24) (h : fltD e l t = .non) : f_check_likeness [net b (e : Nat) l, t] S = .ok .non S := by
  have il := isl_ok hl hT he
  rw [h] at il
  have il : f_is_likeness [net b (e : Nat) l, t] S = .ok (.bl true) S := il
  refine Wr.eq (w_def ?_)
  unfold b_check_likeness
  push_cast [il]
  exact w_gc_take rfl Od.refl.take ⟨rfl, rfl⟩
theorem chk_no (hl : ∀ d ∈ l, ∃ x lo hi, d = spD x lo hi ∧ Sp1 b e x lo hi) (hT : ThK S t) (he : e ≤ 24) (h : isNonD (fltD e l t) = false) : f_check_likeness [net b (e : Nat) l, t] S = .ex "BadLikeness" [] S := by
  have il := isl_ok hl hT he
  rw [h] at il
  refine Wr.exq (w_def ?_)
  unfold b_check_likeness
  push_cast [il]
  rw [w_gcX_self]
  exact ⟨rfl, rfl, rfl⟩
theorem spl_ok (hl : ∀ d ∈ l, ∃ x lo hi, d = spD x lo hi ∧ Sp1 b e x lo hi) (nd : l.Nodup) (ln : l.length ≤ 60) (hT : ThK S t) (he : e ≤ 24) (h : fltD e l t = .non) : Wr (f_spans_led [net b (e : Nat) l, t] S) (fun d S' => Od S S') noX := by
  have ck := chk_ok hl hT he h
  obtain ⟨ps, f, rfl, hp, hs⟩ := flt_non h
  refine w_def ?_
  unfold b_spans_led
  refine ws_seq ?_
  push_cast [ck]
  refine (idx_w hl nd ln hp hs).to ?_
  intro d S' o
  exact w_gc o fun _ _ => Od.refl
theorem spl_no (hl : ∀ d ∈ l, ∃ x lo hi, d = spD x lo hi ∧ Sp1 b e x lo hi) (hT : ThK S t) (he : e ≤ 24) (h : isNonD (fltD e l t) = false) : f_spans_led [net b (e : Nat) l, t] S = .ex "BadLikeness" [] S := by
  have ck := chk_no hl hT he h
  refine Wr.exq (w_def ?_)
  unfold b_spans_led
  refine ws_seq ?_
  push_cast [ck]
  rw [w_ex, w_gcX_self]
  exact ⟨rfl, rfl, rfl⟩
/-- a thing is judged as it should -/
theorem judged_w (hl : ∀ d ∈ l, ∃ x lo hi, d = spD x lo hi ∧ Sp1 b e x lo hi) (nd : l.Nodup) (ln : l.length ≤ 60) (hT : ThK S t) (he : e ≤ 24) : f__law_judged [net b (e : Nat) l, t, fltD e l t] S = .ok (.bl true) S := by
  have pf := pfault_w hl hT he
  have sm := same_ok (S := S) (flt_is (S := S) (e := e) (l := l) (t := t))
  have il := isl_ok hl hT he
  have gb : ∀ v : Bool, gIsi cs [.bi "bool"] (.bl v) S = .ok (.bl true) S := fun v => (gI_any kn_blx).2.1
  have nb : ∀ v : Bool, gNeX oe (.bl v) (.bl v) S = .ok (.bl false) S := fun v => by
    rw [(Dat.val (show okP 11 (.bl v) = true from rfl)).ne (Dat.val (show okP 11 (.bl v) = true from rfl))]
    cases v <;> rfl
  have gn : gIsN (fltD e l t) .non S = .ok (.bl (isNonD (fltD e l t))) S := by
    cases fltD e l t <;> rfl
  refine Wr.eq (w_def ?_)
  unfold b__law_judged
  refine ws_seq ?_
  push_cast [pf, sm]
  refine ws_seq ?_
  push_cast [il]
  refine ws_seq ?_
  push_cast [gb, nb]
  refine ws_seq (w_try ?_)
  cases h : isNonD (fltD e l t) with
  | true =>
    have h' : fltD e l t = .non := by
      cases hf : fltD e l t <;> rw [hf] at h <;> first | rfl | cases h
    push_cast []
    refine (spl_ok hl nd ln hT he h').to ?_
    intro d S' o
    rw [h']
    push_cast []
    exact w_gc_take rfl o.take ⟨rfl, rfl⟩
  | false =>
    have sp := spl_no hl hT he h
    have x1 : xk "BadLikeness" (.own "SpansError") = some true := by decide +kernel
    have x2 : xk "BadLikeness" (.bi "ValueError") = some true := by decide +kernel
    have x3 : xk "BadLikeness" (.own "BadLot") = some false := by decide +kernel
    have sb1 : sb "BadLikeness" "BadLikeness" = some true := by decide +kernel
    rw [u_drop]
    push_cast [sp, w_ex]
    refine ⟨true, sb1, ?_⟩
    rw [if_pos rfl]
    refine w_endAs ?_
    push_cast [h, x1, x2, x3]
    exact w_gc_take rfl Od.refl.take ⟨rfl, rfl⟩
end
end Mi_k25

set_option linter.all false
set_option autoImplicit false
set_option maxRecDepth 100000
set_option maxHeartbeats 4000000
namespace Mi_k25
open PySem Lk L2
section
variable {Q : D → Store → Prop} {X : XP} {P : Po}
theorem Kn.agL {S S' : Store} {n : Nat} {d : D} {ds : List D} (h : Kn S d) (a : Ag S n S') (s : S'[n]? = some (.lst ds)) : Kn S' d := by
  obtain ⟨t, h1, h2⟩ := h
  cases d with
  | ref m =>
    by_cases e : m = n
    · subst e
      exact ⟨.bi "list", by simp [tyK, s], by decide⟩
    · have lt : m < S.length := by
        rcases Nat.lt_or_ge m S.length with z | z
        · exact z
        · rw [show tyK S (.ref m) = none by simp [tyK, List.getElem?_eq_none z]] at h1
          cases h1
      refine ⟨t, ?_, h2⟩
      rw [← h1]
      simp only [tyK]
      rw [a.2 m lt e]
  | _ => exact ⟨t, h1, h2⟩
theorem Sr.lst {S : Store} {n : Nat} {k : Int} (h : Sr S n k) : ∃ ds, S[n]? = some (.lst ds) := by
  obtain ⟨a, b, c, d, e, h1, _⟩ := h
  exact ⟨_, h1⟩
theorem Kn.agS {S S' : Store} {n : Nat} {k : Int} {d : D} (h : Kn S d) (a : Ag S n S') (s : Sr S' n k) : Kn S' d := by
  obtain ⟨ds, hd⟩ := s.lst
  exact h.agL a hd
theorem ThK.ag {S S' : Store} {n : Nat} {k : Int} {d : D} (h : ThK S d) (a : Ag S n S') (s : Sr S' n k) : ThK S' d := by
  cases h with
  | no h1 h2 => exact .no (h1.agS a s) h2
  | tu h1 h2 h3 => exact .tu h1 (fun x hx => (h2 x hx).agS a s) fun its y e => ⟨(h3 its y e).1, fun x hx => ((h3 its y e).2 x hx).agS a s⟩
theorem clL_in {n : Nat} {x : D} : ∀ {ds : List D}, clL n ds = true → x ∈ ds → x.cl n = true
  | [], _, h => by cases h
  | d :: ds, h, hx => by
    simp only [clL, Bool.and_eq_true] at h
    rcases List.mem_cons.mp hx with rfl | z
    · exact h.1
    · exact clL_in h.2 z
theorem Kn.bk {S S' : Store} {d : D} (h : Kn S' d) (c : d.cl S.length = true) (t : S'.take S.length = S) : Kn S d := by
  obtain ⟨k, h1, h2⟩ := h
  cases d with
  | ref m =>
    have lt : m < S.length := by simpa [D.cl] using c
    refine ⟨k, ?_, h2⟩
    rw [← h1]
    simp only [tyK]
    have : S[m]? = S'[m]? := by
      conv => lhs; rw [← t]
      rw [List.getElem?_take, if_pos lt]
    rw [this]
  | _ => exact ⟨k, h1, h2⟩
theorem ThK.bk {S S' : Store} {d : D} (h : ThK S' d) (c : d.cl S.length = true) (t : S'.take S.length = S) : ThK S d := by
  cases h with
  | no h1 h2 => exact .no (h1.bk c t) h2
  | tu h1 h2 h3 =>
    have c : clL S.length _ = true := c
    exact .tu h1 (fun x hx => (h2 x hx).bk (clL_in c hx) t) fun its y e => by
      subst e
      have c2 : clL S.length its = true := clL_in c (List.mem_cons_self)
      exact ⟨(h3 its y rfl).1, fun x hx => ((h3 its y rfl).2 x hx).bk (clL_in c2 hx) t⟩
theorem p39 (S : Store) : Lk.gPow (.int 10) (.int 39) S = .ok (.int 1000000000000000000000000000000000000000) S := by
  unfold Lk.gPow
  dsimp only
  rw [if_pos (by decide)]
  rfl
theorem at_mem {l : List D} {r : Int} (h0 : 0 ≤ r) (h1 : r < (l.length : Nat)) : ∃ x, atI l r = some x ∧ x ∈ l := by
  have hl : r.toNat < l.length := by omega
  exact ⟨l[r.toNat], at_nat h0 (List.getElem?_eq_getElem hl), List.getElem_mem hl⟩
theorem th_two {S : Store} {its : List D} {y : D} (hl : its.length ≤ 60) (hi : ∀ x ∈ its, Kn S x) (hy : Kn S y) : ThK S (.tup [.tup its, y]) := .tu (by simp) (fun x hx => by
  simp only [List.mem_cons, List.not_mem_nil, or_false] at hx
  rcases hx with rfl | rfl
  · exact kn_tup
  · exact hy) fun its' y' e => by
  cases e
  exact ⟨hl, hi⟩
structure GL (S0 : Store) (n : Nat) (K : Int) (a e : Nat) (S' : Store) : Prop where
  sr : Sr S' n K
  ag : Ag S0 n S'
  hl : ∃ its, S'[a]? = some (.lst its) ∧ its.length = e ∧ ∀ x ∈ its, Kn S' x
  ne : a ≠ n ∧ S0.length ≤ a
theorem GL.step {S0 : Store} {n : Nat} {K K' : Int} {a e : Nat} {S' S2 : Store} (h : GL S0 n K a e S') (u : Ag S' n S2) (s : Sr S2 n K') : GL S0 n K' a e S2 := by
  obtain ⟨its, h1, h2, h3⟩ := h.hl
  exact ⟨s, h.ag.trans u, ⟨its, ag_get u h1 h.ne.1, h2, fun x hx => (h3 x hx).agS u s⟩, h.ne⟩
theorem GL.set {S0 : Store} {n : Nat} {K : Int} {a e : Nat} {S' : Store} {its : List D} {x : D} {i : Nat} (h : GL S0 n K a e S') (hi : S'[a]? = some (.lst its)) (hx : Kn S' x) : GL S0 n K a e (S'.set a (.lst (its.set i x))) := by
  obtain ⟨its', h1, h2, h3⟩ := h.hl
  rw [hi] at h1
  cases h1
  have u : Ag S' a (S'.set a (.lst (its.set i x))) := Ch.ag ⟨_, rfl⟩
  have g : (S'.set a (.lst (its.set i x)))[a]? = some (.lst (its.set i x)) := List.getElem?_set_self (getlt hi)
  refine ⟨h.sr.ag u (fun z => h.ne.1 z.symm), ag_set h.ag h.ne.2, ⟨_, g, by rw [List.length_set]; exact h2, fun y hy => ?_⟩, h.ne⟩
  rcases List.mem_or_eq_of_mem_set hy with z | rfl
  · exact (h3 y z).agL u g
  · exact hx.agL u g
theorem spoiled_w {S : Store} {n e : Nat} {k : Int} {p : List Int} {f : Bool} (hs : Sr S n k) (hk : k < 40000) (hp : Pm e p) (e1 : 1 ≤ e) (e24 : e ≤ 24) : Wr (f__law_spoiled [.ref n, lkD_ p f] S) (fun d S' => Sr S' n (k + 20) ∧ Ag S n S' ∧ ThK S' d) noX := by
  have lm := lim_16
  have nl := hs.lt
  have db : ∀ z : Int, 0 ≤ z → z ≤ 10000 → bits z < 9000 := fun z h0 h1 => bs (by omega) (by omega)
  have g0 : ∀ x y : D, atI [x, y] 0 = some x := fun _ _ => rfl
  have g1 : ∀ x y : D, atI [x, y] 1 = some y := fun _ _ => rfl
  refine w_def ?_
  unfold b__law_spoiled
  refine ws_seq ?_
  unfold lkD_
  push_cast [g0]
  obtain ⟨a, ha⟩ : ∃ a, a = S.length := ⟨_, rfl⟩
  rw [← ha]
  have G0 : GL S n k a e (S ++ [Ob.lst (p.map D.int)]) := ⟨hs.app, Ag.app _ _ _, ⟨_, by rw [ha]; exact last1, by rw [List.length_map, hp.ln], fun x hx => by
    obtain ⟨z, _, rfl⟩ := List.mem_map.mp hx
    exact kn_int _ z⟩, by omega, by omega⟩
  have q0 : (S ++ [Ob.lst (p.map D.int)])[a]? = some (.lst (p.map D.int)) := by rw [ha]; exact last1
  have pl : (((p.map D.int).length : Nat) : Int) = (e : Nat) := by rw [List.length_map, hp.ln]
  refine ws_seq ?_
  push_cast [q0, pl]
  refine (dr_w G0.sr (m := (e : Nat)) (by omega) (by omega) (db _ (by omega) (by omega))).to ?_
  rintro _ S1 ⟨r, rfl, r0, r1, s1, u1⟩
  have G1 := G0.step u1.ag s1
  have q1 := ag_get u1.ag q0 G0.ne.1
  have mk1 := fun S => mk (S := S) (t := r) (b := 1) (by decide) (by unfold Sz; decide)
  have mk2 := fun S => mk (S := S) (t := 0) (b := 1) (by decide) (by unfold Sz; decide)
  refine ws_cut (fun e' S' => GL S n (k + 1) a e S' ∧ S'[a]? = some (.lst (p.map D.int)) ∧ ∃ X : List D, X.length = 12 ∧ (∀ x ∈ X, Kn S' x) ∧ e' = [some (.ref n), some (.tup [.tup (p.map D.int), .bl f]), some (.ref a), some (.int r), some (.tup X), none, none]) ?_ ?_
  · push_cast [q1, pl, p39, mk1, mk2]
    refine ⟨by omega, G1.step (Ag.app S1 n [Ob.lst []]) (s1.app.mono (by omega)), app_get q1, _, rfl, ?_, rfl⟩
    intro x hx
    simp only [List.mem_cons, List.not_mem_nil, or_false] at hx
    rcases hx with rfl | rfl | rfl | rfl | rfl | rfl | rfl | rfl | rfl | rfl | rfl | rfl
    · exact kn_bl _ _
    · exact kn_bl _ _
    · exact kn_int _ _
    · exact kn_int _ _
    · exact kn_int _ _
    · exact ⟨.bi "NoneType", rfl, by decide⟩
    · exact ⟨.bi "str", rfl, by decide⟩
    · exact kn_tup
    · exact ⟨.bi "list", by simp [tyK], by decide⟩
    · exact kn_int _ _
    · exact kn_rat _ _
    · exact kn_rat _ _
  clear q1 q0 G0 G1 s1 u1
  rintro _ S1 ⟨G1, q1, X, Xl, KX, rfl⟩
  refine ws_seq ?_
  push_cast []
  refine (dr_w G1.sr (m := 10) (by omega) (by decide) (db _ (by decide) (by decide))).to ?_
  rintro _ S2 ⟨pk, rfl, pk0, pk1, s2, u2⟩
  have KX := fun x hx => (KX x hx).agS u2.ag s2
  have q2 := ag_get u2.ag q1 G1.ne.1
  have G2 := G1.step u2.ag s2
  clear q1 G1 u2
  have out : ∀ (S' : Store) (d : D) (K : Int), K ≤ k + 20 → GL S n K a e S' → ThK S' d → Wr (gc S d S') (fun d S' => Sr S' n (k + 20) ∧ Ag S n S' ∧ ThK S' d) noX := fun S' d K hK g t => w_gc ⟨g.sr.mono hK, g.ag, t⟩ fun c tk => ⟨hs.mono (by omega), Ag.refl _ _, t.bk c tk⟩
  have gl := G2.hl
  have pin : ∀ S', ∀ x ∈ p.map D.int, Kn S' x := fun S' x hx => by
    obtain ⟨z, _, rfl⟩ := List.mem_map.mp hx
    exact kn_int _ z
  have pl60 : (p.map D.int).length ≤ 60 := by rw [List.length_map, hp.ln]; omega
  -- another flag
  refine ws_seq ?_
  by_cases c0 : pk = 0
  · push_cast [c0, decide_true, q2]
    refine (dr_w G2.sr (m := 5) (by omega) (by decide) (db _ (by decide) (by decide))).to ?_
    rintro _ S3 ⟨z, rfl, z0, z1, s3, u3⟩
    obtain ⟨y, hy, ym⟩ := at_mem (l := [.int 1, .int 0, .non, .str (Str.ofString "True"), .tup [.bl true]]) z0 (by simpa using z1)
    push_cast [hy]
    refine out S3 _ _ (by omega) (G2.step u3.ag s3) (th_two pl60 (pin _) ?_)
    simp only [List.mem_cons, List.not_mem_nil, or_false] at ym
    rcases ym with rfl | rfl | rfl | rfl | rfl
    · exact kn_int _ _
    · exact kn_int _ _
    · exact ⟨.bi "NoneType", rfl, by decide⟩
    · exact ⟨.bi "str", rfl, by decide⟩
    · exact kn_tup
  push_cast [c0, decide_false]
  refine ws_seq ?_
  by_cases c1 : pk = 1
  · push_cast [c1, decide_true, q2, g1]
    have G3 := G2.step (Ag.app S2 n [Ob.lst [.ref a, .bl f]]) (s2.app)
    refine ⟨_, app_get q2, ?_⟩
    refine (dr_w G3.sr (m := 5) (by omega) (by decide) (db _ (by decide) (by decide))).to ?_
    rintro _ S3 ⟨z, rfl, z0, z1, s3, u3⟩
    have n2 := s2.lt
    have q3 := ag_get u3.ag (last1 (l := S2) (a := Ob.lst [.ref a, .bl f])) (by omega)
    have qa := ag_get u3.ag (app_get (T := [Ob.lst [.ref a, .bl f]]) q2) G2.ne.1
    obtain ⟨y, hy, ym⟩ := at_mem (l := [.ref S2.length, .tup [.ref a, .bl f], .tup [.tup (p.map D.int)], .int 7, .non]) z0 (by simpa using z1)
    push_cast [hy]
    have ka : Kn S3 (.ref a) := ⟨.bi "list", by simp [tyK, qa], by decide⟩
    refine out S3 _ _ (by omega) (G3.step u3.ag s3) ?_
    simp only [List.mem_cons, List.not_mem_nil, or_false] at ym
    rcases ym with rfl | rfl | rfl | rfl | rfl
    · exact .no ⟨.bi "list", by simp [tyK, q3], by decide⟩ rfl
    · refine .tu (by simp) (fun x hx => ?_) fun its y e => by cases e
      simp only [List.mem_cons, List.not_mem_nil, or_false] at hx
      rcases hx with rfl | rfl
      · exact ka
      · exact kn_bl _ _
    · refine .tu (by simp) (fun x hx => ?_) fun its y e => by cases e
      rw [List.mem_singleton.mp hx]
      exact kn_tup
    · exact .no (kn_int _ _) rfl
    · exact .no ⟨.bi "NoneType", rfl, by decide⟩ rfl
  push_cast [c1, decide_false]
  refine ws_seq ?_
  by_cases c2 : pk = 2
  · push_cast [c2, decide_true, q2, g1, app_get q2, last1]
    refine ⟨by rw [List.length_map, hp.ln]; omega, ?_⟩
    have G3 := (G2.step (Ag.app S2 n [Ob.lst [.int r]]) (s2.app)).step (Ag.app _ n [Ob.lst (p.map D.int ++ [.int r])]) (s2.app.app)
    refine out _ _ _ (by omega) G3 ?_
    · refine th_two (by rw [List.length_append, List.length_map, hp.ln]; simp; omega) (fun x hx => ?_) (kn_bl _ _)
      rcases List.mem_append.mp hx with w | w
      · exact pin _ x w
      · rw [List.mem_singleton.mp w]
        exact kn_int _ _
  push_cast [c2, decide_false]
  refine ws_seq ?_
  by_cases c3 : pk = 3
  · push_cast [c3, decide_true, q2, g1, app_get q2, last1, app_get last1]
    have l1 := cut_len (xs := p.map D.int) (a := none) (b := some r)
    have l2 := cut_len (xs := p.map D.int) (a := some (r + 1)) (b := none)
    rw [List.length_map, hp.ln] at l1 l2
    refine ⟨by omega, ?_⟩
    have G3 := ((G2.step (Ag.app S2 n [Ob.lst (cutD (p.map D.int) none (some r))]) (s2.app)).step (Ag.app _ n [Ob.lst (cutD (p.map D.int) (some (r + 1)) none)]) (s2.app.app)).step (Ag.app _ n [Ob.lst (cutD (p.map D.int) none (some r) ++ cutD (p.map D.int) (some (r + 1)) none)]) (s2.app.app.app)
    refine out _ _ _ (by omega) G3 ?_
    · refine th_two (by rw [List.length_append]; omega) (fun x hx => ?_) (kn_bl _ _)
      rcases List.mem_append.mp hx with w | w
      · exact pin _ x (cut_mem w)
      · exact pin _ x (cut_mem w)
  push_cast [c3, decide_false]
  refine ws_seq ?_
  by_cases c4 : pk = 4
  · push_cast [c4, decide_true, q2, g1]
    exact out _ _ _ (by omega) G2 (th_two pl60 (pin _) (kn_bl _ _))
  push_cast [c4, decide_false]
  clear q2
  -- an item of another kind
  refine ws_cut (fun e' S' => GL S n (k + 3) a e S' ∧ e' = [some (.ref n), some (.tup [.tup (p.map D.int), .bl f]), some (.ref a), some (.int r), some (.tup X), some (.int pk), none]) ?_ ?_
  · by_cases c6 : 6 < pk
    · push_cast [c6, decide_true]
      refine (dr_w G2.sr (m := 12) (by omega) (by decide) (db _ (by decide) (by decide))).to ?_
      rintro _ S3 ⟨z, rfl, z0, z1, s3, u3⟩
      have G3 := G2.step u3.ag s3
      obtain ⟨y, hy, ym⟩ := at_mem (l := X) z0 (by rw [Xl]; exact z1)
      obtain ⟨its, h1, h2, h3⟩ := G3.hl
      push_cast [hy, h1]
      exact ⟨r.toNat, ixN_lt r0 (by rw [h2]; exact r1), (G3.set h1 ((KX y ym).agS u3.ag s3)).step (Ag.refl _ _) (((G3.set h1 ((KX y ym).agS u3.ag s3)).sr).mono (by omega))⟩
    · push_cast [c6, decide_false]
      exact G2.step (Ag.refl _ _) (s2.mono (by omega))
  clear G2 s2 KX gl
  rintro _ S2 ⟨G2, rfl⟩
  -- a double
  have i67 := fun S => gInZ_two (S := S) (x := pk) (i := 6) (j := 7)
  refine ws_cut (fun e' S' => GL S n (k + 5) a e S' ∧ ∃ w6 : Option D, e' = [some (.ref n), some (.tup [.tup (p.map D.int), .bl f]), some (.ref a), some (.int r), some (.tup X), some (.int pk), w6]) ?_ ?_
  · by_cases c6 : pk = 6 ∨ pk = 7
    · obtain ⟨its, h1, h2, h3⟩ := G2.hl
      have hl2 : ((its.length : Nat) : Int) = (e : Nat) := by rw [h2]
      push_cast [i67, c6, decide_true]
      refine ws_seq ?_
      push_cast [h1, hl2]
      refine (dr_w G2.sr (m := (e : Nat)) (by omega) (by omega) (db _ (by omega) (by omega))).to ?_
      rintro _ S3 ⟨o, rfl, o0, o1, s3, u3⟩
      have G3 := G2.step u3.ag s3
      have h4 := ag_get u3.ag h1 G2.ne.1
      push_cast [h4, hl2]
      refine (dr_w s3 (m := (e : Nat)) (by omega) (by omega) (db _ (by omega) (by omega))).to ?_
      rintro _ S4 ⟨o2, rfl, o20, o21, s4, u4⟩
      have G4 := G3.step u4.ag s4
      have h5 := ag_get u4.ag h4 G2.ne.1
      obtain ⟨y, hy, ym⟩ := at_mem (l := its) o20 (by rw [h2]; exact o21)
      push_cast [h5, hy]
      have Y : Kn S4 y := ((h3 y ym).agS u3.ag s3).agS u4.ag s4
      exact ⟨o.toNat, ixN_lt o0 (by rw [h2]; exact o1), (G4.set h5 Y).step (Ag.refl _ _) ((G4.set h5 Y).sr.mono (by omega)), _, rfl⟩
    · push_cast [i67, c6, decide_false]
      exact ⟨G2.step (Ag.refl _ _) (G2.sr.mono (by omega)), _, rfl⟩
  clear G2
  rintro _ S2 ⟨G2, w6, rfl⟩
  -- two exchanged
  have i58 := fun S => gInZ_two (S := S) (x := pk) (i := 5) (j := 8)
  refine ws_cut (fun e' S' => GL S n (k + 7) a e S' ∧ ∃ w6 : Option D, e' = [some (.ref n), some (.tup [.tup (p.map D.int), .bl f]), some (.ref a), some (.int r), some (.tup X), some (.int pk), w6]) ?_ ?_
  · by_cases c6 : pk = 5 ∨ pk = 8
    · obtain ⟨its, h1, h2, h3⟩ := G2.hl
      have hl2 : ((its.length : Nat) : Int) = (e : Nat) := by rw [h2]
      push_cast [i58, c6, decide_true]
      refine ws_seq ?_
      push_cast [h1, hl2]
      refine (dr_w G2.sr (m := (e : Nat)) (by omega) (by omega) (db _ (by omega) (by omega))).to ?_
      rintro _ S3 ⟨o, rfl, o0, o1, s3, u3⟩
      have G3 := G2.step u3.ag s3
      have h4 := ag_get u3.ag h1 G2.ne.1
      obtain ⟨y, hy, ym⟩ := at_mem (l := its) o0 (by rw [h2]; exact o1)
      obtain ⟨x, hx, xm⟩ := at_mem (l := its) r0 (by rw [h2]; exact r1)
      have Y : Kn S3 y := (h3 y ym).agS u3.ag s3
      have Z : Kn S3 x := (h3 x xm).agS u3.ag s3
      have G4 := G3.set (i := r.toNat) h4 Y
      have h5 : (S3.set a (Ob.lst (its.set r.toNat y)))[a]? = some (.lst (its.set r.toNat y)) := List.getElem?_set_self (getlt h4)
      have Z' : Kn (S3.set a (Ob.lst (its.set r.toNat y))) x := Z.agL (Ch.ag ⟨_, rfl⟩) h5
      push_cast [h4, hy, hx]
      refine ⟨r.toNat, ixN_lt r0 (by rw [h2]; exact r1), ?_⟩
      push_cast [h5]
      exact ⟨o.toNat, ixN_lt o0 (by rw [List.length_set, h2]; exact o1), (G4.set h5 Z').step (Ag.refl _ _) ((G4.set h5 Z').sr.mono (by omega)), _, rfl⟩
    · push_cast [i58, c6, decide_false]
      exact ⟨G2.step (Ag.refl _ _) (G2.sr.mono (by omega)), _, rfl⟩
  clear G2
  rintro _ S2 ⟨G2, w7, rfl⟩
  obtain ⟨its, h1, h2, h3⟩ := G2.hl
  push_cast [h1, g1]
  exact out _ _ _ (by omega) G2 (th_two (by omega) h3 (kn_bl _ _))
end
end Mi_k25

set_option linter.all false
set_option autoImplicit false
set_option maxRecDepth 100000
set_option maxHeartbeats 4000000
namespace Mi_k25
open PySem Lk L2
section
variable {Q : D → Store → Prop} {X : XP} {P : Po}
theorem ThK.agL {S S' : Store} {n : Nat} {d : D} {ds : List D} (h : ThK S d) (a : Ag S n S') (s : S'[n]? = some (.lst ds)) : ThK S' d := by
  cases h with
  | no h1 h2 => exact .no (h1.agL a s) h2
  | tu h1 h2 h3 => exact .tu h1 (fun x hx => (h2 x hx).agL a s) fun its y e => ⟨(h3 its y e).1, fun x hx => ((h3 its y e).2 x hx).agL a s⟩
/-- what stands while things are drawn -/
structure LTh (S : Store) (th sp g : Nat) (l : List D) (G : List Gnr) (c : Nat) : Prop where
  ts : ∃ ts, S[th]? = some (.lst ts) ∧ ts.length ≤ c ∧ ∀ x ∈ ts, ThK S x
  hsp : S[sp]? = some (.lst l)
  hg : S[g]? = some (.lst (G.map gD))
  ne : th ≠ sp ∧ th ≠ g
theorem LTh.ag {S S' : Store} {th sp g o c : Nat} {l : List D} {G : List Gnr} {K : Int} (h : LTh S th sp g l G c) (a : Ag S o S') (s : Sr S' o K) (o1 : o ≠ th) (o2 : o ≠ sp) (o3 : o ≠ g) : LTh S' th sp g l G c := by
  obtain ⟨ts, h1, h2, h3⟩ := h.ts
  exact ⟨⟨ts, ag_get a h1 (Ne.symm o1), h2, fun x hx => (h3 x hx).ag a s⟩, ag_get a h.hsp (Ne.symm o2), ag_get a h.hg (Ne.symm o3), h.ne⟩
theorem LTh.mono {S : Store} {th sp g c c' : Nat} {l : List D} {G : List Gnr} (h : LTh S th sp g l G c) (hc : c ≤ c') : LTh S th sp g l G c' := by
  obtain ⟨ts, h1, h2, h3⟩ := h.ts
  exact ⟨⟨ts, h1, by omega, h3⟩, h.hsp, h.hg, h.ne⟩
theorem Kn.od {S S' : Store} {d : D} (h : Kn S d) (o : Od S S') : Kn S' d := by
  obtain ⟨t, h1, h2⟩ := h
  cases d with
  | ref m =>
    have lt : m < S.length := by
      rcases Nat.lt_or_ge m S.length with z | z
      · exact z
      · rw [show tyK S (.ref m) = none by simp [tyK, List.getElem?_eq_none z]] at h1
        cases h1
    refine ⟨t, ?_, h2⟩
    rw [← h1]
    simp only [tyK]
    rw [o.2 m lt]
  | _ => exact ⟨t, h1, h2⟩
theorem ThK.od {S S' : Store} {d : D} (h : ThK S d) (o : Od S S') : ThK S' d := by
  cases h with
  | no h1 h2 => exact .no (h1.od o) h2
  | tu h1 h2 h3 => exact .tu h1 (fun x hx => (h2 x hx).od o) fun its y e => ⟨(h3 its y e).1, fun x hx => ((h3 its y e).2 x hx).od o⟩
theorem LTh.od {S S' : Store} {th sp g c : Nat} {l : List D} {G : List Gnr} (h : LTh S th sp g l G c) (o : Od S S') : LTh S' th sp g l G c := by
  obtain ⟨ts, h1, h2, h3⟩ := h.ts
  exact ⟨⟨ts, o.get h1, h2, fun x hx => (h3 x hx).od o⟩, o.get h.hsp, o.get h.hg, h.ne⟩
theorem LTh.push {S : Store} {th sp g c : Nat} {l : List D} {G : List Gnr} {x : D} (h : LTh S th sp g l G c) (c60 : c ≤ 60) (hx : ThK S x) : ∃ ts, S[th]? = some (.lst ts) ∧ ts.length < lim ∧ ∃ S', S' = S.set th (.lst (ts ++ [x])) ∧ LTh S' th sp g l G (c + 1) ∧ Ch S th S' := by
  have lm := lim_16
  obtain ⟨ts, h1, h2, h3⟩ := h.ts
  have u : Ag S th (S.set th (.lst (ts ++ [x]))) := Ch.ag ⟨_, rfl⟩
  have gg : (S.set th (.lst (ts ++ [x])))[th]? = some (.lst (ts ++ [x])) := List.getElem?_set_self (getlt h1)
  refine ⟨ts, h1, by omega, _, rfl, ⟨⟨_, gg, by simp; omega, fun y hy => ?_⟩, ag_get u h.hsp (Ne.symm h.ne.1), ag_get u h.hg (Ne.symm h.ne.2), h.ne⟩, _, rfl⟩
  rcases List.mem_append.mp hy with z | z
  · exact (h3 y z).agL u gg
  · rw [List.mem_singleton.mp z]
    exact hx.agL u gg
theorem lk_th {S : Store} {p : List Int} {f : Bool} {e : Nat} (hp : Pm e p) (he : e ≤ 60) : ThK S (lkD_ p f) := th_two (by rw [List.length_map, hp.ln]; exact he) (fun x hx => by
  obtain ⟨z, _, rfl⟩ := List.mem_map.mp hx
  exact kn_int _ z) (kn_bl _ _)
theorem sp_okC {l : List D} (h : ∀ d ∈ l, ∃ x lo hi, d = spD x lo hi) : okC (.tup l) = true := by
  show okCL l = true
  exact okCL_all fun d hd => by
    obtain ⟨x, lo, hi, rfl⟩ := h d hd
    rfl
theorem law_ok (ns : List Int) (hn : ns.length ≤ 63) : ∃ S', f_law [.rol (ns.map D.int)] [] = .ok (.bl true) S' := by
  have w : Wr (f_law [.rol (ns.map D.int)] []) (fun d _ => d = .bl true) noX := by
    have lm := lim_16
    have fin : ∀ S : Store, Wr (gc [] (.bl true) S) (fun d _ => d = .bl true) noX := fun S => w_gc rfl fun _ _ => rfl
    refine w_def ?_
    unfold b_law
    refine ws_seq ?_
    push_cast []
    refine (src_w (k := 0) hn (by decide)).to ?_
    rintro _ S1 ⟨n, rfl, nl, s1, od1⟩
    unfold b_law_t1
    refine ws_seq ?_
    push_cast []
    refine (beat_w s1 (by decide)).to ?_
    rintro _ S2 ⟨b, rfl, b1, b2, s2, a2⟩
    unfold b_law_t2
    refine ws_seq ?_
    push_cast []
    refine (world_w (m := 9) (lm_ := 30) s2 (by decide) b1 b2 (by decide) (by decide) (by decide)).to ?_
    rintro _ S3 ⟨s3, a3, q, rfl, ql, sp, t, g, e, pt, G, xs, l, h1, ⟨hsp, ht, hg⟩, h2, hS, h3, xl, ⟨eb1, eb9⟩, ptb, _, h4, Gl, Gp, _⟩
    rw [v_gUS h1]
    push_cast []
    have lsp : ∀ d ∈ l, ∃ x lo hi, d = spD x lo hi ∧ Sp1 b e x lo hi := hS.all
    have lsp' : ∀ d ∈ l, ∃ x lo hi, d = spD x lo hi := fun d hd => by
      obtain ⟨x, lo, hi, h, _⟩ := lsp d hd
      exact ⟨x, lo, hi, h⟩
    have V : ∀ d ∈ l, V4 d := fun d hd => by
      obtain ⟨x, lo, hi, rfl⟩ := lsp' d hd
      exact sp_v4
    have ll := hS.ln
    have el : (((xs.map D.int).length : Nat) : Int) = (e : Nat) := by rw [List.length_map, xl]
    unfold b_law_t3
    refine ws_seq ?_
    push_cast [h3, el]
    unfold b_law_t4
    refine ws_seq ?_
    have spB : ∀ d ∈ l, spanB b (e : Nat) d = true := fun d hd => by
      obtain ⟨x, lo, hi, rfl, hx⟩ := lsp d hd
      obtain ⟨⟨i0, i1⟩, ⟨j0, j1⟩, ij⟩ := hx.x
      have := hx.l0
      have := hx.l1
      have := hx.l2
      have := hx.l3
      simp only [spD, spanB, decide_eq_true_eq]
      exact ⟨i0, i1, j0, j1, ij, by omega, by omega, by omega, by omega⟩
    obtain ⟨S4, hS4⟩ : ∃ S4, S4 = S3 ++ [Ob.lst l] := ⟨_, rfl⟩
    have q4 : S4[S3.length]? = some (.lst l) := by rw [hS4]; exact last1
    have eN : mkOf "Net" f_Net___init__ [.int b, .int (e : Nat), .ref S3.length] S4 = .ok (net b (e : Nat) l) S4 := net_good (S := S4) (th := .ref S3.length) (ds := l) (b := b) (e := (e : Nat)) ⟨b1, b2⟩ ⟨by omega, by omega⟩ (.inr ⟨_, rfl, q4⟩) (fun x hx => V4.sv (V x hx)) V (by omega) ((fault_none l [] 0 (by simp)).mpr ⟨spB, hS.nd, by simp⟩)
    rw [hS4] at eN
    push_cast [h2, eN]
    have o4 : Od S3 S4 := by rw [hS4]; exact Od.app
    rw [← hS4]
    unfold b_law_t5
    refine ws_seq ?_
    push_cast []
    obtain ⟨th, hth⟩ : ∃ th, th = S4.length := ⟨_, rfl⟩
    have lt1 := getlt h2
    have lt2 := getlt h4
    have l34 := o4.1
    have L0 : LTh (S4 ++ [Ob.lst []]) th sp g l G 0 := ⟨⟨[], by rw [hth]; exact last1, by simp, by simp⟩, app_get (o4.get h2), app_get (o4.get h4), by omega, by omega⟩
    rw [← hth]
    generalize S4 ++ [Ob.lst []] = S5 at L0
    unfold b_law_t6
    refine ws_seq ?_
    have bd3 : bd 3 := bd_small (n := 3) (by decide)
    push_cast [bd3]
    refine w_for (I := fun j env S' => LTh S' th sp g l G (6 * j) ∧ ∃ w10 w11 w12 : Option D, env = [some (.rol (ns.map D.int)), some (.ref n), some (.int b), some (.ref sp), some (.ref t), some (.int pt), some (.ref g), some (.int (e : Nat)), some (net b (e : Nat) l), some (.ref th), w10, w11, w12, none]) ?_ ?_ ?_
    · exact ⟨L0, _, _, _, rfl⟩
    · rintro j d env S6 hj ⟨L6, w10, w11, w12, rfl⟩
      obtain ⟨j3, rfl⟩ := rng_get (n := 3) hj
      refine ⟨trivial, ?_⟩
      have ej : (1 : Int) + ((j : Nat) : Int) = ((1 + j : Nat) : Int) := by push_cast; rfl
      push_cast []
      refine ws_seq ?_
      push_cast [ej]
      refine (src_w hn (by omega)).to ?_
      rintro _ S7 ⟨o, rfl, ol, s7, od7⟩
      have L7 := L6.od od7
      have b1' := getlt (L6.ts.choose_spec.1)
      have b2' := getlt L6.hsp
      have b3' := getlt L6.hg
      have n1 : o ≠ th := by omega
      have n2 : o ≠ sp := by omega
      have n3 : o ≠ g := by omega
      refine ws_seq ?_
      push_cast []
      refine (word_w s7 (by decide) (by omega) L7.hg n3.symm Gp (by omega)).to ?_
      rintro _ S8 ⟨p, f, rfl, hp, s8, a8⟩
      have L8 := L7.ag a8 s8 n1 n2 n3
      refine ws_seq ?_
      push_cast []
      refine ⟨_, L8.ts.choose_spec.1, ?_⟩
      obtain ⟨tsL8, pL8, rL8, S9, eL8, L9, u9⟩ := L8.push (x := lkD_ p f) (by omega) (lk_th hp (by omega))
      refine ⟨tsL8, pL8, rL8, ?_⟩
      rw [← eL8]
      have s9 := s8.ag u9.ag n1
      refine ws_seq ?_
      push_cast []
      refine ⟨_, L9.ts.choose_spec.1, ?_⟩
      refine (spoiled_w s9 (by decide) hp eb1 (by omega)).to ?_
      rintro y SA ⟨sA, aA, ty⟩
      have LA := L9.ag aA sA n1 n2 n3
      obtain ⟨tsLA, pLA, rLA, SB, eLA, LB, uB⟩ := LA.push (x := y) (by omega) ty
      refine ⟨tsLA, pLA, rLA, ?_⟩
      rw [← eLA]
      have sB := sA.ag uB.ag n1
      refine ws_seq ?_
      push_cast []
      refine ⟨_, LB.ts.choose_spec.1, ?_⟩
      refine (perm_w sB (by decide) (by omega)).to ?_
      rintro _ SC ⟨pq, pp, rfl, pl, qC, hpp, sC, aC⟩
      have LC := LB.ag aC sC n1 n2 n3
      push_cast [qC]
      refine (dr_w sC (m := 2) (by omega) (by decide) (bs (by decide) (by decide))).to ?_
      rintro _ SD ⟨r, rfl, r0, r1, sD, uD⟩
      have LD := LC.ag uD.ag sD n1 n2 n3
      push_cast []
      obtain ⟨tsLD, pLD, rLD, SE, eLD, LE, uE⟩ := LD.push (x := lkD_ pp (decide (r = 1))) (by omega) (lk_th (f := decide (r = 1)) hpp (by omega))
      refine ⟨tsLD, pLD, rLD, ?_⟩
      unfold lkD_ at eLD
      rw [← eLD]
      have sE := sD.ag uE.ag n1
      refine ws_seq ?_
      push_cast []
      refine (word_w sE (by omega) (by omega) LE.hg n3.symm Gp (by omega)).to ?_
      rintro _ SF ⟨p2, f2, rfl, hp2, sF, aF⟩
      have LF := LE.ag aF sF n1 n2 n3
      refine ws_seq ?_
      push_cast []
      refine ⟨_, LF.ts.choose_spec.1, ?_⟩
      refine (spoiled_w sF (by omega) hp2 eb1 (by omega)).to ?_
      rintro y2 SG ⟨sG, aG, ty2⟩
      have LG := LF.ag aG sG n1 n2 n3
      obtain ⟨tsLG, pLG, rLG, SH, eLG, LH, uH⟩ := LG.push (x := y2) (by omega) ty2
      refine ⟨tsLG, pLG, rLG, ?_⟩
      rw [← eLG]
      refine ⟨_, LH.ts.choose_spec.1, ?_⟩
      obtain ⟨tsLH, pLH, rLH, SI, eLH, LI_, uI⟩ := LH.push (x := lkD_ p2 f2) (by omega) (lk_th hp2 (by omega))
      refine ⟨tsLH, pLH, rLH, ?_⟩
      rw [← eLH]
      exact ⟨LI_.mono (by omega), _, _, _, rfl⟩
    · rintro env S6 ⟨L6, w10, w11, w12, rfl⟩
      refine ⟨trivial, ?_⟩
      have L6 : LTh S6 th sp g l G 18 := L6
      unfold b_law_t7
      refine ws_seq ?_
      obtain ⟨ts, t1, t2, t3⟩ := L6.ts
      have t1' := app_get (T := [Ob.lst ts.reverse]) t1
      push_cast [v_revR, t1, t1', last1]
      refine ⟨by rw [List.length_reverse]; omega, ?_⟩
      obtain ⟨S7, hS7⟩ : ∃ S7, S7 = S6 ++ [Ob.lst ts.reverse] ++ [Ob.lst (ts ++ ts.reverse)] := ⟨_, rfl⟩
      have o7 : Od S6 S7 := by rw [hS7]; exact Od.app.snoc
      obtain ⟨r, hr⟩ : ∃ r, r = (S6 ++ [Ob.lst ts.reverse]).length := ⟨_, rfl⟩
      have r7 : S7[r]? = some (.lst (ts ++ ts.reverse)) := by rw [hS7, hr]; exact last1
      rw [← hS7, ← hr]
      have sp7 := o7.get L6.hsp
      have T7 : ∀ x ∈ ts ++ ts.reverse, ThK S7 x := fun x hx => by
        rcases List.mem_append.mp hx with z | z
        · exact (t3 x z).od o7
        · exact (t3 x (List.mem_reverse.mp z)).od o7
      refine w_for (I := fun j env S' => S7 = S' ∧ ∃ w13 : Option D, env = [some (.rol (ns.map D.int)), some (.ref n), some (.int b), some (.ref sp), some (.ref t), some (.int pt), some (.ref g), some (.int (e : Nat)), some (net b (e : Nat) l), some (.ref th), w10, w11, w12, w13]) ?_ ?_ ?_
      · exact ⟨rfl, _, rfl⟩
      · rintro j d env _ hj ⟨rfl, w13, rfl⟩
        refine ⟨r7, ?_⟩
        have td := T7 d (List.mem_of_getElem? hj)
        have lf := lfault_w sp7 lsp (by omega) td (by omega)
        have ju := judged_w lsp hS.nd (by omega) td (by omega)
        push_cast [lf, ju]
        exact ⟨_, rfl⟩
      · rintro env _ ⟨rfl, w13, rfl⟩
        refine ⟨r7, ?_⟩
        have f1 := fun S => fn_beat (S := S) (b := b) (e := (e : Nat)) (ds := l)
        have f2 := fun S => fn_ev (S := S) (b := b) (e := (e : Nat)) (ds := l)
        have f3 := fun S => fn_sp (S := S) (b := b) (e := (e : Nat)) (ds := l)
        have ok : okP 11 (.tup l) = true := by
          show okPL 10 l = true
          exact okPL_le (sp9 lsp') (by decide)
        have ee : gEqZ cs oe (.tup l) (.tup l) S7 = .ok (.bl true) S7 := by
          rw [(Dat.val ok).eqZ (Dat.val ok), (eqv_c (.tup l) (.tup l) (sp_okC lsp') (sp_okC lsp')).mpr rfl]
        unfold b_law_t8
        push_cast [f1, f2, f3, sp7, ee, decide_true]
        exact fin _
  obtain ⟨d, S', h, e⟩ := w.get
  exact ⟨S', by rw [h, e]⟩
end
end Mi_k25

theorem PySem.Challenge.cw_likespans_k25_faults_of_likenesses_holds : PySem.Challenge.rw_likespans_k25_faults_of_likenesses.Holds := by
  exact Mi_k25.holds_of Mi_k25.law_ok
