import PyProof.Rows.All
import Wide.All
import OpenK.AllK
import Wide.FinOn
import HandS.ForMost
import HandS.Exc
import HandS.CallSlots
import HandS.Defaults
import HandS.ExcOwn
import HandS.ExcInit
import HandS.ExcField
import HandS.ExcIs
import HandS.TryOnly
import HandS.TryMany
import HandS.IsInst
import HandS.Wide
import HandS.TupAny
import HandS.Gcd
import HandS.More
import HandS.Codes
import HandS.WordsDict
import HandS.OwnEq
import HandS.HeadEnd
import HandS.HeadHook1
import HandS.HeadHook2
import HandS.Head0
import HandS.Head1
import HandS.Head2
import PyProof.InstNe
import HandS.Head3
import PyProof.SeqIndex
import PyProof.FactsAll.dict_1
import HandS.Deep
import HandS.Iter
import KE.GoesMore
import PyProof.Draws
import PyProof.EnumMake
import HandS.Conv
import HandS.Style
import KE.GoesZip
import HandS.SetFor
import KE.KOpsOwn
import PyProof.StrReplace2
import KE.GoesEnum
import PyProof.SumAny
import HandS.SetKeys
import HandS.ListItems
import KE.KDictList
import HandS.HotCalls
import KE.DataMinMax
import PyProof.Rows.RowBridgeK
import KE.KRevSl
import OpenK.KOps
import HandS.Flow
import PySem.Challenge.RW_likespans_k20_moves_kept_or_broken
set_option Elab.async false
set_option Elab.async false
set_option Elab.async false
set_option linter.all false
set_option autoImplicit false
set_option maxRecDepth 100000
set_option maxHeartbeats 2000000
/-! Data by value over the hand layer: D (tuples and instances by value, lists and dicts by their number in a store), and what evaluates to what. -/
namespace Lk
open PySem PySem.Spec PyProof.Rows L2

inductive D where
  | non | bl (b : Bool) | int (i : Int) | str (x : Str) | tup (xs : List D) | rol (xs : List D) | ref (n : Nat) | ins (C : Str) (xs : List D)
inductive Ob where
  | lst (xs : List D) | obj (C : Str) (xs : List D) | dk (kvs : List (Key × D)) | dt (kvs : List (List Key × D)) | gone
abbrev Store := List Ob
abbrev Env := List (Option D)
structure G where
  K : PySem.W.Frag
  c : Str → Addr
  flds : Str → List Str
  af : List Str
  xfl : Str → List Str
  xc : Option (Addr × Nat × Str × List D × Option Addr) := none

/-- a list that is read alone -/
def SqR (K : PySem.W.Frag) (H : Hp) (a : Addr) (xs : List V) : Prop := SqL K H a xs ∧ ((∃ o, H a = some (.frz o (.lst xs))) ∨ ∃ (o : Obj) (its : Array Value) (n : Nat), K.lookup a = some o ∧ o.cls = .type "list" ∧ o.dict = none ∧ o.data = .seq its n ∧ its.size ≤ sizeLine ∧ Vals xs its.toList)
section
variable (Γ : G) (f : List Addr) (H : Hp)
mutual
def Rp : D → V → Prop
  | .non, v => v = .non
  | .bl b, v => v = .bl b
  | .int i, v => v = .int i
  | .str x, v => v = .str x
  | .tup ds, v => ∃ a vs, v = .ref a ∧ SqT Γ.K H a vs ∧ RpL ds vs
  | .rol ds, v => ∃ a vs, v = .ref a ∧ SqR Γ.K H a vs ∧ RpL ds vs
  | .ref n, v => ∃ a, f[n]? = some a ∧ v = .ref a
  | .ins C ds, v => ∃ a dx fvs, v = .ref a ∧ H a = some (.ins (Γ.c C) dx fvs) ∧ (∀ x, (fvs.lookup x).isSome = true → x ∈ Γ.af) ∧ RpF ds (Γ.flds C) fvs
def RpL : List D → List V → Prop
  | [], vs => vs = []
  | d :: ds, vs => ∃ v r, vs = v :: r ∧ Rp d v ∧ RpL ds r
def RpF : List D → List Str → List (Str × V) → Prop
  | [], _, _ => True
  | d :: ds, ns, fvs => ∃ x r v, ns = x :: r ∧ fvs.lookup x = some v ∧ Rp d v ∧ RpF ds r fvs
end
end
/-- what stays for ever: tuples, frozen things, instances' fields -/
structure Keep (Γ : G) (H H' : Hp) : Prop where
  tup : ∀ a xs, H a = some (.tup xs) → H' a = some (.tup xs)
  frz : ∀ a o u, H a = some (.frz o u) → H' a = some (.frz o u)
  xd : ∀ a fs, H a = some (.xd fs) → H' a = some (.xd fs)
  ins : ∀ C a dx fs, H a = some (.ins C dx fs) → ∃ fs', H' a = some (.ins C dx fs') ∧ (∀ x v, fs.lookup x = some v → fs'.lookup x = some v) ∧ ∀ x, (fs'.lookup x).isSome = true → (fs.lookup x).isSome = true ∨ x ∈ Γ.af
structure Up (Γ : G) (f : List Addr) (H : Hp) (f' : List Addr) (H' : Hp) : Prop where
  pre : ∃ t, f' = f ++ t
  keep : Keep Γ H H'
section
variable {Γ : G} {f f' f'' : List Addr} {H H' H'' : Hp}
theorem Keep.trans (a : Keep Γ H H') (b : Keep Γ H' H'') : Keep Γ H H'' := ⟨fun x y h => b.tup x y (a.tup x y h), fun x y z h => b.frz x y z (a.frz x y z h), fun x y h => b.xd x y (a.xd x y h), fun C x dx fs h => by
  obtain ⟨fs1, h1, s1, m1⟩ := a.ins C x dx fs h
  obtain ⟨fs2, h2, s2, m2⟩ := b.ins C x dx fs1 h1
  exact ⟨fs2, h2, fun x v q => s2 x v (s1 x v q), fun x q => (m2 x q).elim (fun z => m1 x z) .inr⟩⟩
theorem Up.trans (a : Up Γ f H f' H') (b : Up Γ f' H' f'' H'') : Up Γ f H f'' H'' := by
  obtain ⟨⟨t, e⟩, k⟩ := a
  obtain ⟨⟨u, e'⟩, k'⟩ := b
  exact ⟨⟨t ++ u, by rw [e', e, List.append_assoc]⟩, k.trans k'⟩
theorem Keep.sqT (k : Keep Γ H H') {a : Addr} {vs : List V} (h : SqT Γ.K H a vs) : SqT Γ.K H' a vs := by
  rcases h with (h | ⟨o, h⟩) | h
  · exact .inl (.inl (k.tup _ _ h))
  · exact .inl (.inr ⟨o, k.frz _ _ _ h⟩)
  · exact .inr h
theorem Keep.sqR (k : Keep Γ H H') {a : Addr} {vs : List V} (h : SqR Γ.K H a vs) : SqR Γ.K H' a vs := by
  rcases h.2 with ⟨o, h⟩ | h
  · exact ⟨.inl (.inr ⟨o, k.frz _ _ _ h⟩), .inl ⟨o, k.frz _ _ _ h⟩⟩
  · exact ⟨.inr h, .inr h⟩
theorem Up.at (u : Up Γ f H f' H') {n : Nat} {a : Addr} (h : f[n]? = some a) : f'[n]? = some a := by
  obtain ⟨⟨t, e⟩, _⟩ := u
  have hn := (List.getElem?_eq_some_iff.mp h).1
  rw [e, List.getElem?_append_left hn]
  exact h
mutual
theorem Rp.up (u : Up Γ f H f' H') : ∀ {d : D} {v : V}, Rp Γ f H d v → Rp Γ f' H' d v
  | .non, _, h => by simp only [Rp] at h ⊢; exact h
  | .bl _, _, h => by simp only [Rp] at h ⊢; exact h
  | .int _, _, h => by simp only [Rp] at h ⊢; exact h
  | .str _, _, h => by simp only [Rp] at h ⊢; exact h
  | .tup ds, _, h => by
    simp only [Rp] at h ⊢
    obtain ⟨a, vs, e, s, r⟩ := h
    exact ⟨a, vs, e, u.keep.sqT s, RpL.up u r⟩
  | .rol ds, _, h => by
    simp only [Rp] at h ⊢
    obtain ⟨a, vs, e, s, r⟩ := h
    exact ⟨a, vs, e, u.keep.sqR s, RpL.up u r⟩
  | .ref n, _, h => by
    simp only [Rp] at h ⊢
    obtain ⟨a, e, r⟩ := h
    exact ⟨a, u.at e, r⟩
  | .ins C ds, _, h => by
    simp only [Rp] at h ⊢
    obtain ⟨a, dx, fvs, e, s, m, r⟩ := h
    obtain ⟨fs', h', s', m'⟩ := u.keep.ins _ a dx fvs s
    exact ⟨a, dx, fs', e, h', fun x q => (m' x q).elim (m x) id, RpF.up u s' r⟩
theorem RpL.up (u : Up Γ f H f' H') : ∀ {ds : List D} {vs : List V}, RpL Γ f H ds vs → RpL Γ f' H' ds vs
  | [], _, h => by simp only [RpL] at h ⊢; exact h
  | d :: ds, _, h => by
    simp only [RpL] at h ⊢
    obtain ⟨v, r, e, h1, h2⟩ := h
    exact ⟨v, r, e, Rp.up u h1, RpL.up u h2⟩
theorem RpF.up (u : Up Γ f H f' H') : ∀ {ds : List D} {ns : List Str} {fs fs' : List (Str × V)}, (∀ x v, fs.lookup x = some v → fs'.lookup x = some v) → RpF Γ f H ds ns fs → RpF Γ f' H' ds ns fs'
  | [], _, _, _, _, h => by simp only [RpF]
  | d :: ds, _, _, _, s, h => by
    simp only [RpF] at h ⊢
    obtain ⟨x, r, v, e, l, h1, h2⟩ := h
    exact ⟨x, r, v, e, s x v l, Rp.up u h1, RpF.up u s h2⟩
end
end
/-! no number from n on stands in it -/
mutual
def D.cl (n : Nat) : D → Bool
  | .ref m => decide (m < n)
  | .tup ds => clL n ds
  | .rol ds => clL n ds
  | .ins _ ds => clL n ds
  | .non => true
  | .bl _ => true
  | .int _ => true
  | .str _ => true
def clL (n : Nat) : List D → Bool
  | [] => true
  | d :: ds => d.cl n && clL n ds
end
section
variable {Γ : G} {f f' : List Addr} {H H' : Hp}
mutual
theorem Rp.cl : ∀ {d : D} {v : V}, Rp Γ f H d v → d.cl f.length = true
  | .non, _, h => by simp only [D.cl]
  | .bl _, _, h => by simp only [D.cl]
  | .int _, _, h => by simp only [D.cl]
  | .str _, _, h => by simp only [D.cl]
  | .tup ds, _, h => by
    simp only [Rp] at h
    simp only [D.cl]
    obtain ⟨a, vs, e, s, r⟩ := h
    exact RpL.cl r
  | .rol ds, _, h => by
    simp only [Rp] at h
    simp only [D.cl]
    obtain ⟨a, vs, e, s, r⟩ := h
    exact RpL.cl r
  | .ref n, _, h => by
    simp only [Rp] at h
    simp only [D.cl]
    obtain ⟨a, e, r⟩ := h
    exact decide_eq_true (List.getElem?_eq_some_iff.mp e).1
  | .ins C ds, _, h => by
    simp only [Rp] at h
    simp only [D.cl]
    obtain ⟨a, dx, fvs, e, s, m, r⟩ := h
    exact RpF.cl r
theorem RpL.cl : ∀ {ds : List D} {vs : List V}, RpL Γ f H ds vs → clL f.length ds = true
  | [], _, h => by simp only [clL]
  | d :: ds, _, h => by
    simp only [RpL] at h
    simp only [clL]
    obtain ⟨v, r, e, h1, h2⟩ := h
    rw [Rp.cl h1, RpL.cl h2]
    rfl
theorem RpF.cl : ∀ {ds : List D} {ns : List Str} {fs : List (Str × V)}, RpF Γ f H ds ns fs → clL f.length ds = true
  | [], _, _, h => by simp only [clL]
  | d :: ds, _, _, h => by
    simp only [RpF] at h
    simp only [clL]
    obtain ⟨x, r, v, e, l, h1, h2⟩ := h
    rw [Rp.cl h1, RpF.cl h2]
    rfl
end
mutual
theorem Rp.cut {t : List Addr} : ∀ {d : D} {v : V}, d.cl f.length = true → Rp Γ (f ++ t) H d v → Rp Γ f H d v
  | .non, _, _, h => by simp only [Rp] at h ⊢; exact h
  | .bl _, _, _, h => by simp only [Rp] at h ⊢; exact h
  | .int _, _, _, h => by simp only [Rp] at h ⊢; exact h
  | .str _, _, _, h => by simp only [Rp] at h ⊢; exact h
  | .tup ds, _, c, h => by
    simp only [Rp] at h ⊢
    simp only [D.cl] at c
    obtain ⟨a, vs, e, s, r⟩ := h
    exact ⟨a, vs, e, s, RpL.cut c r⟩
  | .rol ds, _, c, h => by
    simp only [Rp] at h ⊢
    simp only [D.cl] at c
    obtain ⟨a, vs, e, s, r⟩ := h
    exact ⟨a, vs, e, s, RpL.cut c r⟩
  | .ref n, _, c, h => by
    simp only [Rp] at h ⊢
    simp only [D.cl] at c
    obtain ⟨a, e, r⟩ := h
    rw [List.getElem?_append_left (of_decide_eq_true c)] at e
    exact ⟨a, e, r⟩
  | .ins C ds, _, c, h => by
    simp only [Rp] at h ⊢
    simp only [D.cl] at c
    obtain ⟨a, dx, fvs, e, s, m, r⟩ := h
    exact ⟨a, dx, fvs, e, s, m, RpF.cut c r⟩
theorem RpL.cut {t : List Addr} : ∀ {ds : List D} {vs : List V}, clL f.length ds = true → RpL Γ (f ++ t) H ds vs → RpL Γ f H ds vs
  | [], _, _, h => by simp only [RpL] at h ⊢; exact h
  | d :: ds, _, c, h => by
    simp only [RpL] at h ⊢
    simp only [clL] at c
    obtain ⟨c1, c2⟩ := Bool.and_eq_true_iff.mp c
    obtain ⟨v, r, e, h1, h2⟩ := h
    exact ⟨v, r, e, Rp.cut c1 h1, RpL.cut c2 h2⟩
theorem RpF.cut {t : List Addr} : ∀ {ds : List D} {ns : List Str} {fs : List (Str × V)}, clL f.length ds = true → RpF Γ (f ++ t) H ds ns fs → RpF Γ f H ds ns fs
  | [], _, _, _, h => by simp only [RpF]
  | d :: ds, _, _, c, h => by
    simp only [RpF] at h ⊢
    simp only [clL] at c
    obtain ⟨c1, c2⟩ := Bool.and_eq_true_iff.mp c
    obtain ⟨x, r, v, e, l, h1, h2⟩ := h
    exact ⟨x, r, v, e, l, Rp.cut c1 h1, RpF.cut c2 h2⟩
end
end
end Lk

set_option Elab.async false
set_option linter.all false
set_option autoImplicit false
set_option maxRecDepth 100000
set_option maxHeartbeats 2000000
namespace Lk
open PySem PySem.Spec PyProof.Rows L2

def ROb (Γ : G) (f : List Addr) (H : Hp) : Ob → Addr → Prop
  | .lst ds, a => ∃ vs, H a = some (.lst vs) ∧ RpL Γ f H ds vs
  | .dk kvs, a => ∃ us : List (Key × V), H a = some (.dK us) ∧ us.map (·.1) = kvs.map (·.1) ∧ RpL Γ f H (kvs.map (·.2)) (us.map (·.2))
  | .dt kvs, a => ∃ us : List (List Key × V), H a = some (.dT us) ∧ us.map (·.1) = kvs.map (·.1) ∧ RpL Γ f H (kvs.map (·.2)) (us.map (·.2))
  | .obj C ds, a => ∃ dx fvs, H a = some (.ins (Γ.c C) dx fvs) ∧ RpF Γ f H ds (Γ.flds C) fvs ∧ (∀ x, (fvs.lookup x).isSome = true → x ∈ (Γ.flds C).take ds.length) ∧ fvs.length ≤ ds.length
  | .gone, a => ∃ o, H a = some o
/-- an exception's own dict -/
def XRep (Γ : G) (f : List Addr) (H : Hp) (C : Str) (ds : List D) (o : Option Addr) : Prop :=
  (ds = [] ∧ o = none) ∨ ∃ dd fvs, o = some dd ∧ H dd = some (.xd fvs) ∧ RpF Γ f H ds (Γ.xfl C) fvs

theorem nd_ix {N : List Addr} (hN : N.Nodup) {i j : Nat} {x : Addr} (a : N[i]? = some x) (b : N[j]? = some x) : i = j := by
  obtain ⟨h1, e1⟩ := List.getElem?_eq_some_iff.mp a
  obtain ⟨h2, e2⟩ := List.getElem?_eq_some_iff.mp b
  exact (List.getElem_inj hN).mp (e1.trans e2.symm)
structure RelS (Γ : G) (f : List Addr) (S : Store) (H : Hp) : Prop where
  len : f.length = S.length
  nd : f.Nodup
  ob : ∀ (n : Nat) (o : Ob), S[n]? = some o → ∃ a, f[n]? = some a ∧ ROb Γ f H o a
  xc : ∀ a i C ds o, Γ.xc = some (a, i, C, ds, o) → XRep Γ f H C ds o
def RelE (Γ : G) (f : List Addr) (H : Hp) (env : Env) (σ : L2.St) : Prop := env.length = σ.length ∧ (∀ (i : Nat) (d : D), env[i]? = some (some d) → ∃ v, σ[i]? = some (some v) ∧ Rp Γ f H d v) ∧ ∀ a i C ds o, Γ.xc = some (a, i, C, ds, o) → env[i]? = some none → σ[i]? = some (some (.ref a))
inductive R (α : Type) where
  | ok (a : α) (S : Store) | ex (C : Str) (ds : List D) (S : Store) | bad
def R.bind {α β : Type} (r : R α) (k : α → Store → R β) : R β := match r with
  | .ok a S => k a S
  | .ex C ds S => .ex C ds S
  | .bad => .bad
inductive RS where
  | nx (e : Env) (S : Store) | rt (d : D) (S : Store) | bk (e : Env) (S : Store) | ct (e : Env) (S : Store) | ex (C : Str) (ds : List D) (e : Env) (S : Store) | bad
abbrev ME := Env → Store → R D
abbrev MT := Env → Store → R Bool
abbrev MA := Env → Store → R (List D)
abbrev MS := Env → Store → RS

section
variable {Γ : G} {f f' f'' : List Addr} {H H' H'' : Hp} {S S' : Store} {α β : Type}
theorem XRep.up {C : Str} {ds : List D} {o : Option Addr} (u : Up Γ f H f' H') (h : XRep Γ f H C ds o) : XRep Γ f' H' C ds o := by
  rcases h with h | ⟨dd, fvs, e1, e2, r⟩
  · exact .inl h
  · exact .inr ⟨dd, fvs, e1, u.keep.xd _ _ e2, r.up u fun _ _ q => q⟩
theorem XRep.cl {C : Str} {ds : List D} {o : Option Addr} (h : XRep Γ f H C ds o) : clL f.length ds = true := by
  rcases h with ⟨h, _⟩ | ⟨dd, fvs, e1, e2, r⟩
  · rw [h]
    rfl
  · exact r.cl
theorem XRep.cut {C : Str} {ds : List D} {o : Option Addr} {t : List Addr} (c : clL f.length ds = true) (h : XRep Γ (f ++ t) H C ds o) : XRep Γ f H C ds o := by
  rcases h with h | ⟨dd, fvs, e1, e2, r⟩
  · exact .inl h
  · exact .inr ⟨dd, fvs, e1, e2, r.cut c⟩
theorem ROb.at {o : Ob} {a : Addr} (h : ROb Γ f H o a) : ∃ u, H a = some u := by
  cases o with
  | lst ds => obtain ⟨vs, e, _⟩ := h; exact ⟨_, e⟩
  | dk ds => obtain ⟨vs, e, _⟩ := h; exact ⟨_, e⟩
  | dt ds => obtain ⟨vs, e, _⟩ := h; exact ⟨_, e⟩
  | obj C ds => obtain ⟨dx, vs, e, _⟩ := h; exact ⟨_, e⟩
  | gone => exact h
theorem ROb.move {o : Ob} {a : Addr} (u : Up Γ f H f' H') (e : H' a = H a) (h : ROb Γ f H o a) : ROb Γ f' H' o a := by
  cases o with
  | lst ds => obtain ⟨vs, h1, h2⟩ := h; exact ⟨vs, e.trans h1, h2.up u⟩
  | dk ds => obtain ⟨vs, h1, h3, h2⟩ := h; exact ⟨vs, e.trans h1, h3, h2.up u⟩
  | dt ds => obtain ⟨vs, h1, h3, h2⟩ := h; exact ⟨vs, e.trans h1, h3, h2.up u⟩
  | obj C ds => obtain ⟨dx, vs, h1, h2, h3⟩ := h; exact ⟨dx, vs, e.trans h1, h2.up u fun _ _ q => q, h3⟩
  | gone => obtain ⟨o, h⟩ := h; exact ⟨o, e.trans h⟩
theorem RelS.set {n : Nat} {a : Addr} {o : HO} {b : Ob} (r : RelS Γ f S H) (ha : f[n]? = some a) (k : Keep Γ H (upd H a o)) (hb : ROb Γ f (upd H a o) b a) : RelS Γ f (S.set n b) (upd H a o) :=
  ⟨by rw [List.length_set]; exact r.len, r.nd, fun m d e => by
    by_cases hm : m = n
    · subst hm
      have hs : m < S.length := by rw [← r.len]; exact (List.getElem?_eq_some_iff.mp ha).1
      rw [List.getElem?_set_self hs] at e
      cases e
      exact ⟨a, ha, hb⟩
    · rw [List.getElem?_set_ne (Ne.symm hm)] at e
      obtain ⟨a', ha', ho⟩ := r.ob m d e
      have ne : a' ≠ a := fun z => by
        subst z
        exact hm (nd_ix r.nd ha' ha)
      exact ⟨a', ha', ho.move ⟨⟨[], by simp⟩, k⟩ (upd_ne ne)⟩, fun a i C ds o e => (r.xc a i C ds o e).up ⟨⟨[], by simp⟩, k⟩⟩
/-- an object is given up -/
theorem RelS.drop (r : RelS Γ f S H) (n : Nat) : RelS Γ f (S.set n .gone) H := ⟨by rw [List.length_set]; exact r.len, r.nd, fun m d e => by
  by_cases hm : m = n
  · subst hm
    have hs : m < S.length := by
      have := (List.getElem?_eq_some_iff.mp e).1
      rwa [List.length_set] at this
    rw [List.getElem?_set_self hs] at e
    cases e
    obtain ⟨a, ha, ho⟩ := r.ob m S[m] (List.getElem?_eq_getElem hs)
    exact ⟨a, ha, ho.at⟩
  · rw [List.getElem?_set_ne (Ne.symm hm)] at e
    exact r.ob m d e, r.xc⟩
theorem ROb.cl {o : Ob} {a : Addr} {t : List Addr} (h : ROb Γ f H o a) (h' : ROb Γ (f ++ t) H' o a) : ROb Γ f H' o a := by
  cases o with
  | lst ds => obtain ⟨vs, h1, h2⟩ := h; obtain ⟨vs', h1', h2'⟩ := h'; exact ⟨vs', h1', h2'.cut h2.cl⟩
  | dk ds => obtain ⟨vs, h1, h3, h2⟩ := h; obtain ⟨vs', h1', h3', h2'⟩ := h'; exact ⟨vs', h1', h3', h2'.cut h2.cl⟩
  | dt ds => obtain ⟨vs, h1, h3, h2⟩ := h; obtain ⟨vs', h1', h3', h2'⟩ := h'; exact ⟨vs', h1', h3', h2'.cut h2.cl⟩
  | obj C ds => obtain ⟨dx, vs, h1, h2, h3⟩ := h; obtain ⟨dx', vs', h1', h2', h3'⟩ := h'; exact ⟨dx', vs', h1', h2'.cut h2.cl, h3'⟩
  | gone => exact h'
/-- what a call has made and nobody names is forgotten -/
theorem RelS.cut {S1 : Store} {t : List Addr} (r : RelS Γ f S H) (r1 : RelS Γ (f ++ t) S1 H') (e : S1.take S.length = S) : RelS Γ f S H' := ⟨r.len, r.nd, fun n o q => by
  have hn : n < S.length := (List.getElem?_eq_some_iff.mp q).1
  obtain ⟨a, ha, ho⟩ := r.ob n o q
  have q1 : S1[n]? = some o := by
    rw [← e, List.getElem?_take_of_lt hn] at q
    exact q
  obtain ⟨b, hb, ho'⟩ := r1.ob n o q1
  rw [List.getElem?_append_left (by rw [r.len]; exact hn), ha] at hb
  cases hb
  exact ⟨a, ha, ho.cl ho'⟩, fun a i C ds o q => (r1.xc a i C ds o q).cut (r.xc a i C ds o q).cl⟩
theorem RelE.up {env : Env} {σ : L2.St} (u : Up Γ f H f' H') (r : RelE Γ f H env σ) : RelE Γ f' H' env σ := ⟨r.1, fun i d e => by
  obtain ⟨v, h1, h2⟩ := r.2.1 i d e
  exact ⟨v, h1, h2.up u⟩, r.2.2⟩
theorem RelE.set {env : Env} {σ : L2.St} {d : D} {v : V} (r : RelE Γ f H env σ) (h : Rp Γ f H d v) (i : Nat) : RelE Γ f H (env.set i (some d)) (σ.set i (some v)) := ⟨by rw [List.length_set, List.length_set]; exact r.1, fun j e q => by
  by_cases hj : j = i
  · subst hj
    have hl : j < env.length := by
      have := (List.getElem?_eq_some_iff.mp q).1
      rwa [List.length_set] at this
    rw [List.getElem?_set_self hl] at q
    cases q
    exact ⟨v, List.getElem?_set_self (by rw [← r.1]; exact hl), h⟩
  · rw [List.getElem?_set_ne (Ne.symm hj)] at q
    obtain ⟨v', h1, h2⟩ := r.2.1 j e q
    exact ⟨v', by rw [List.getElem?_set_ne (Ne.symm hj)]; exact h1, h2⟩, fun a j C ds o e q => by
  by_cases hj : j = i
  · subst hj
    have hl : j < env.length := by
      have := (List.getElem?_eq_some_iff.mp q).1
      rwa [List.length_set] at this
    rw [List.getElem?_set_self hl] at q
    cases q
  · rw [List.getElem?_set_ne (Ne.symm hj)] at q ⊢
    exact r.2.2 a j C ds o e q⟩
/-- what a result of the mirror wants -/
def Wp (Γ : G) (W : WX) (σ : L2.St) (f : List Addr) (H : Hp) (rep : List Addr → Hp → α → β → Prop) (Q : β → Hp → Prop) : R α → Prop
  | .ok a S' => ∀ f' H' b, Up Γ f H f' H' → RelS Γ f' S' H' → rep f' H' a b → Q b H'
  | .ex C ds S' => ∀ f' H' o, Up Γ f H f' H' → RelS Γ f' S' H' → XRep Γ f' H' C ds o → W (.ref (Γ.c C)) o σ H'
  | .bad => False
theorem Wp.mono {W : WX} {σ : L2.St} {rep : List Addr → Hp → α → β → Prop} {Q : β → Hp → Prop} {r : R α} (u : Up Γ f H f' H') (h : Wp Γ W σ f H rep Q r) : Wp Γ W σ f' H' rep Q r := by
  cases r with
  | ok a S1 => exact fun f1 H1 b u1 => h f1 H1 b (u.trans u1)
  | ex C ds S1 => exact fun f1 H1 o u1 => h f1 H1 o (u.trans u1)
  | bad => exact h
/-- a bind's result, seen from its first part -/
theorem Wp.bindL {γ δ : Type} {W : WX} {σ : L2.St} {rep : List Addr → Hp → α → β → Prop} {rep2 : List Addr → Hp → γ → δ → Prop} {Q : δ → Hp → Prop} {Q1 : β → Hp → Prop} {r : R α} {k : α → Store → R γ} (h : Wp Γ W σ f H rep2 Q (r.bind k))
    (hk : ∀ a S1 f1 H1 b, Up Γ f H f1 H1 → RelS Γ f1 S1 H1 → rep f1 H1 a b → Wp Γ W σ f1 H1 rep2 Q (k a S1) → Q1 b H1) : Wp Γ W σ f H rep Q1 r := by
  cases r with
  | ok a S1 => exact fun f1 H1 b u1 r1 p => hk a S1 f1 H1 b u1 r1 p (Wp.mono u1 h)
  | ex C ds S1 => exact h
  | bad => exact h
def WpS (Γ : G) (W : WX) (f : List Addr) (H : Hp) (D : Ends) : RS → Prop
  | .nx e S' => ∀ f' σ' H', Up Γ f H f' H' → RelS Γ f' S' H' → RelE Γ f' H' e σ' → D.nx σ' H'
  | .rt d S' => ∀ f' H' v, Up Γ f H f' H' → RelS Γ f' S' H' → Rp Γ f' H' d v → D.rt v H'
  | .bk e S' => ∀ f' σ' H', Up Γ f H f' H' → RelS Γ f' S' H' → RelE Γ f' H' e σ' → D.bk σ' H'
  | .ct e S' => ∀ f' σ' H', Up Γ f H f' H' → RelS Γ f' S' H' → RelE Γ f' H' e σ' → D.ct σ' H'
  | .ex C ds e S' => ∀ f' σ' H' o, Up Γ f H f' H' → RelS Γ f' S' H' → RelE Γ f' H' e σ' → XRep Γ f' H' C ds o → W (.ref (Γ.c C)) o σ' H'
  | .bad => False
theorem WpS.mono {W : WX} {D : Ends} {r : RS} (u : Up Γ f H f' H') (h : WpS Γ W f H D r) : WpS Γ W f' H' D r := by
  cases r with
  | nx e S1 => exact fun f1 σ1 H1 u1 => h f1 σ1 H1 (u.trans u1)
  | rt d S1 => exact fun f1 H1 v u1 => h f1 H1 v (u.trans u1)
  | bk e S1 => exact fun f1 σ1 H1 u1 => h f1 σ1 H1 (u.trans u1)
  | ct e S1 => exact fun f1 σ1 H1 u1 => h f1 σ1 H1 (u.trans u1)
  | ex C ds e S1 => exact fun f1 σ1 H1 o u1 => h f1 σ1 H1 o (u.trans u1)
  | bad => exact h
def tE (Γ : G) (W : WX) (m : ME) : TE := fun σ H Q => ∃ env S f, RelS Γ f S H ∧ RelE Γ f H env σ ∧ Wp Γ W σ f H (Rp Γ) Q (m env S)
def tA (Γ : G) (W : WX) (m : MA) : TA := fun σ H Q => ∃ env S f, RelS Γ f S H ∧ RelE Γ f H env σ ∧ Wp Γ W σ f H (RpL Γ) Q (m env S)
/-- a statement whose expression is evaluated first -/
def R.bindS {α : Type} (r : R α) (env : Env) (k : α → Store → RS) : RS := match r with
  | .ok a S => k a S
  | .ex C ds S => .ex C ds env S
  | .bad => .bad
theorem WpS.bindL {W : WX} {σ : L2.St} {env : Env} {rep : List Addr → Hp → α → β → Prop} {Q1 : β → Hp → Prop} {D : Ends} {r : R α} {k : α → Store → RS} (hE : RelE Γ f H env σ) (h : WpS Γ W f H D (r.bindS env k))
    (hk : ∀ a S1 f1 H1 b, Up Γ f H f1 H1 → RelS Γ f1 S1 H1 → rep f1 H1 a b → WpS Γ W f1 H1 D (k a S1) → Q1 b H1) : Wp Γ W σ f H rep Q1 r := by
  cases r with
  | ok a S1 => exact fun f1 H1 b u1 r1 p => hk a S1 f1 H1 b u1 r1 p (WpS.mono u1 h)
  | ex C ds S1 => exact fun f1 H1 o u1 r1 x => h f1 σ H1 o u1 r1 (hE.up u1) x
  | bad => exact h
end
end Lk

set_option Elab.async false
set_option linter.all false
set_option autoImplicit false
set_option maxRecDepth 100000
set_option maxHeartbeats 2000000
namespace Lk
open PySem PySem.Spec PyProof.Rows L2

/-! ### the mirror's words: expressions -/
def mVar (i : Nat) : ME := fun env S => match env[i]? with
  | some (some d) => .ok d S
  | _ => .bad
def mC (d : D) : ME := fun _ S => .ok d S
def mNil : MA := fun _ S => .ok [] S
def mCons (m : ME) (r : MA) : MA := fun env S => (m env S).bind fun d S1 => (r env S1).bind fun ds S2 => .ok (d :: ds) S2
def lim : Nat := 16777216
def mTup (m : MA) : ME := fun env S => (m env S).bind fun ds S1 => if ds.length ≤ lim then .ok (.tup ds) S1 else .bad
def mLst (m : MA) : ME := fun env S => (m env S).bind fun ds S1 => if ds.length ≤ lim then .ok (.ref S1.length) (S1 ++ [.lst ds]) else .bad
def m2 (g : D → D → Store → R D) (a b : ME) : ME := fun env S => (a env S).bind fun x S1 => (b env S1).bind fun y S2 => g x y S2
def m1 (g : D → Store → R D) (a : ME) : ME := fun env S => (a env S).bind fun x S1 => g x S1
def mB (g : List D → Store → R D) (a : MA) : ME := fun env S => (a env S).bind fun xs S1 => g xs S1
def mIf (t : MT) (a b : ME) : ME := fun env S => (t env S).bind fun c S1 => if c = true then a env S1 else b env S1
def asB : D → Store → R Bool
  | .bl b, S => .ok b S
  | _, _ => .bad
def mTest (a : ME) : MT := fun env S => (a env S).bind asB
def mAndT (t u : MT) : MT := fun env S => (t env S).bind fun c S1 => if c = true then u env S1 else .ok false S1
def mOrT (t u : MT) : MT := fun env S => (t env S).bind fun c S1 => if c = true then .ok true S1 else u env S1
def mNotT (t : MT) : MT := fun env S => (t env S).bind fun c S1 => .ok (!c) S1
def mAnd (a b : ME) : ME := fun env S => (a env S).bind fun x S1 => (asB x S1).bind fun c S2 => if c = true then b env S2 else .ok (.bl false) S2
def mOr (a b : ME) : ME := fun env S => (a env S).bind fun x S1 => (asB x S1).bind fun c S2 => if c = true then .ok (.bl true) S2 else b env S2
def mNot (a : ME) : ME := fun env S => (a env S).bind fun x S1 => (asB x S1).bind fun c S2 => .ok (.bl (!c)) S2
/-! ### statements -/
def mNext : MS := fun env S => .nx env S
def mRet (a : ME) : MS := fun env S => (a env S).bindS env fun d S1 => .rt d S1
def mRetN : MS := fun _ S => .rt .non S
def mDrop (a : ME) : MS := fun env S => (a env S).bindS env fun _ S1 => .nx env S1
def mSet (i : Nat) (a : ME) : MS := fun env S => (a env S).bindS env fun d S1 => .nx (env.set i (some d)) S1
def mIfS (t : MT) (a b : MS) : MS := fun env S => (t env S).bindS env fun c S1 => if c = true then a env S1 else b env S1
def mBreak : MS := fun env S => .bk env S
def mCont : MS := fun env S => .ct env S
/-- what a target does with a value -/
abbrev MG := D → Env → Store → R Env
def gSet (i : Nat) : MG := fun d env S => .ok (env.set i (some d)) S
abbrev MGs := List D → Env → Store → R Env
def gNil' : MGs := fun ds env S => match ds with
  | [] => .ok env S
  | _ => .bad
def gCons' (g : MG) (r : MGs) : MGs := fun ds env S => match ds with
  | [] => .bad
  | d :: ds => (g d env S).bind fun e S1 => r ds e S1
def gUnpack (n : Nat) (r : MGs) : MG := fun d env S => match d with
  | .tup ds => if ds.length = n then r ds env S else .bad
  | _ => .bad
def R.nxt (r : R Env) : RS := match r with
  | .ok e S => .nx e S
  | _ => .bad
def mAsg (a : ME) (g : MG) : MS := fun env S => (a env S).bindS env fun d S1 => (g d env S1).nxt

section
variable {Γ : G} {W : WX} {X : Cx} {f : List Addr} {H : Hp} {S : Store} {a b c : Expr} {es : List Expr} {ma mb mc : ME} {mt mu : MT} {mr : MA} {pos pos' : Pos}
/-! ### names, constants -/
/-! ### argument lists, displays -/
theorem RpL.length : ∀ {ds : List D} {vs : List V}, RpL Γ f H ds vs → ds.length = vs.length
  | [], _, h => by
    simp only [RpL] at h
    rw [h]
    rfl
  | _ :: ds, _, h => by
    simp only [RpL] at h
    obtain ⟨v, r, e, _, h2⟩ := h
    rw [e, List.length_cons, List.length_cons, RpL.length h2]
/-! ### operators by values -/
/-- a built-in by its arguments' values -/
def ArOk (Γ : G) (r : List V → Hp → VK → Prop) (g : List D → Store → R D) : Prop := ∀ (W : WX) (σ : L2.St) (f : List Addr) (S : Store) (H : Hp) (xs : List D) (vs : List V) (Q : VK), RelS Γ f S H → RpL Γ f H xs vs → Wp Γ W σ f H (Rp Γ) Q (g xs S) → r vs H Q
theorem many {r : List V → Hp → VK → Prop} {g : List D → Store → R D} (hg : ArOk Γ r g) {σ : L2.St} {H : Hp} {Q : VK} (h : tE Γ W (mB g mr) σ H Q) : tCB r (tA Γ W mr) σ H Q := by
  obtain ⟨env, S, f, rs, re, h⟩ := h
  exact ⟨env, S, f, rs, re, Wp.bindL h fun x S1 f1 H1 v u1 rs1 r1 h1 => hg W σ f1 S1 H1 x v Q rs1 r1 h1⟩
/-! ### tests -/
/-! ### statements -/
variable {st : Stmt} {sts sts' : List Stmt} {ms mn : MS}
end
section
variable {Γ : G} {W : WX} {X : Cx} {a : Expr} {es : List Expr} {ma : ME} {g : MG} {gs : MGs} {pos pos' : Pos}
end
end Lk

set_option Elab.async false
set_option linter.all false
set_option autoImplicit false
set_option maxRecDepth 100000
set_option maxHeartbeats 2000000
namespace Lk
open PySem PySem.Spec PyProof.Rows L2

noncomputable def gcX (S : Store) (C : Str) (ds : List D) (S1 : Store) : R D := open Classical in if clL S.length ds = true ∧ S1.take S.length = S then .ex C ds S else .ex C ds S1
/-- a def's promise -/
def spOf (Γ : G) (n : Nat) (m : List D → Store → R D) : Sp := fun vs H Q E => vs.length = n ∧ ∃ f S ds, RelS Γ f S H ∧ RpL Γ f H ds vs ∧ Wp Γ (fun c o _ H => E c o H) [] f H (Rp Γ) Q (m ds S)
section
variable {Γ : G} {f : List Addr} {H : Hp} {S : Store}
theorem Wp.gcX {W : WX} {σ : L2.St} {Q : VK} {C : Str} {ds : List D} {S1 : Store} (rs : RelS Γ f S H) (h : Wp Γ W σ f H (Rp Γ) Q (gcX S C ds S1)) : Wp Γ W σ f H (Rp Γ) Q (.ex C ds S1) := by
  unfold Lk.gcX at h
  split at h
  · rename_i c
    intro f' H' b u r1 p
    obtain ⟨⟨t, e⟩, k⟩ := u
    subst e
    exact h f H' b ⟨⟨[], by simp⟩, k⟩ (rs.cut r1 c.2) (p.cut (by rw [rs.len]; exact c.1))
  · exact h
end
section
variable {Γ : G} {P : Program} {w : World} {mg : Str → Option Value} {base : Heap}
end
/-! ### calls -/
def mCall (n : Nat) (m : List D → Store → R D) (a : MA) : ME := fun env S => (a env S).bind fun ds S1 => if ds.length = n then m ds S1 else .bad
section
variable {Γ : G} {W : WX} {X : Cx} {f : List Addr} {H : Hp} {S : Store} {a o : Expr} {es : List Expr} {ma : ME} {mr : MA} {p pos apos : Pos} {x : Str} {fA : Addr} {fd : FuncData} {ps : List Str} {k n : Nat} {m : List D → Store → R D}
theorem Wp.spOf {σ : L2.St} {Q : VK} {xs : List D} {vs : List V} (rs : RelS Γ f S H) (r : RpL Γ f H xs vs) (h : Wp Γ W σ f H (Rp Γ) Q (if xs.length = n then m xs S else .bad)) : spOf Γ n m vs H Q (WE W σ) := by
  by_cases hl : xs.length = n
  · rw [if_pos hl] at h
    refine ⟨by rw [← r.length]; exact hl, f, S, xs, rs, r, ?_⟩
    revert h
    cases m xs S with
    | ok d S' => exact fun h => h
    | ex C ds S' => exact fun h => h
    | bad => exact fun h => h
  · rw [if_neg hl] at h
    exact h.elim
end
end Lk

set_option Elab.async false
set_option linter.all false
set_option autoImplicit false
set_option maxRecDepth 100000
set_option maxHeartbeats 2000000
namespace Lk
open PySem PySem.Spec PyProof.Rows L2

/-! ### what a loop goes over: the items, and what must stand meanwhile -/
structure Src where
  items : List D
  gd : Store → Prop
def vals (xs : List D) : Src := ⟨xs, fun _ => True⟩
def lstAt (n : Nat) (xs : List D) : Src := ⟨xs, fun S => S[n]? = some (.lst xs)⟩
abbrev MI := Env → Store → R Src
/-- an iterator J yields these -/
structure Serves (Γ : G) (J : It) (ok : List Addr → Store → Hp → Prop) (items : List D) : Prop where
  go : ∀ (f : List Addr) (S : Store) (H : Hp) (i : Nat) (d : D), RelS Γ f S H → ok f S H → items[i]? = some d → J.go i H ∧ ∀ x H', J.yld i H x H' → Up Γ f H f H' ∧ RelS Γ f S H' ∧ Rp Γ f H' d x
  stop : ∀ (f : List Addr) (S : Store) (H : Hp), RelS Γ f S H → ok f S H → J.stop items.length H
/-! ### for -/
noncomputable def forGo (gd : Store → Prop) (g : MG) (mb : MS) : List D → Env → Store → RS
  | [], env, S => open Classical in if gd S then .nx env S else .bad
  | d :: ds, env, S => open Classical in if gd S then (match g d env S with
    | .ok e1 S1 => (match mb e1 S1 with
      | .nx e2 S2 => forGo gd g mb ds e2 S2
      | .ct e2 S2 => forGo gd g mb ds e2 S2
      | .bk e2 S2 => .nx e2 S2
      | r => r)
    | _ => .bad) else .bad
noncomputable def mFor (mi : MI) (g : MG) (mb : MS) : MS := fun env S => (mi env S).bindS env fun s S1 => forGo s.gd g mb s.items env S1
section
variable {Γ : G} {W : WX} {X : Cx} {f : List Addr} {H : Hp} {S : Store}
/-! ### what is gone over -/
def srcOf (d : D) (S : Store) : R Src := match d with
  | .tup xs => .ok (vals xs) S
  | .rol xs => .ok (vals xs) S
  | .ref n => (match S[n]? with
    | some (.lst xs) => .ok (lstAt n xs) S
    | _ => .bad)
  | _ => .bad
def iSeq (m : ME) : MI := fun env S => (m env S).bind srcOf
/-! ### ranges -/
def rngI (lo : Int) (n : Nat) : List D := (List.range n).map fun (i : Nat) => D.int (lo + i)
def bd (j : Int) : Prop := -(2 ^ 62) ≤ j ∧ j < 2 ^ 62
instance (j : Int) : Decidable (bd j) := inferInstanceAs (Decidable (_ ∧ _))
def iRng1' (m : MA) : MI := fun env S => (m env S).bind fun ds S1 => match ds with
  | [.int j] => if bd j then .ok (vals (rngI 0 j.toNat)) S1 else .bad
  | _ => .bad
end
/-! ### while: so many turns at most -/
def whileGo (t : MT) (mb : MS) : Nat → Env → Store → RS
  | 0, _, _ => .bad
  | n + 1, env, S => match t env S with
    | .ok true S1 => (match mb env S1 with
      | .nx e2 S2 => whileGo t mb n e2 S2
      | .ct e2 S2 => whileGo t mb n e2 S2
      | .bk e2 S2 => .nx e2 S2
      | r => r)
    | .ok false S1 => .nx env S1
    | .ex C ds S1 => .ex C ds env S1
    | .bad => .bad
def mWhile (n : Nat) (t : MT) (mb : MS) : MS := fun env S => whileGo t mb n env S
section
variable {Γ : G} {W : WX} {X : Cx} {f : List Addr} {H : Hp} {S : Store}
end
end Lk

set_option Elab.async false
set_option linter.all false
set_option autoImplicit false
set_option maxRecDepth 100000
set_option maxHeartbeats 2000000
namespace Lk
open PySem PySem.Spec PyProof.Rows L2

/-! ### comprehensions: the targets are names, or a tuple of names -/
inductive Tg where
  | nm (i : Nat) | tp (is : List Nat)
def setL : List Nat → List D → Env → Env
  | i :: is, d :: ds, env => setL is ds (env.set i (some d))
  | _, _, env => env
def Tg.put (t : Tg) (d : D) (env : Env) : Option Env := match t, d with
  | .nm i, d => some (env.set i (some d))
  | .tp is, .tup ds => if ds.length = is.length then some (setL is ds env) else none
  | _, _ => none
def wipeE (env : Env) : List Nat → Env
  | [] => env
  | v :: vs => (wipeE env vs).set v none
noncomputable def lcGo (gd : Store → Prop) (g : Tg) (mt : MT) (me : ME) (env : Env) (p : Nat) : List D → Store → R D
  | [], S => open Classical in if gd S then .ok (.ref p) S else .bad
  | d :: ds, S => open Classical in if gd S then (match g.put d env with
    | some e1 => (match mt e1 S with
      | .ok true S2 => (match me e1 S2 with
        | .ok y S3 => (match S3[p]? with
          | some (.lst acc) => if acc.length < lim then lcGo gd g mt me env p ds (S3.set p (.lst (acc ++ [y]))) else .bad
          | _ => .bad)
        | _ => .bad)
      | .ok false S2 => lcGo gd g mt me env p ds S2
      | _ => .bad)
    | _ => .bad) else .bad
noncomputable def mLc (mi : MI) (g : Tg) (mt : MT) (me : ME) (vs : List Nat) : ME := fun env S => (mi env S).bind fun s S1 => lcGo s.gd g mt me (wipeE env vs) S1.length s.items (S1 ++ [.lst []])
section
variable {Γ : G} {W : WX} {X : Cx} {f : List Addr} {H : Hp} {S : Store}
end
end Lk

set_option Elab.async false
set_option linter.all false
set_option autoImplicit false
set_option maxRecDepth 100000
set_option maxHeartbeats 2000000
namespace Lk
open PySem PySem.Spec PyProof.Rows L2

/-! ### attributes -/
def fieldOf (flds : Str → List Str) (S : Store) (x : Str) : D → Option D
  | .ins C ds => ((flds C).zip ds).lookup x
  | .ref n => (match S[n]? with
    | some (.obj C ds) => ((flds C).zip ds).lookup x
    | _ => none)
  | _ => none
def mFld (flds : Str → List Str) (x : Str) (a : ME) : ME := fun env S => (a env S).bind fun d S1 => match fieldOf flds S1 x d with
  | some e => .ok e S1
  | none => .bad
/-- what the text says of a plain class -/
structure PlC (Γ : G) (C : Str) : Prop where
  cls : Cls Γ.K (Γ.c C)
  sub : ∀ x ∈ Γ.flds C, x ∈ Γ.af
  na : ∀ x ∈ Γ.flds C, NoAttr Γ.K (Γ.c C) x
/-- .. of all of them -/
def PlAll (Γ : G) (cs : List Str) : Prop := (∀ C ∈ cs, PlC Γ C) ∧ ∀ C, C ∉ cs → Γ.flds C = []
section
variable {Γ : G} {W : WX} {X : Cx} {f : List Addr} {H : Hp} {S : Store} {e o : Expr} {es : List Expr} {ma : ME} {mr : MA} {p pos apos : Pos} {x : Str} {cs : List Str}
theorem PlAll.of (pl : PlAll Γ cs) {C x : Str} (h : x ∈ Γ.flds C) : PlC Γ C := by
  by_cases m : C ∈ cs
  · exact pl.1 C m
  · rw [pl.2 C m] at h
    cases h
end
/-! ### self.x = e within __init__ -/
section
variable {Γ : G} {W : WX} {X : Cx} {f : List Addr} {H : Hp} {S : Store} {e o : Expr} {es : List Expr} {ma : ME} {mr : MA} {p pos apos pos' : Pos} {x : Str} {cs : List Str}
theorem RpF.add : ∀ {ds : List D} {ns : List Str} {fs fs' : List (Str × V)} {d : D} {v : V}, RpF Γ f H ds ns fs → ns[ds.length]? = some x → (∀ y u, fs.lookup y = some u → fs'.lookup y = some u) → fs'.lookup x = some v → Rp Γ f H d v → RpF Γ f H (ds ++ [d]) ns fs'
  | [], ns, fs, fs', d, v, _, hn, _, hl, r => by
    cases ns with
    | nil => cases hn
    | cons y ns =>
      have e : y = x := by simpa using hn
      subst e
      simp only [List.nil_append, RpF]
      exact ⟨y, ns, v, rfl, hl, r, trivial⟩
  | d0 :: ds, _, fs, fs', d, v, h, hn, hk, hl, r => by
    simp only [RpF] at h
    obtain ⟨y, ns, u, en, l, h1, h2⟩ := h
    subst en
    simp only [List.cons_append, RpF]
    exact ⟨y, ns, u, rfl, hk y u l, h1, RpF.add h2 (by simpa using hn) hk hl r⟩
end
/-! ### a new instance -/
noncomputable def mkEnd (S1 : Store) (C : Str) (xs : List D) (S2 : Store) : R D := open Classical in if clL S1.length xs = true ∧ S2.take S1.length = S1 then .ok (.ins C xs) S1 else .ok (.ins C xs) (S2.set S1.length .gone)
noncomputable def mkOf (C : Str) (m : List D → Store → R D) (ds : List D) (S1 : Store) : R D := match m (.ref S1.length :: ds) (S1 ++ [.obj C []]) with
  | .ok .non S2 => (match S2[S1.length]? with
    | some (.obj C' xs) => if C' = C then mkEnd S1 C xs S2 else .bad
    | _ => .bad)
  | .ok _ _ => .bad
  | .ex C' xs S2 => gcX S1 C' xs S2
  | .bad => .bad
noncomputable def mMake (C : Str) (n : Nat) (m : List D → Store → R D) (a : MA) : ME := fun env S => (a env S).bind fun ds S1 => if ds.length + 1 = n then mkOf C m ds S1 else .bad
section
variable {Γ : G} {W : WX} {X : Cx} {f : List Addr} {H : Hp} {S : Store} {a : Expr} {es : List Expr} {mr : MA} {p pos : Pos} {x C : Str} {fA : Addr} {fd : FuncData} {ps : List Str} {k n : Nat} {m : List D → Store → R D}
end
/-! ### methods -/
section
variable {Γ : G} {W : WX} {X : Cx} {f : List Addr} {H : Hp} {S : Store} {a o : Expr} {es : List Expr} {mo : ME} {mr : MA} {p pos apos : Pos} {x C mn : Str} {fA : Addr} {fd : FuncData} {ps : List Str} {k n : Nat} {m : List D → Store → R D}
end
end Lk

set_option Elab.async false
set_option linter.all false
set_option autoImplicit false
set_option maxRecDepth 100000
set_option maxHeartbeats 2000000
namespace Lk
open PySem PySem.Spec PyProof.Rows L2

/-! ### errors whose __init__ keeps one thing -/
def spX1 (Ca : Addr) (fn : Str) : Sp := fun vs H Q _ => ∃ a v, vs = [.ref a, v] ∧ H a = some (exo a Ca none) ∧ ∀ d, H d = none → d ≠ a → Q .non (upd (upd H d (exd d [(fn, v)])) a (exo a Ca (some d)))
/-- what the text says of an error class with one field -/
structure X1 (Γ : G) (P : Program) (w : World) (mg : Str → Option Value) (base : Heap) (C fn : Str) : Prop where
  oex : OexC Γ.K (Γ.c C)
  fl : Γ.xfl C = [fn]
  gl : mg C = some (.ref (Γ.c C))
  ini : ∃ fI fd s n, PySem.W.findIn Γ.K (.ref (Γ.c C)) "__init__" = some (some (.ref fI)) ∧ PySem.W.typeIn Γ.K (.ref fI) = some (.type "function") ∧ FnOk P w Γ.K mg base (L2.CX P w) 1 fI fd [s, n] (spX1 (Γ.c C) fn) ∧ Binds Γ.K fd [s, n] []
def mRaise1 (C : Str) (a : ME) : MS := fun env S => (a env S).bindS env fun d S1 => .ex C [d] env S1
section
variable {Γ : G} {W : WX} {X : Cx} {f : List Addr} {H : Hp} {S : Store} {e : Expr} {ma : ME} {p pos pos2 : Pos} {C fn : Str}
end
/-! ### errors that keep nothing -/
def spX0 (Ca : Addr) : Sp := fun vs H Q _ => ∃ a, vs = [.ref a] ∧ H a = some (exo a Ca none) ∧ Q .non H
structure X0 (Γ : G) (P : Program) (w : World) (mg : Str → Option Value) (base : Heap) (C : Str) : Prop where
  oex : OexC Γ.K (Γ.c C)
  gl : mg C = some (.ref (Γ.c C))
  ini : ∃ fI fd s, PySem.W.findIn Γ.K (.ref (Γ.c C)) "__init__" = some (some (.ref fI)) ∧ PySem.W.typeIn Γ.K (.ref fI) = some (.type "function") ∧ FnOk P w Γ.K mg base (L2.CX P w) 1 fI fd [s] (spX0 (Γ.c C)) ∧ Binds Γ.K fd [s] []
def mRaise0 (C : Str) : MS := fun env S => .ex C [] env S
section
variable {X : Cx} {p pos pos2 : Pos}
end
/-- alike but for the error that is being handled -/
structure Sim (Γ Γ' : G) : Prop where
  K : Γ.K = Γ'.K
  c : Γ.c = Γ'.c
  flds : Γ.flds = Γ'.flds
  af : Γ.af = Γ'.af
  xfl : Γ.xfl = Γ'.xfl
section
variable {Γ Γ' : G} {f f' : List Addr} {H H' : Hp} {S : Store}
mutual
theorem Rp.sim (s : Sim Γ Γ') : ∀ {d : D} {v : V}, Rp Γ f H d v → Rp Γ' f H d v
  | .non, _, h => by simp only [Rp] at h ⊢; exact h
  | .bl _, _, h => by simp only [Rp] at h ⊢; exact h
  | .int _, _, h => by simp only [Rp] at h ⊢; exact h
  | .str _, _, h => by simp only [Rp] at h ⊢; exact h
  | .tup ds, _, h => by
    simp only [Rp] at h ⊢
    obtain ⟨a, vs, e, q, r⟩ := h
    exact ⟨a, vs, e, by rw [← s.K]; exact q, RpL.sim s r⟩
  | .rol ds, _, h => by
    simp only [Rp] at h ⊢
    obtain ⟨a, vs, e, q, r⟩ := h
    exact ⟨a, vs, e, by rw [← s.K]; exact q, RpL.sim s r⟩
  | .ref n, _, h => by simp only [Rp] at h ⊢; exact h
  | .ins C ds, _, h => by
    simp only [Rp] at h ⊢
    obtain ⟨a, dx, fvs, e, q, m, r⟩ := h
    exact ⟨a, dx, fvs, e, by rw [← s.c]; exact q, by rw [← s.af]; exact m, by rw [← s.flds]; exact RpF.sim s r⟩
theorem RpL.sim (s : Sim Γ Γ') : ∀ {ds : List D} {vs : List V}, RpL Γ f H ds vs → RpL Γ' f H ds vs
  | [], _, h => by simp only [RpL] at h ⊢; exact h
  | d :: ds, _, h => by
    simp only [RpL] at h ⊢
    obtain ⟨v, r, e, h1, h2⟩ := h
    exact ⟨v, r, e, Rp.sim s h1, RpL.sim s h2⟩
theorem RpF.sim (s : Sim Γ Γ') : ∀ {ds : List D} {ns : List Str} {fs : List (Str × V)}, RpF Γ f H ds ns fs → RpF Γ' f H ds ns fs
  | [], _, _, h => by simp only [RpF]
  | d :: ds, _, _, h => by
    simp only [RpF] at h ⊢
    obtain ⟨x, r, v, e, l, h1, h2⟩ := h
    exact ⟨x, r, v, e, l, Rp.sim s h1, RpF.sim s h2⟩
end
end
abbrev G.at_ (Γ : G) (a : Addr) (i : Nat) (C : Str) (ds : List D) (o : Option Addr) : G := { Γ with xc := some (a, i, C, ds, o) }
/-! ### try .. except C as n -/
theorem PSs.some {X : Cx} {b : List Stmt} {ι : Type} {P : ι → Prop} {t : ι → TS} (h : ∀ i, P i → PSs X b (t i)) : PSs X b (fun D σ H => ∃ i, P i ∧ t i D σ H) := ⟨fun pins s σ H D I ⟨i, p, q⟩ => (h i p).run pins s σ H D I q⟩
section
variable {Γ : G} {W : WX} {X : Cx} {C n : Str} {i : Nat} {body suite : List Stmt} {b₀ : Stmt} {np pos pos' : Pos} {mb : MS} {ms : Str → List D → MS} {sb : Str → Option Bool}
end
end Lk

set_option Elab.async false
set_option linter.all false
set_option autoImplicit false
set_option maxRecDepth 100000
set_option maxHeartbeats 2000000
namespace Lk
open PySem PySem.Spec PyProof.Rows L2

/-! ### several readings of one operation -/
section
variable {Γ : G} {W : WX} {X : Cx} {f : List Addr} {H : Hp} {S : Store}
theorem Rp.int {i : Int} {v : V} (h : Rp Γ f H (.int i) v) : v = .int i := by simpa only [Rp] using h
theorem Rp.bl {i : Bool} {v : V} (h : Rp Γ f H (.bl i) v) : v = .bl i := by simpa only [Rp] using h
theorem Rp.str {i : Str} {v : V} (h : Rp Γ f H (.str i) v) : v = .str i := by simpa only [Rp] using h
theorem Rp.non {v : V} (h : Rp Γ f H .non v) : v = .non := by simpa only [Rp] using h
theorem Rp.tup {ds : List D} {v : V} (h : Rp Γ f H (.tup ds) v) : ∃ a vs, v = .ref a ∧ SqT Γ.K H a vs ∧ RpL Γ f H ds vs := by simpa only [Rp] using h
theorem Rp.rol {ds : List D} {v : V} (h : Rp Γ f H (.rol ds) v) : ∃ a vs, v = .ref a ∧ SqR Γ.K H a vs ∧ RpL Γ f H ds vs := by simpa only [Rp] using h
theorem Rp.ref {n : Nat} {v : V} (h : Rp Γ f H (.ref n) v) : ∃ a, f[n]? = some a ∧ v = .ref a := by simpa only [Rp] using h
theorem RelS.lst {n : Nat} {xs : List D} {v : V} (rs : RelS Γ f S H) (hn : S[n]? = some (.lst xs)) (r : Rp Γ f H (.ref n) v) : ∃ a vs, f[n]? = some a ∧ v = .ref a ∧ H a = some (.lst vs) ∧ RpL Γ f H xs vs := by
  obtain ⟨a, ha, e⟩ := r.ref
  obtain ⟨b, hb, vs, hh, rv⟩ := rs.ob n _ hn
  rw [ha] at hb
  cases hb
  exact ⟨a, vs, ha, e, hh, rv⟩
/-! ### + - * // % ** -/
def gAdd : D → D → Store → R D
  | .int i, .int j, S => .ok (.int (i + j)) S
  | .tup a, .tup b, S => if a.length + b.length ≤ lim then .ok (.tup (a ++ b)) S else .bad
  | .ref n, .ref m, S => (match S[n]?, S[m]? with
    | some (.lst a), some (.lst b) => if a.length + b.length ≤ lim then .ok (.ref S.length) (S ++ [.lst (a ++ b)]) else .bad
    | _, _ => .bad)
  | _, _, _ => .bad
def gSub : D → D → Store → R D
  | .int i, .int j, S => .ok (.int (i - j)) S
  | _, _, _ => .bad
def bits (i : Int) : Nat := i.natAbs.log2
def gMul : D → D → Store → R D
  | .int i, .int j, S => if bits i + bits j < 1000000 then .ok (.int (i * j)) S else .bad
  | .ref n, .int k, S => (match S[n]? with
    | some (.lst a) => if -(2 ^ 63) ≤ k ∧ k < 2 ^ 63 ∧ a.length * k.toNat ≤ lim then .ok (.ref S.length) (S ++ [.lst (List.replicate k.toNat a).flatten]) else .bad
    | _ => .bad)
  | _, _, _ => .bad
/-- floor division and its rest, by any divisor but 0 -/
def fdv (i j : Int) : Int := if 0 < j then i / j else (-i) / (-j)
def fmd (i j : Int) : Int := if 0 < j then i % j else -((-i) % (-j))
def gDiv : D → D → Store → R D
  | .int i, .int j, S => if j ≠ 0 ∧ bits j < 9000 then .ok (.int (fdv i j)) S else .bad
  | _, _, _ => .bad
def gMod : D → D → Store → R D
  | .int i, .int j, S => if j ≠ 0 then .ok (.int (fmd i j)) S else .bad
  | _, _, _ => .bad
def gNeg : D → Store → R D
  | .int i, S => .ok (.int (-i)) S
  | _, _ => .bad
/-! ### order, None -/
def gCmp (p : Int → Int → Bool) : D → D → Store → R D
  | .int i, .int j, S => .ok (.bl (p i j)) S
  | _, _, _ => .bad
def isNonD : D → Bool
  | .non => true
  | _ => false
def gIsN : D → D → Store → R D
  | x, .non, S => .ok (.bl (isNonD x)) S
  | _, _, _ => .bad
def gNotN : D → D → Store → R D
  | x, .non, S => .ok (.bl (!isNonD x)) S
  | _, _, _ => .bad
/-! ### items, slices -/
def listOf (S : Store) : D → Option (List D)
  | .tup ds => some ds
  | .rol ds => some ds
  | .ref n => (match S[n]? with
    | some (.lst ds) => some ds
    | _ => none)
  | _ => none
def gIx : D → D → Store → R D
  | x, .int i, S => (match listOf S x with
    | some ds => (match atI ds i with
      | some d => .ok d S
      | none => .bad)
    | none => .bad)
  | _, _, _ => .bad
/-- the bounds of a slice -/
def toO (o : Option ME) : Env → Store → R (Option Int) := match o with
  | none => fun _ S => .ok none S
  | some m => fun env S => (m env S).bind fun d S1 => match d with
    | .int i => .ok (some i) S1
    | _ => .bad
def cutD (xs : List D) (lo hi : Option Int) : List D := (xs.drop (HT.sIx xs.length 0 lo)).take (HT.sIx xs.length xs.length hi - HT.sIx xs.length 0 lo)
def gSl (d : D) (lo hi : Option Int) (S : Store) : R D := match listOf S d with
  | some ds => (match d with
    | .tup _ => .ok (.tup (cutD ds lo hi)) S
    | _ => .ok (.ref S.length) (S ++ [.lst (cutD ds lo hi)]))
  | none => .bad
def mSl (a : ME) (lo hi : Option ME) : ME := fun env S => (a env S).bind fun d S1 => (toO lo env S1).bind fun l S2 => (toO hi env S2).bind fun h S3 => gSl d l h S3
/-! ### stores into lists -/
def stIx (d : D) (env : Env) : D → D → Store → R Env
  | .ref n, .int k, S2 => (match S2[n]? with
    | some (.lst ds) => (match ixN ds.length k with
      | some j => .ok env (S2.set n (.lst (ds.set j d)))
      | none => .bad)
    | _ => .bad)
  | _, _, _ => .bad
def gSub' (o i : ME) : MG := fun d env S => (o env S).bind fun x S1 => (i env S1).bind fun y S2 => stIx d env x y S2
end
end Lk

set_option Elab.async false
set_option linter.all false
set_option autoImplicit false
set_option maxRecDepth 100000
set_option maxHeartbeats 2000000
namespace Lk
open PySem PySem.Spec PyProof.Rows L2

section
variable {Γ : G} {W : WX} {X : Cx} {f : List Addr} {H : Hp} {S : Store}
/-! ### built-ins -/
def dInts : List D → Option (List Int)
  | [] => some []
  | .int i :: ds => (dInts ds).map (i :: ·)
  | _ :: _ => none
def dBools : List D → Option (List Bool)
  | [] => some []
  | .bl i :: ds => (dBools ds).map (i :: ·)
  | _ :: _ => none
def gLen : List D → Store → R D
  | [.str z], S => if z.length ≤ lim then .ok (.int z.length) S else .bad
  | [.ref n], S => (match S[n]? with
    | some (.lst ds) => .ok (.int ds.length) S
    | some (.dk ds) => .ok (.int ds.length) S
    | _ => .bad)
  | [.tup ds], S => .ok (.int ds.length) S
  | [.rol ds], S => .ok (.int ds.length) S
  | _, _ => .bad
def gInt : List D → Store → R D
  | [.int i], S => .ok (.int i) S
  | [.bl b], S => .ok (.int (if b then 1 else 0)) S
  | _, _ => .bad
def gAbs : List D → Store → R D
  | [.int i], S => .ok (.int (if i < 0 then -i else i)) S
  | _, _ => .bad
def gMax2 : List D → Store → R D
  | [.int i, .int j], S => .ok (.int (if j > i then j else i)) S
  | _, _ => .bad
def gMin2 : List D → Store → R D
  | [.int i, .int j], S => .ok (.int (if j < i then j else i)) S
  | _, _ => .bad
def gGcd : List D → Store → R D
  | [.int i, .int j], S => .ok (.int ((Nat.gcd i.natAbs j.natAbs : Nat) : Int)) S
  | _, _ => .bad
/-- of a list that stands in the store, or is read alone -/
def onL (k : List D → Store → R D) : List D → Store → R D
  | [.ref n], S => (match S[n]? with
    | some (.lst ds) => k ds S
    | _ => .bad)
  | [.rol ds], S => k ds S
  | _, _ => .bad
def gSum : List D → Store → R D := onL fun ds S => match dInts ds with
  | some is => .ok (.int is.sum) S
  | none => .bad
def gAll : List D → Store → R D := onL fun ds S => match dBools ds with
  | some is => .ok (.bl (is.all id)) S
  | none => .bad
def gAny : List D → Store → R D := onL fun ds S => match dBools ds with
  | some is => .ok (.bl (is.any id)) S
  | none => .bad
def gList : List D → Store → R D
  | [d], S => (match listOf S d with
    | some ds => .ok (.ref S.length) (S ++ [.lst ds])
    | none => .bad)
  | _, _ => .bad
def gTuple : List D → Store → R D
  | [d], S => (match listOf S d with
    | some ds => .ok (.tup ds) S
    | none => .bad)
  | _, _ => .bad
/-! ### methods of lists -/
def mBM (g : D → List D → Store → R D) (o : ME) (a : MA) : ME := fun env S => (o env S).bind fun d S1 => (match d with
  | .ref n => (match S1[n]? with
    | some (.lst _) => (a env S1).bind fun xs S2 => g d xs S2
    | _ => .bad)
  | _ => .bad)
def gAppend : D → List D → Store → R D
  | .ref n, [y], S => (match S[n]? with
    | some (.lst ds) => if ds.length < lim then .ok .non (S.set n (.lst (ds ++ [y]))) else .bad
    | _ => .bad)
  | _, _, _ => .bad
end
/-! ### isinstance -/
inductive CK where
  | bi (n : String) | own (C : Str)
  deriving DecidableEq
def CK.v (Γ : G) : CK → V
  | .bi n => .ty n
  | .own C => .ref (Γ.c C)
def CK.u (Γ : G) : CK → Value
  | .bi n => .type n
  | .own C => .ref (Γ.c C)
def tyK (S : Store) : D → Option CK
  | .non => some (.bi "NoneType")
  | .bl _ => some (.bi "bool")
  | .int _ => some (.bi "int")
  | .str _ => some (.bi "str")
  | .tup _ => some (.bi "tuple")
  | .rol _ => some (.bi "list")
  | .ref n => (match S[n]? with
    | some (.lst _) => some (.bi "list")
    | some (.dk _) => some (.bi "dict")
    | some (.dt _) => some (.bi "dict")
    | _ => none)
  | .ins C _ => some (.own C)
def isA : CK → CK → Bool
  | .bi a, .bi b => a == b || (a == "bool" && b == "int")
  | .own C, .own E => C == E
  | _, _ => false
def biTypes : List String := ["NoneType", "bool", "int", "str", "tuple", "list", "dict"]
/-- what the text says of a class that isinstance asks for; cs: the plain classes -/
structure IsF (Γ : G) (cs : List Str) (T : CK) : Prop where
  bi : ∀ a ∈ biTypes, PySem.W.kitOne Γ.K (.type a) (T.u Γ) = some (isA (.bi a) T)
  own : ∀ C ∈ cs, PySem.W.kitOne Γ.K (.ref (Γ.c C)) (T.u Γ) = some (isA (.own C) T)
def okK (cs : List Str) : CK → Bool
  | .bi a => biTypes.contains a
  | .own C => cs.contains C
section
variable {Γ : G} {W : WX} {X : Cx} {f : List Addr} {H : Hp} {S : Store} {cs : List Str}
theorem CK.cls (T : CK) : ClsV (T.v Γ) (T.u Γ) := by
  cases T with
  | bi n => exact .ty n
  | own C => exact .own _
/-- classes, one behind the other -/
inductive PCs (X : Cx) (Γ : G) : List Expr → List CK → Prop
  | nil : PCs X Γ [] []
  | cons {c : Expr} {es : List Expr} {T : CK} {Ts : List CK} (h : PE X c (tC (T.v Γ))) (r : PCs X Γ es Ts) (hs : starEach (c :: es) X.env = (false, eval c X.env) :: starEach es X.env) : PCs X Γ (c :: es) (T :: Ts)
end
end Lk

set_option Elab.async false
set_option linter.all false
set_option autoImplicit false
set_option maxRecDepth 100000
set_option maxHeartbeats 2000000
namespace Lk
open PySem PySem.Spec PyProof.Rows L2

/-! ### == of data, and of an own class's instances by its own __eq__ -/
def pyD (S : Store) : Nat → D → Option PyData
  | 0, _ => none
  | n + 1, d => match d with
    | .non => some .none
    | .bl b => some (.bool b)
    | .int i => some (.int i)
    | .str x => some (.str x)
    | .tup ds => (ds.mapM (pyD S n)).map .tuple
    | .rol ds => (ds.mapM (pyD S n)).map .list
    | .ref m => (match S[m]? with
      | some (.lst ds) => (ds.mapM (pyD S n)).map .list
      | _ => none)
    | .ins _ _ => none
def eqData (S : Store) (x y : D) : Option Bool := match pyD S 12 x, pyD S 12 y with
  | some a, some b => if SeqAt.shaped a = true ∧ SeqAt.shaped b = true then some (PyData.eqv a b) else none
  | _, _ => none
def gNe (x y : D) (S : Store) : R D := match eqData S x y with
  | some b => .ok (.bl (!b)) S
  | none => .bad
section
variable {Γ : G} {W : WX} {X : Cx} {f : List Addr} {H : Hp} {S : Store} {cs : List Str}
/-- what the text says of a class with an own == -/
structure EqC (Γ : G) (P : Program) (w : World) (mg : Str → Option Value) (base : Heap) (cs : List Str) (k : Nat) (C : Str) (m : List D → Store → R D) : Prop where
  eq : ∃ g fd ps, PySem.W.findIn Γ.K (.ref (Γ.c C)) "__eq__" = some (some (.ref g)) ∧ PySem.W.isFn Γ.K (.ref g) = true ∧ FnOk P w Γ.K mg base (L2.CX P w) k g fd ps (spOf Γ 2 m) ∧ Binds Γ.K fd ps []
  nf : ∀ a : CK, okK cs a = true → PySem.W.notFirst Γ.K (Γ.c C) (a.u Γ) = true
/-- the right side's type must be known -/
def gEqX (cs : List Str) (oe : Str → Option (List D → Store → R D)) (x y : D) (S : Store) : R D := match x with
  | .ins C xs => (match oe C, tyK S y with
    | some m, some t => if okK cs t = true then (match m [.ins C xs, y] S with
      | .ok (.bl b) S' => .ok (.bl b) S'
      | _ => .bad) else .bad
    | _, _ => .bad)
  | x => (match eqData S x y with
    | some b => .ok (.bl b) S
    | none => .bad)
/-! ### in, not in: of flat items -/
end
end Lk

set_option Elab.async false
set_option linter.all false
set_option autoImplicit false
set_option maxRecDepth 100000
set_option maxHeartbeats 4000000
/-! An error that a suite holds: its fields, isinstance of it. -/
namespace Lk
open PySem PySem.Spec PyProof.Rows L2
section
variable {K : PySem.W.Frag} {P : Program} {w : World} {A : Around} {E : Value → Shared → Prop} {x Da : Addr} {ox : Obj} {od : Option Obj}
end
/-! ### the rules of such a suite -/
def mXfld (xfl : Str → List Str) (i : Nat) (C : Str) (ds : List D) (x : Str) : ME := fun env S => match env[i]? with
  | some none => (match ((xfl C).zip ds).lookup x with
    | some d => .ok d S
    | none => .bad)
  | _ => .bad
def mXis (xk : Str → CK → Option Bool) (i : Nat) (C : Str) (T : CK) : ME := fun env S => match env[i]? with
  | some none => (match xk C T with
    | some b => .ok (.bl b) S
    | none => .bad)
  | _ => .bad
section
variable {Γ : G} {W : WX} {X : Cx} {a : Addr} {oe : Obj} {C n x : Str} {ds : List D} {o : Option Addr} {pn : List (Addr × Obj)} {i : Nat} {p pos : Pos}
end
end Lk

set_option Elab.async false
set_option linter.all false
set_option autoImplicit false
set_option maxRecDepth 100000
set_option maxHeartbeats 4000000
/-! Written dicts, globals' values, the law's own end. -/
namespace Lk
open PySem PySem.Spec PyProof.Rows L2
section
variable {Γ : G} {W : WX} {X : Cx} {f : List Addr} {H : Hp} {S : Store} {pos : Pos}
end
end Lk

set_option Elab.async false
set_option linter.all false
set_option autoImplicit false
set_option maxRecDepth 100000
set_option maxHeartbeats 4000000
/-! What the head says, as questions that the kernel answers. -/
namespace Lk
open PySem PySem.Spec PyProof.Rows L2
section
variable {K : PySem.W.Frag}
theorem b2 {a b : Bool} (h : (a && b) = true) : a = true ∧ b = true := Bool.and_eq_true_iff.mp h
def oexB (K : PySem.W.Frag) (C : Addr) : Bool := (match K.lookup C with
  | some ⟨.type "type", _, .cls cd, sl⟩ => (match cd.mro, sl.toList with
    | .ref C' :: bm, [_, _, _, _, some (.builtin n), _] => C' == C && (n == "ValueError.__new__" && (!cd.hasDel && (PySem.HandSPX.refsVE bm && cd.hasDict)))
    | _, _ => false)
  | _ => false) && (decide (PySem.W.findIn K (.ref C) "__setattr__" = some (some (.builtin "object.__setattr__"))) && (decide (PySem.W.subIn K (.ref C) (.type "BaseException") = some true) && (decide (PySem.W.typeIn K (.ref C) = some (.type "type")) && PySem.W.keepIn K (.ref C))))
def insB (K : PySem.W.Frag) (C : Addr) : Bool := PySem.W.plainGet K C Str.empty && (PySem.W.hasDictIn K C && (PySem.W.plainOver K C && (decide (PySem.W.findIn K (.ref C) "__setattr__" = some (some (.builtin "object.__setattr__"))) &&
  (decide (PySem.W.findIn K (.ref C) "__class__" = some (some (.builtin "object.__class__"))) && (decide (PySem.W.specialIn K (.builtin "object.__class__") "__get__" = some (some (.builtin "getset_descriptor.__get__"))) &&
  (decide (PySem.W.takesIn K (.builtin "object.__class__") = some true) && (decide (PySem.W.mroIn K C (.type "object") = some true) && decide (PySem.W.kitOne K (.ref C) (.ref C) = some true))))))))
def noB (K : PySem.W.Frag) (C : Addr) (x : Str) : Bool := decide (PySem.W.findIn K (.ref C) x = some none)
/-- isinstance's table for one class -/
def isB (Γ : G) (cs : List Str) (T : CK) : Bool := (biTypes.all fun a => decide (PySem.W.kitOne Γ.K (.type a) (T.u Γ) = some (isA (.bi a) T))) && cs.all fun C => decide (PySem.W.kitOne Γ.K (.ref (Γ.c C)) (T.u Γ) = some (isA (.own C) T))
def nfB (Γ : G) (cs : List Str) (C : Str) : Bool := (biTypes.all fun a => PySem.W.notFirst Γ.K (Γ.c C) (.type a)) && cs.all fun E => PySem.W.notFirst Γ.K (Γ.c C) (.ref (Γ.c E))
def excB (K : PySem.W.Frag) (C : Addr) : Bool := decide (PySem.W.findIn K (.ref C) "__getattribute__" = some (some (.builtin "BaseException.__getattribute__"))) && (decide (PySem.W.findIn K (.ref C) "__getattr__" = some none) && (decide (PySem.W.subIn K (.ref C) (.type "BaseException") = some true) && (PySem.W.hasDictIn K C &&
  (decide (PySem.W.findIn K (.ref C) "__class__" = some (some (.builtin "object.__class__"))) && (decide (PySem.W.specialIn K (.builtin "object.__class__") "__get__" = some (some (.builtin "getset_descriptor.__get__"))) && (decide (PySem.W.takesIn K (.builtin "object.__class__") = some true) && decide (PySem.W.mroIn K C (.type "object") = some true)))))))
def kitB (Γ : G) (C : Str) (T : CK) (b : Bool) : Bool := decide (PySem.W.kitOne Γ.K (.ref (Γ.c C)) (T.u Γ) = some b)
def biB (K : PySem.W.Frag) (x : Str) (id : String) : Bool := He.eqO (PySem.W.nsIn K mainGlobals x) (some (some (.builtin id)))
end
/-! ### the questions, asked at the head's end -/
abbrev Qs : Type := List (PySem.W.Frag → Bool)
def obsL (fa : Qs) (fn : List He.DefD) (K : PySem.W.Frag) : He.AlD := ((fa.all fun q => q K) && fn.all fun d => d.ok K, fn.map fun d => He.fnW K d.at_)
def SaysL (fa : Qs) (fn : List He.DefD) (K : PySem.W.Frag) : Prop := obsL fa fn K = He.valD fn
def obsLG (n : Nat) (fa : Qs) (fn : List He.DefD) (g : Addr → Option Obj) : He.AlD := obsL fa fn (He.frG g (He.asD g n))
def hookL (n : Nat) (fa : Qs) (fn : List He.DefD) : PySem.W.Hook where
  α := He.AlD
  obs := fun s => obsLG n fa fn s.heap.get?
  val := fun _ => He.valD fn
  says := fun _ h => ∃ K : PySem.W.Frag, K.In h ∧ SaysL fa fn K
  of := fun _ _ e => ⟨_, He.frG_in, e⟩
  keeps := fun _ _ _ ⟨K, hK, c⟩ k => ⟨K, PySem.W.Frag.In.keeps hK k, c⟩
section
variable {fa : Qs} {fn : List He.DefD} {K : PySem.W.Frag}
end
end Lk

set_option Elab.async false
set_option linter.all false
set_option autoImplicit false
set_option maxRecDepth 100000
set_option maxHeartbeats 4000000
namespace Lk
open PySem PySem.Spec PyProof.Rows L2
section
variable {Γ : G} {W : WX} {X : Cx} {f : List Addr} {S : Store} {H : Hp} {e : Expr} {es : List Expr} {p pos apos cpos : Pos} {mr : MA} {mo : ME} {o : Expr} {name : Str}
/-! ### str of an int -/
/-! ### != of two instances of one class with an own == and no own != -/
def ownNeB (K : PySem.W.Frag) (C : Addr) (f : Addr) : Bool := (match K.lookup C with
  | some ⟨.type "type", _, .cls cd, sl⟩ => (match cd.mro, sl.toList with
    | [.ref C', .type "object"], [_, _, _, _, some (.builtin n), _] => C' == C && (!cd.hasDel && (PySem.W.nsOkIn K cd.ns && (decide (PySem.W.nsIn K cd.ns "__eq__" = some (some (.ref f))) && decide (PySem.W.nsIn K cd.ns "__ne__" = some none))))
    | _, _ => false)
  | _ => false) && (match K.lookup f with
  | some o => o.cls == .type "function"
  | none => false)
structure OwnNe (K : PySem.W.Frag) (C f : Addr) : Prop where
  cls : ∃ nm q N bs hd sn sub ab col dd k0 k1 k2 k3 k5 n, K.lookup C = some (excClassObj nm q C N bs [.type "object"] hd sn sub ab col dd k0 k1 k2 k3 k5 n) ∧ PySem.W.nsOkIn K N = true ∧ PySem.W.nsIn K N "__eq__" = some (some (.ref f)) ∧ PySem.W.nsIn K N "__ne__" = some none
  fn : ∃ o, K.lookup f = some o ∧ o.cls = .type "function"
structure NeC (Γ : G) (P : Program) (w : World) (mg : Str → Option Value) (base : Heap) (k : Nat) (C : Str) (m : List D → Store → R D) : Prop where
  ne : ∃ g fd ps, OwnNe Γ.K (Γ.c C) g ∧ FnOk P w Γ.K mg base (L2.CX P w) k g fd ps (spOf Γ 2 m) ∧ Binds Γ.K fd ps []
def gNeX (oe : Str → Option (List D → Store → R D)) (x y : D) (S : Store) : R D := match x, y with
  | .ins C xs, .ins C' ys => if C = C' then (match oe C with
    | some m => (match m [.ins C xs, .ins C' ys] S with
      | .ok (.bl b) S' => .ok (.bl (!b)) S'
      | _ => .bad)
    | _ => .bad) else .bad
  | x, y => gNe x y S
end
end Lk

set_option Elab.async false
set_option linter.all false
set_option autoImplicit false
set_option maxRecDepth 100000
set_option maxHeartbeats 4000000
namespace Lk
open PySem PySem.Spec PyProof.Rows L2
end Lk

set_option Elab.async false
set_option linter.all false
set_option autoImplicit false
set_option maxRecDepth 100000
set_option maxHeartbeats 4000000
/-! a dict of at most one entry, compared with itself -/
namespace Lk
open PySem PySem.Spec PyProof.Rows L2
section
variable {K : Type} [DecidableEq K] {prog : Program} {w : World} {knd : KeyKind prog w K} {A : Around} {E : Value → Shared → Prop} {s : Shared}
end
section
variable {Γ : G} {X : Cx}
def gEqZ (cs : List Str) (oe : Str → Option (List D → Store → R D)) (x y : D) (S : Store) : R D := match x, y with
  | .ref n, .ref m => (match S[n]? with
    | some (.dk kvs) => if n = m ∧ kvs.length ≤ 1 then .ok (.bl true) S else .bad
    | _ => gEqX cs oe x y S)
  | _, _ => gEqX cs oe x y S
end
end Lk

set_option Elab.async false
set_option linter.all false
set_option autoImplicit false
set_option maxRecDepth 100000
set_option maxHeartbeats 4000000
/-! constants of the module; chains; in, of data; enumerate of a list -/
namespace Lk
open PySem PySem.Spec PyProof.Rows L2
section
variable {Γ : G} {W : WX} {X : Cx} {f : List Addr} {S : Store} {H : Hp} {a b c d e : Expr} {es : List Expr} {p pos : Pos} {ma mb mc md : ME}
/-! ### chains -/
def mLink (g : D → D → Store → R D) (x : D) (b : ME) (k : D → ME) : ME := fun env S => (b env S).bind fun y S1 => (g x y S1).bind fun z S2 => (asB z S2).bind fun t S3 => if t = true then k y env S3 else .ok (.bl false) S3
def mLast (g : D → D → Store → R D) (x : D) (b : ME) : ME := fun env S => (b env S).bind fun y S1 => g x y S1
def mCh2 (g g' : D → D → Store → R D) (a b c : ME) : ME := fun env S => (a env S).bind fun x S1 => mLink g x b (fun y => mLast g' y c) env S1
def mCh3 (g g' g'' : D → D → Store → R D) (a b c d : ME) : ME := fun env S => (a env S).bind fun x S1 => mLink g x b (fun y => mLink g' y c fun z => mLast g'' z d) env S1
/-! ### in, of data in a list -/
/-! ### enumerate of a list -/
def enumD (xs : List D) : List D := xs.zipIdx.map fun p => D.tup [.int (p.2 : Nat), p.1]
def srcE (d : D) (S : Store) : R Src := match d with
  | .rol xs => .ok ⟨enumD xs, fun _ => True⟩ S
  | .ref n => (match S[n]? with
    | some (.lst xs) => .ok ⟨enumD xs, fun S => S[n]? = some (.lst xs)⟩ S
    | _ => .bad)
  | _ => .bad
end
end Lk

set_option Elab.async false
set_option linter.all false
set_option autoImplicit false
set_option maxRecDepth 100000
set_option maxHeartbeats 4000000
/-! enumerate of a tuple -/
namespace Lk
open PySem PySem.Spec PyProof.Rows L2
section
variable {prog : Program} {w : World} {A : Around} {E : Value → Shared → Prop} {s : Shared}
end
end Lk

set_option Elab.async false
set_option linter.all false
set_option autoImplicit false
set_option maxRecDepth 100000
set_option maxHeartbeats 4000000
namespace Lk
open PySem PySem.Spec PyProof.Rows L2
section
variable {Γ : G} {W : WX} {X : Cx} {f : List Addr} {S : Store} {H : Hp} {e : Expr} {p pos : Pos}
/-! ### tables of classes -/
/-! ### == of data alone -/
/-! ### enumerate of a list or a tuple -/
def srcEZ (d : D) (S : Store) : R Src := match d with
  | .tup xs => .ok ⟨enumD xs, fun _ => True⟩ S
  | d => srcE d S
def iEnuZ (m : ME) : MI := fun env S => (m env S).bind srcEZ
end
end Lk

set_option Elab.async false
set_option linter.all false
set_option autoImplicit false
set_option maxRecDepth 100000
set_option maxHeartbeats 4000000
namespace Lk
open PySem PySem.Spec PyProof.Rows L2
section
variable {Γ : G} {W : WX} {X : Cx} {f : List Addr} {S : Store} {H : Hp} {a b e : Expr} {p p0 p1 p2 p3 pos : Pos} {ma mb me : ME}
/-! ### list(range(..)) -/
def okRg (i j : Int) : Prop := -(2 ^ 62) ≤ i ∧ i < 2 ^ 62 ∧ -(2 ^ 62) ≤ j ∧ j < 2 ^ 62 ∧ (j - i).toNat ≤ 2 ^ 24
instance (i j : Int) : Decidable (okRg i j) := inferInstanceAs (Decidable (_ ∧ _))
/-! ### xs[::-1] -/
end
end Lk

set_option Elab.async false
set_option linter.all false
set_option autoImplicit false
set_option maxRecDepth 100000
set_option maxHeartbeats 4000000
/-! zip of two, each a list or a tuple -/
namespace Lk
open PySem PySem.Spec PyProof.Rows L2
section
variable {prog : Program} {w : World} {A : Around} {κ : Bool} {h h' : Heap} {it a : Addr} {i : Nat} {its : Array Value}
end
section
variable {X : Cx} {pins : List (Addr × Obj)} {σ : L2.St} {H : Hp} {s : Shared} {κ : Bool} {a : Addr} {xs ys : List V}
end
section
variable {Γ : G} {W : WX} {X : Cx} {f : List Addr} {S : Store} {H : Hp} {e e2 : Expr} {p pos : Pos}
/-- the two sources: their items, and when they stand -/
def seqOf (d : D) (S : Store) : Option (List D × (Store → Prop)) := match d with
  | .tup xs => some (xs, fun _ => True)
  | .rol xs => some (xs, fun _ => True)
  | .ref n => (match S[n]? with
    | some (.lst xs) => some (xs, fun S => S[n]? = some (.lst xs))
    | _ => none)
  | _ => none
def zipD (xs ys : List D) : List D := (xs.zip ys).map fun q => D.tup [q.1, q.2]
def srcZ (x y : D) (S : Store) : R Src := match seqOf x S, seqOf y S with
  | some (xs, g), some (ys, g') => .ok ⟨zipD xs ys, fun S => g S ∧ g' S⟩ S
  | _, _ => .bad
def iZip' (m n : ME) : MI := fun env S => (m env S).bind fun x S1 => (n env S1).bind fun y S2 => srcZ x y S2
end
end Lk

set_option Elab.async false
set_option linter.all false
set_option autoImplicit false
set_option maxRecDepth 100000
set_option maxHeartbeats 4000000
/-! more methods of lists: index, count, pop, extend -/
namespace Lk
open PySem PySem.Spec PyProof.Rows L2
section
variable {Γ : G} {W : WX} {X : Cx} {f : List Addr} {S : Store} {H : Hp} {o : Expr} {apos cpos : Pos} {mo : ME} {name : Str}
/-! ### methods without arguments -/
end
end Lk

set_option Elab.async false
set_option linter.all false
set_option autoImplicit false
set_option maxRecDepth 100000
set_option maxHeartbeats 4000000
/-! + - * and the sign turned, by a class's own methods -/
namespace Lk
open PySem PySem.Spec PyProof.Rows L2
section
variable {prog : Program} {w : World} {A : Around} {E : Value → Shared → Prop} {s : Shared} {K : PySem.W.Frag} {x C L f f0 dx : Addr} {h₀ : Heap} {m : Str → Option Value} {od : Option Obj}
open PySem.W in
end
/-! ### the operators of own classes -/
abbrev OTab := Str → Option (List D → Store → R D)
/-- what the text says of a class with an own operator nm -/
def opB (Γ : G) (C : Str) (nm : String) : Bool := PySem.W.selfFirst Γ.K (Γ.c C) && ((match PySem.W.findIn Γ.K (.ref (Γ.c C)) (PySem.dunder nm) with
    | some (some (.ref _)) => true
    | _ => false) && ((match PySem.W.findIn Γ.K (.ref (Γ.c C)) (dunderR nm) with
    | some none => true
    | some (some (.ref _)) => true
    | _ => false) && ((PySem.W.findIn Γ.K (.type "int") (PySem.dunder nm)).isSome && ((PySem.W.findIn Γ.K (.type "int") (dunderR nm)).isSome &&
    (decide (PySem.W.subIn Γ.K (.type "int") (.ref (Γ.c C)) = some false) && decide (PySem.W.subIn Γ.K (.ref (Γ.c C)) (.type "int") = some false))))))
structure MeC (Γ : G) (P : Program) (w : World) (mg : Str → Option Value) (base : Heap) (k n : Nat) (C nm : Str) (m : List D → Store → R D) : Prop where
  me : ∃ g fd ps, PySem.W.findIn Γ.K (.ref (Γ.c C)) nm = some (some (.ref g)) ∧ PySem.W.isFn Γ.K (.ref g) = true ∧ FnOk P w Γ.K mg base (L2.CX P w) k g fd ps (spOf Γ n m) ∧ Binds Γ.K fd ps []
/-- the tables of an operator: forth, reflected -/
structure OpsC (Γ : G) (P : Program) (w : World) (mg : Str → Option Value) (base : Heap) (k : Nat) (nm : String) (ot rt : OTab) : Prop where
  fw : ∀ C m, ot C = some m → MeC Γ P w mg base k 2 C (PySem.dunder nm) m ∧ opB Γ C nm = true
  rf : ∀ C m, rt C = some m → MeC Γ P w mg base k 2 C (dunderR nm) m ∧ opB Γ C nm = true
section
variable {Γ : G} {W : WX} {X : Cx} {f : List Addr} {H : Hp} {S : Store}
/-- what int says of an operator -/
structure IntOp (op : Operator) : Prop where
  fills : fillsNumberSlot (.type "int") op.info.2 = pure true
  in_ : ∃ idl B, Slot "int" (PySem.dunder op.info.2) idl ∧ entryFor table idl = some B ∧ (∀ a b : Value, argsOk idl ⟨[a, b], []⟩) ∧ ∀ (i : Int) (t : Tok) (y C dx : Addr), GivesAt (fun s => s.heap.get? y = some (PySem.W.instObj C dx)) (B ⟨[.int i t, .ref y], []⟩) (.val .notImplemented)
end
end Lk

set_option Elab.async false
set_option linter.all false
set_option autoImplicit false
set_option maxRecDepth 100000
set_option maxHeartbeats 4000000
/-! a call in an except suite: the error that is caught stays where it is -/
namespace Lk
open PySem PySem.Spec PyProof.Rows L2
section
variable {Γ : G} {W : WX} {X : Cx} {f : List Addr} {H : Hp} {S : Store} {a : Expr} {es : List Expr} {mr : MA} {p pos : Pos} {x : Str} {fA : Addr} {fd : FuncData} {ps : List Str} {k n : Nat} {m : List D → Store → R D} {e0 : Addr} {i : Nat} {E : Str} {ds : List D} {o : Option Addr}
end
end Lk

set_option Elab.async false
set_option linter.all false
set_option autoImplicit false
set_option maxRecDepth 100000
set_option maxHeartbeats 4000000
/-! x is True, x is not False .., of a flag, an int or None -/
namespace Lk
open PySem PySem.Spec PyProof.Rows L2
section
variable {Γ : G} {W : WX} {X : Cx} {f : List Addr} {H : Hp} {S : Store}
end
end Lk

set_option Elab.async false
set_option linter.all false
set_option autoImplicit false
set_option maxRecDepth 100000
set_option maxHeartbeats 4000000
/-! zip of three, each a list or a tuple -/
namespace Lk
open PySem PySem.Spec PyProof.Rows L2
section
variable {Γ : G} {W : WX} {X : Cx} {f : List Addr} {S : Store} {H : Hp} {e e2 e3 : Expr} {p pos : Pos}
end
end Lk

set_option Elab.async false
set_option linter.all false
set_option autoImplicit false
set_option maxRecDepth 100000
set_option maxHeartbeats 4000000
/-! math.lcm of two -/
namespace Lk
open PySem PySem.Spec PyProof.Rows L2
section
variable {X : Cx} {Γ : G}
end
end Lk

set_option Elab.async false
set_option linter.all false
set_option autoImplicit false
set_option maxRecDepth 100000
set_option maxHeartbeats 4000000
/-! sum of a list whose items have a + of their own -/
namespace Lk
open PySem PySem.Spec PyProof.Rows L2
section
variable {X : Cx} {Γ : G} {pins : List (Addr × Obj)} {σ : L2.St} {H : Hp} {s : Shared} {A1 : Around} {k : Nat} {E : Value → Shared → Prop} {Q : VK}
theorem FpOk.at {a : Addr} {H' : Hp} (f : FpOk X pins H a) (h : H' a = none) : FpOk X pins H' a := ⟨h, f.2⟩
end
end Lk

set_option Elab.async false
set_option linter.all false
set_option autoImplicit false
set_option maxRecDepth 100000
set_option maxHeartbeats 4000000
/-! the loop of sum -/
namespace Lk
open PySem PySem.Spec PyProof.Rows L2
section
variable {X : Cx} {Γ : G} {pins : List (Addr × Obj)} {σ : L2.St} {H : Hp} {s : Shared} {A1 : Around} {k : Nat} {Q : VK}
end
end Lk

set_option Elab.async false
set_option linter.all false
set_option autoImplicit false
set_option maxRecDepth 100000
set_option maxHeartbeats 4000000
/-! the mirror of such a sum -/
namespace Lk
open PySem PySem.Spec PyProof.Rows L2
section
variable {Γ : G} {W : WX} {σ : L2.St} {Q : VK}
end
end Lk

set_option Elab.async false
set_option linter.all false
set_option autoImplicit false
set_option maxRecDepth 100000
set_option maxHeartbeats 4000000
/-! comprehensions of two fors -/
namespace Lk
open PySem PySem.Spec PyProof.Rows L2
section
variable {Γ : G} {W : WX} {X : Cx} {f : List Addr} {H : Hp} {S : Store}
end
end Lk

set_option Elab.async false
set_option linter.all false
set_option autoImplicit false
set_option maxRecDepth 100000
set_option maxHeartbeats 4000000
/-! dicts: read, in, get, setdefault, written -/
namespace Lk
open PySem PySem.Spec PyProof.Rows L2
section
variable {Γ : G} {W : WX} {X : Cx} {f : List Addr} {H : Hp} {S : Store}
theorem RelS.dk {n : Nat} {kvs : List (Key × D)} {v : V} (rs : RelS Γ f S H) (hn : S[n]? = some (.dk kvs)) (r : Rp Γ f H (.ref n) v) : ∃ a us, f[n]? = some a ∧ v = .ref a ∧ H a = some (.dK us) ∧ us.map (·.1) = kvs.map (·.1) ∧ RpL Γ f H (kvs.map (·.2)) (us.map (·.2)) := by
  obtain ⟨a, ha, e⟩ := r.ref
  obtain ⟨b, hb, us, hh, ek, rv⟩ := rs.ob n _ hn
  rw [ha] at hb
  cases hb
  exact ⟨a, us, ha, e, hh, ek, rv⟩
/-! ### d[k] -/
/-! ### k in d -/
/-! ### d.get, d.setdefault -/
/-! ### d[k] = v -/
end
end Lk

set_option Elab.async false
set_option linter.all false
set_option autoImplicit false
set_option maxRecDepth 100000
set_option maxHeartbeats 4000000
/-! list(d.values()) -/
namespace Lk
open PySem PySem.Spec PyProof.Rows L2
section
variable {Γ : G} {W : WX} {X : Cx} {f : List Addr} {H : Hp} {S : Store} {e : Expr} {te : TE} {p apos cpos pos : Pos}
end
end Lk

set_option Elab.async false
set_option linter.all false
set_option autoImplicit false
set_option maxRecDepth 100000
set_option maxHeartbeats 4000000
/-! a, b = c, d; tuple(range(..)) -/
namespace Lk
open PySem PySem.Spec PyProof.Rows L2
section
variable {Γ : G} {W : WX} {X : Cx} {f : List Addr} {S : Store} {H : Hp} {a b e : Expr} {p p0 p1 p2 p3 pos : Pos} {ma mb me : ME}
end
end Lk

set_option Elab.async false
set_option linter.all false
set_option autoImplicit false
set_option maxRecDepth 100000
set_option maxHeartbeats 4000000
/-! xs.pop(i) -/
namespace Lk
open PySem PySem.Spec PyProof.Rows L2
section
variable {Γ : G} {W : WX} {X : Cx} {f : List Addr} {S : Store} {H : Hp}
end
end Lk

set_option Elab.async false
set_option linter.all false
set_option autoImplicit false
set_option maxRecDepth 100000
set_option maxHeartbeats 4000000
/-! try .. except C, without a name -/
namespace Lk
open PySem PySem.Spec PyProof.Rows L2
section
variable {Γ : G} {W : WX} {X : Cx} {C : Str} {body suite : List Stmt} {b₀ : Stmt} {np pos pos' : Pos} {mb ms : MS} {sb : Str → Option Bool}
end
end Lk

set_option Elab.async false
set_option linter.all false
set_option autoImplicit false
set_option maxRecDepth 100000
set_option maxHeartbeats 4000000
/-! != by an own ==, whatever stands on the right -/
namespace Lk
open PySem PySem.Spec PyProof.Rows L2 PySem.W
section
variable {prog : Program} {w : World} {A : Around} {E : Value → Shared → Prop} {h : Heap} {g : Array GenState} {d : Drawn} {t : Nat} {os : OsState} {C x f : Addr} {B : String} {bm : List Value} {b : Value}
end
section
variable {prog : Program} {w : World} {A : Around} {E : Value → Shared → Prop} {s : Shared} {K : PySem.W.Frag} {C x : Addr} {b : Value} {tb : Value} {ox : Obj} {od : Option Obj}
end
section
variable {Γ : G} {W : WX} {X : Cx} {f : List Addr} {S : Store} {H : Hp} {cs : List Str}
end
end Lk

set_option Elab.async false
set_option linter.all false
set_option autoImplicit false
set_option maxRecDepth 100000
set_option maxHeartbeats 4000000
/-! a def that raises nothing, called where an error is handled -/
namespace Lk
open PySem PySem.Spec PyProof.Rows L2
/-- such a def's promise: p is an object that stays where it is -/
structure FnQ (P : Program) (w : World) (K : PySem.W.Frag) (mg : Str → Option Value) (base : Heap) (CX : CXT) (k : Nat) (f : Addr) (fd : FuncData) (ps : List Str) (sp : Sp) : Prop where
  many : ∀ vs H Q E, sp vs H Q E → vs.length = ps.length
  goes : ∀ (A : Around) (out : List PySem.Env) (s : Shared) (H : Hp) (as : Args) (us : List Value) (vs : List V) (Q : VK) (E : XK) (p : Addr × Obj), L2H.RoomH k A → L2H.PinOk out H s p → Env0 P w K mg base A out s H → BindsTo s fd as (ps.zip us) → Vals vs us → sp vs H Q E → codeAny (model P w) A (.call (.ref f) as) (CR CX out P w H s Q E) s
section
variable {Γ : G} {W : WX} {X : Cx} {a : Expr} {es : List Expr} {mr : MA} {p pos : Pos} {x : Str} {fA : Addr} {fd : FuncData} {ps : List Str} {k n : Nat} {m : List D → Store → R D} {e0 : Addr} {i : Nat} {E : Str} {ds : List D} {o : Option Addr}
end
end Lk

/-! a comprehension in a comprehension -/
namespace Lk
open PySem PySem.Spec L2
end Lk

set_option Elab.async false
set_option linter.all false
set_option autoImplicit false
set_option maxRecDepth 100000
set_option maxHeartbeats 4000000
/-! facts about mirrors alone, for every law -/
namespace Lk
open PySem L2
end Lk

set_option Elab.async false
set_option linter.all false
set_option autoImplicit false
set_option maxRecDepth 100000
set_option maxHeartbeats 4000000
/-! a comprehension with a test, over any source -/
namespace Lk
open PySem L2
end Lk

set_option Elab.async false
set_option linter.all false
set_option autoImplicit false
set_option maxRecDepth 100000
set_option maxHeartbeats 4000000
/-! comprehensions whose items are known but for a relation; loops that end early -/
namespace Lk
open PySem L2
def F2 (P : D → D → Prop) : List D → List D → Prop
  | [], [] => True
  | d :: ds, r :: rs => P d r ∧ F2 P ds rs
  | _, _ => False
theorem F2.len {P : D → D → Prop} : ∀ {ds rs : List D}, F2 P ds rs → rs.length = ds.length
  | [], [], _ => rfl
  | d :: ds, r :: rs, h => by simp only [List.length_cons]; rw [F2.len h.2]
  | [], _ :: _, h => h.elim
  | _ :: _, [], h => h.elim
end Lk

set_option Elab.async false
set_option linter.all false
set_option autoImplicit false
set_option maxRecDepth 100000
set_option maxHeartbeats 4000000
/-! what a mirror's result is asked: a calculus of weakest demands -/
namespace Lk
open PySem L2
abbrev XP := Str → List D → Store → Prop
def noX : XP := fun _ _ _ => False
def WrD {α : Type} (r : R α) (Q : α → Store → Prop) (X : XP) : Prop := match r with
  | .ok a S => Q a S
  | .ex C ds S => X C ds S
  | .bad => False
/-- kept shut: nothing unfolds it but its own lemmas -/
structure Wr {α : Type} (r : R α) (Q : α → Store → Prop) (X : XP) : Prop where
  out : WrD r Q X
theorem wr_def {α : Type} {r : R α} {Q : α → Store → Prop} {X : XP} : Wr r Q X = WrD r Q X := propext ⟨fun h => h.out, fun h => ⟨h⟩⟩
structure Po where
  nx : Env → Store → Prop
  rt : D → Store → Prop
  bk : Env → Store → Prop
  ct : Env → Store → Prop
  ex : Str → List D → Env → Store → Prop
def WsD (r : RS) (P : Po) : Prop := match r with
  | .nx e S => P.nx e S
  | .rt d S => P.rt d S
  | .bk e S => P.bk e S
  | .ct e S => P.ct e S
  | .ex C ds e S => P.ex C ds e S
  | .bad => False
structure Ws (r : RS) (P : Po) : Prop where
  out : WsD r P
theorem ws_def {r : RS} {P : Po} : Ws r P = WsD r P := propext ⟨fun h => h.out, fun h => ⟨h⟩⟩
section
variable {α β : Type} {Q : α → Store → Prop} {X : XP} {P : Po}
theorem w_ok {a : α} {S : Store} : Wr (.ok a S) Q X = Q a S := wr_def
theorem w_bind {r : R β} {k : β → Store → R α} : Wr (r.bind k) Q X = Wr r (fun a S => Wr (k a S) Q X) X := by simp only [wr_def]; cases r <;> rfl
theorem w_bindS {r : R β} {env : Env} {k : β → Store → RS} : Ws (r.bindS env k) P = Wr r (fun a S => Ws (k a S) P) (fun C ds S => P.ex C ds env S) := by simp only [wr_def, ws_def]; cases r <;> rfl
theorem w_nxt {r : R Env} : Ws r.nxt P = Wr r P.nx noX := by simp only [wr_def, ws_def]; cases r <;> rfl
theorem w_nx {e : Env} {S : Store} : Ws (.nx e S) P = P.nx e S := ws_def
theorem w_rt {d : D} {S : Store} : Ws (.rt d S) P = P.rt d S := ws_def
theorem w_exS {C : Str} {ds : List D} {e : Env} {S : Store} : Ws (.ex C ds e S) P = P.ex C ds e S := ws_def
theorem w_ite {p : Prop} [Decidable p] {x y : R α} : Wr (if p then x else y) Q X = if p then Wr x Q X else Wr y Q X := by split <;> rfl
theorem w_iteS {p : Prop} [Decidable p] {x y : RS} : Ws (if p then x else y) P = if p then Ws x P else Ws y P := by split <;> rfl
theorem Wr.by {r : R α} {a : α} {S : Store} (h : r = .ok a S) (hq : Q a S) : Wr r Q X := by rw [h]; exact ⟨hq⟩
theorem w_if {t : MT} {x y : MS} {env : Env} {S : Store} : Ws (mIfS t x y env S) P = Wr (t env S) (fun c S1 => if c = true then Ws (x env S1) P else Ws (y env S1) P) (fun C ds S => P.ex C ds env S) := by
  unfold mIfS
  rw [w_bindS]
  congr 1
  funext c S1
  exact w_iteS
end
section
variable {Q : D → Store → Prop} {X : XP} {P : Po}
end
/-! ints are compared as ints, whatever the classes -/
theorem eqZ_int {cs : List Str} {oe : Str → Option (List D → Store → R D)} {S : Store} {i j : Int} : gEqZ cs oe (.int i) (.int j) S = .ok (.bl (decide (i = j))) S := by
  have sh : ∀ k : Int, SeqAt.shaped (.int k) = true := fun k => by simp [SeqAt.shaped, PyData.canLay0, PyData.depth]
  have e : eqData S (.int i) (.int j) = some (decide (i = j)) := by
    unfold eqData
    simp only [pyD, sh, and_self, if_true, PyData.eqv]
    rfl
  show gEqX cs oe (.int i) (.int j) S = _
  unfold gEqX
  simp only [e]
theorem eqX_int {cs : List Str} {oe : Str → Option (List D → Store → R D)} {S : Store} {i j : Int} : gEqX cs oe (.int i) (.int j) S = .ok (.bl (decide (i = j))) S := by
  have sh : ∀ k : Int, SeqAt.shaped (.int k) = true := fun k => by simp [SeqAt.shaped, PyData.canLay0, PyData.depth]
  have e : eqData S (.int i) (.int j) = some (decide (i = j)) := by
    unfold eqData
    simp only [pyD, sh, and_self, if_true, PyData.eqv]
    rfl
  unfold gEqX
  simp only [e]
theorem neX_int {oe : Str → Option (List D → Store → R D)} {S : Store} {i j : Int} : gNeX oe (.int i) (.int j) S = .ok (.bl (!decide (i = j))) S := by
  have sh : ∀ k : Int, SeqAt.shaped (.int k) = true := fun k => by simp [SeqAt.shaped, PyData.canLay0, PyData.depth]
  have e : eqData S (.int i) (.int j) = some (decide (i = j)) := by
    unfold eqData
    simp only [pyD, sh, and_self, if_true, PyData.eqv]
    rfl
  show gNe (.int i) (.int j) S = _
  unfold gNe
  rw [e]
/-! indices written out -/
theorem at_nat {l : List D} {i : Int} {d : D} (h0 : 0 ≤ i) (h : l[i.toNat]? = some d) : atI l i = some d := by
  have hl : i.toNat < l.length := by
    rcases Nat.lt_or_ge i.toNat l.length with z | z
    · exact z
    · rw [List.getElem?_eq_none z] at h; cases h
  have h2 : i < (l.length : Nat) := by omega
  unfold atI ixN
  simp [h0, h2]
  rw [List.getElem?_eq_getElem hl] at h
  exact Option.some.inj h
theorem ati0 {x : D} {l : List D} : atI (x :: l) 0 = some x := at_nat (by decide) rfl
theorem ati1 {x y : D} {l : List D} : atI (x :: y :: l) 1 = some y := at_nat (by decide) rfl
theorem ati2 {x y z : D} {l : List D} : atI (x :: y :: z :: l) 2 = some z := at_nat (by decide) rfl
theorem ati3 {x y z w : D} {l : List D} : atI (x :: y :: z :: w :: l) 3 = some w := at_nat (by decide) rfl
theorem ati4 {x y z w v : D} {l : List D} : atI (x :: y :: z :: w :: v :: l) 4 = some v := at_nat (by decide) rfl
theorem bne_dec {p : Prop} [Decidable p] : ((!decide p) = true) = ¬ p := by simp
/-! each construct's demand, by lemmas (never by unfolding: the kernel would evaluate) -/
section
variable {α β : Type} {Q : D → Store → Prop} {QA : List D → Store → Prop} {QB : Bool → Store → Prop} {QE : Env → Store → Prop} {QS : Src → Store → Prop} {X : XP} {P : Po} {env : Env} {S : Store} {d x y : D}
theorem v_0 {e : Env} : Wr (mVar 0 (some d :: e) S) Q X = Q d S := wr_def
theorem v_s {n : Nat} {o : Option D} {e : Env} : Wr (mVar (n + 1) (o :: e) S) Q X = Wr (mVar n e S) Q X := propext ⟨fun h => ⟨h.out⟩, fun h => ⟨h.out⟩⟩
theorem v_C : Wr (mC d env S) Q X = Q d S := wr_def
theorem v_nil : Wr (mNil env S) QA X = QA [] S := wr_def
theorem v_cons {m : ME} {r : MA} : Wr (mCons m r env S) QA X = Wr (m env S) (fun d S1 => Wr (r env S1) (fun ds S2 => QA (d :: ds) S2) X) X := by
  show Wr (R.bind _ _) _ _ = _
  rw [w_bind]
  congr 1
  funext d S1
  rw [w_bind]
  simp only [w_ok]
theorem v_m1 {g : D → Store → R D} {a : ME} : Wr (m1 g a env S) Q X = Wr (a env S) (fun x S1 => Wr (g x S1) Q X) X := w_bind
theorem v_m2 {g : D → D → Store → R D} {a b : ME} : Wr (m2 g a b env S) Q X = Wr (a env S) (fun x S1 => Wr (b env S1) (fun y S2 => Wr (g x y S2) Q X) X) X := by
  show Wr (R.bind _ _) _ _ = _
  rw [w_bind]
  congr 1
  funext d S1
  rw [w_bind]
theorem v_mB {g : List D → Store → R D} {a : MA} : Wr (mB g a env S) Q X = Wr (a env S) (fun x S1 => Wr (g x S1) Q X) X := w_bind
theorem v_if {t : MT} {a b : ME} : Wr (mIf t a b env S) Q X = Wr (t env S) (fun c S1 => if c = true then Wr (a env S1) Q X else Wr (b env S1) Q X) X := by
  show Wr (R.bind _ _) _ _ = _
  rw [w_bind]
  congr 1
  funext d S1
  exact w_ite
theorem v_asB {b : Bool} : Wr (asB (.bl b) S) QB X = QB b S := wr_def
theorem v_test {a : ME} : Wr (mTest a env S) QB X = Wr (a env S) (fun x S1 => Wr (asB x S1) QB X) X := w_bind
theorem v_andT {t u : MT} : Wr (mAndT t u env S) QB X = Wr (t env S) (fun c S1 => if c = true then Wr (u env S1) QB X else QB false S1) X := by
  show Wr (R.bind _ _) _ _ = _
  rw [w_bind]
  congr 1
  funext d S1
  simp only [w_ite, w_ok]
theorem v_orT {t u : MT} : Wr (mOrT t u env S) QB X = Wr (t env S) (fun c S1 => if c = true then QB true S1 else Wr (u env S1) QB X) X := by
  show Wr (R.bind _ _) _ _ = _
  rw [w_bind]
  congr 1
  funext d S1
  simp only [w_ite, w_ok]
theorem v_notT {t : MT} : Wr (mNotT t env S) QB X = Wr (t env S) (fun c S1 => QB (!c) S1) X := by
  show Wr (R.bind _ _) _ _ = _
  simp only [w_bind, w_ok]
theorem v_and {a b : ME} : Wr (mAnd a b env S) Q X = Wr (a env S) (fun x S1 => Wr (asB x S1) (fun c S2 => if c = true then Wr (b env S2) Q X else Q (.bl false) S2) X) X := by
  show Wr (R.bind _ _) _ _ = _
  rw [w_bind]
  congr 1
  funext d S1
  rw [w_bind]
  congr 1
  funext c S2
  simp only [w_ite, w_ok]
theorem v_or {a b : ME} : Wr (mOr a b env S) Q X = Wr (a env S) (fun x S1 => Wr (asB x S1) (fun c S2 => if c = true then Q (.bl true) S2 else Wr (b env S2) Q X) X) X := by
  show Wr (R.bind _ _) _ _ = _
  rw [w_bind]
  congr 1
  funext d S1
  rw [w_bind]
  congr 1
  funext c S2
  simp only [w_ite, w_ok]
theorem v_not {a : ME} : Wr (mNot a env S) Q X = Wr (a env S) (fun x S1 => Wr (asB x S1) (fun c S2 => Q (.bl (!c)) S2) X) X := by
  show Wr (R.bind _ _) _ _ = _
  rw [w_bind]
  congr 1
  funext d S1
  rw [w_bind]
  simp only [w_ok]
theorem v_call {n : Nat} {f : List D → Store → R D} {a : MA} : Wr (mCall n f a env S) Q X = Wr (a env S) (fun ds S1 => ds.length = n ∧ Wr (f ds S1) Q X) X := by
  show Wr (R.bind _ _) _ _ = _
  rw [w_bind]
  congr 1
  funext ds S1
  rw [w_ite]
  by_cases h : ds.length = n <;> simp [h, wr_def, WrD]
theorem v_make {C : Str} {n : Nat} {m : List D → Store → R D} {a : MA} : Wr (mMake C n m a env S) Q X = Wr (a env S) (fun ds S1 => ds.length + 1 = n ∧ Wr (mkOf C m ds S1) Q X) X := by
  show Wr (R.bind _ _) _ _ = _
  rw [w_bind]
  congr 1
  funext ds S1
  rw [w_ite]
  by_cases h : ds.length + 1 = n <;> simp [h, wr_def, WrD]
theorem v_tup {m : MA} : Wr (mTup m env S) Q X = Wr (m env S) (fun ds S1 => ds.length ≤ lim ∧ Q (.tup ds) S1) X := by
  show Wr (R.bind _ _) _ _ = _
  rw [w_bind]
  congr 1
  funext ds S1
  rw [w_ite]
  by_cases h : ds.length ≤ lim <;> simp [h, wr_def, WrD]
theorem v_lst {m : MA} : Wr (mLst m env S) Q X = Wr (m env S) (fun ds S1 => ds.length ≤ lim ∧ Q (.ref S1.length) (S1 ++ [.lst ds])) X := by
  show Wr (R.bind _ _) _ _ = _
  rw [w_bind]
  congr 1
  funext ds S1
  rw [w_ite]
  by_cases h : ds.length ≤ lim <;> simp [h, wr_def, WrD]
theorem v_fld {fl : Str → List Str} {z : Str} {a : ME} : Wr (mFld fl z a env S) Q X = Wr (a env S) (fun d S1 => ∃ e, fieldOf fl S1 z d = some e ∧ Q e S1) X := by
  show Wr (R.bind _ _) _ _ = _
  rw [w_bind]
  congr 1
  funext d S1
  cases h : fieldOf fl S1 z d <;> simp [wr_def, WrD, h]
theorem v_ch2 {g g' : D → D → Store → R D} {a b c : ME} : Wr (mCh2 g g' a b c env S) Q X = Wr (a env S) (fun x S1 => Wr (b env S1) (fun y S2 => Wr (g x y S2) (fun z S3 => Wr (asB z S3) (fun t S4 => if t = true then Wr (c env S4) (fun w S5 => Wr (g' y w S5) Q X) X else Q (.bl false) S4) X) X) X) X := by
  show Wr (R.bind _ _) _ _ = _
  rw [w_bind]
  congr 1
  funext x S1
  show Wr (R.bind _ _) _ _ = _
  rw [w_bind]
  congr 1
  funext y S2
  rw [w_bind]
  congr 1
  funext z S3
  rw [w_bind]
  congr 1
  funext t S4
  rw [w_ite]
  by_cases h : t = true
  · simp only [h, if_true]
    show Wr (R.bind _ _) _ _ = _
    rw [w_bind]
  · simp only [h, if_false]
    exact w_ok
theorem v_ch3 {g g' g'' : D → D → Store → R D} {a b c e : ME} : Wr (mCh3 g g' g'' a b c e env S) Q X = Wr (a env S) (fun x S1 => Wr (b env S1) (fun y S2 => Wr (g x y S2) (fun z S3 => Wr (asB z S3) (fun t S4 => if t = true then Wr (mCh2 g' g'' (mC y) c e env S4) Q X else Q (.bl false) S4) X) X) X) X := by
  show Wr (R.bind _ _) _ _ = _
  rw [w_bind]
  congr 1
  funext x S1
  show Wr (R.bind _ _) _ _ = _
  rw [w_bind]
  congr 1
  funext y S2
  rw [w_bind]
  congr 1
  funext z S3
  rw [w_bind]
  congr 1
  funext t S4
  rw [w_ite]
  by_cases h : t = true
  · simp only [h, if_true]
    rfl
  · simp only [h, if_false]
    exact w_ok
theorem v_BM {g : D → List D → Store → R D} {o : ME} {a : MA} : Wr (mBM g o a env S) Q X = Wr (o env S) (fun d S1 => ∃ n, d = .ref n ∧ ∃ l, S1[n]? = some (.lst l) ∧ Wr (a env S1) (fun xs S2 => Wr (g (.ref n) xs S2) Q X) X) X := by
  show Wr (R.bind _ _) _ _ = _
  rw [w_bind]
  congr 1
  funext d S1
  cases d with
  | ref n =>
    simp only [D.ref.injEq, exists_eq_left']
    cases h : S1[n]? with
    | none => simp [wr_def, WrD]
    | some o =>
      cases o with
      | lst l =>
        simp only [Option.some.injEq, Ob.lst.injEq, exists_eq_left', w_bind]
      | _ => simp [wr_def, WrD]
  | _ => simp [wr_def, WrD]
theorem v_app {n : Nat} : Wr (gAppend (.ref n) [y] S) Q X = ∃ l, S[n]? = some (.lst l) ∧ l.length < lim ∧ Q .non (S.set n (.lst (l ++ [y]))) := by
  unfold gAppend
  cases h : S[n]? with
  | none => simp [wr_def, WrD, h]
  | some o =>
    cases o with
    | lst l => by_cases c : l.length < lim <;> simp [wr_def, WrD, h, c]
    | _ => simp [wr_def, WrD, h]
theorem v_o0 {QO : Option Int → Store → Prop} : Wr (toO none env S) QO X = QO none S := wr_def
theorem v_o1 {QO : Option Int → Store → Prop} {m : ME} : Wr (toO (some m) env S) QO X = Wr (m env S) (fun d S1 => ∃ i, d = .int i ∧ QO (some i) S1) X := by
  show Wr (R.bind _ _) _ _ = _
  rw [w_bind]
  congr 1
  funext d S1
  cases d <;> simp [wr_def, WrD]
theorem v_sl {a : ME} {lo hi : Option ME} : Wr (mSl a lo hi env S) Q X = Wr (a env S) (fun d S1 => Wr (toO lo env S1) (fun l S2 => Wr (toO hi env S2) (fun h S3 => Wr (gSl d l h S3) Q X) X) X) X := by
  show Wr (R.bind _ _) _ _ = _
  rw [w_bind]
  congr 1
  funext d S1
  rw [w_bind]
  congr 1
  funext l S2
  rw [w_bind]
theorem v_slT {ds : List D} {l h : Option Int} : Wr (gSl (.tup ds) l h S) Q X = Q (.tup (cutD ds l h)) S := wr_def
theorem v_slR {n : Nat} {l h : Option Int} : Wr (gSl (.ref n) l h S) Q X = ∃ ds, S[n]? = some (.lst ds) ∧ Q (.ref S.length) (S ++ [.lst (cutD ds l h)]) := by
  unfold gSl listOf
  cases h : S[n]? with
  | none => simp [wr_def, WrD, h]
  | some o => cases o <;> simp [wr_def, WrD, h]
theorem v_ixT {ds : List D} {i : Int} : Wr (gIx (.tup ds) (.int i) S) Q X = ∃ d, atI ds i = some d ∧ Q d S := by
  unfold gIx listOf
  cases h : atI ds i <;> simp [wr_def, WrD, h]
theorem v_ixL {ds : List D} {i : Int} : Wr (gIx (.rol ds) (.int i) S) Q X = ∃ d, atI ds i = some d ∧ Q d S := by
  unfold gIx listOf
  cases h : atI ds i <;> simp [wr_def, WrD, h]
theorem v_ixR {n : Nat} {i : Int} : Wr (gIx (.ref n) (.int i) S) Q X = ∃ ds, S[n]? = some (.lst ds) ∧ ∃ d, atI ds i = some d ∧ Q d S := by
  unfold gIx listOf
  cases h : S[n]? with
  | none => simp [wr_def, WrD, h]
  | some o =>
    cases o with
    | lst ds => cases h2 : atI ds i <;> simp [wr_def, WrD, h, h2]
    | _ => simp [wr_def, WrD, h]
theorem v_lenR {n : Nat} : Wr (gLen [.ref n] S) Q X = ((∃ ds, S[n]? = some (.lst ds) ∧ Q (.int (ds.length : Nat)) S) ∨ ∃ ds, S[n]? = some (.dk ds) ∧ Q (.int (ds.length : Nat)) S) := by
  unfold gLen
  cases h : S[n]? with
  | none => simp [wr_def, WrD, h]
  | some o => cases o <;> simp [wr_def, WrD, h]
theorem v_lenT {ds : List D} : Wr (gLen [.tup ds] S) Q X = Q (.int (ds.length : Nat)) S := wr_def
theorem v_lenL {ds : List D} : Wr (gLen [.rol ds] S) Q X = Q (.int (ds.length : Nat)) S := wr_def
theorem v_tuT {ds : List D} : Wr (gTuple [.tup ds] S) Q X = Q (.tup ds) S := wr_def
theorem v_tuL {ds : List D} : Wr (gTuple [.rol ds] S) Q X = Q (.tup ds) S := wr_def
theorem v_tuR {n : Nat} : Wr (gTuple [.ref n] S) Q X = ∃ ds, S[n]? = some (.lst ds) ∧ Q (.tup ds) S := by
  unfold gTuple listOf
  cases h : S[n]? with
  | none => simp [wr_def, WrD, h]
  | some o => cases o <;> simp [wr_def, WrD, h]
theorem v_liT {ds : List D} : Wr (gList [.tup ds] S) Q X = Q (.ref S.length) (S ++ [.lst ds]) := wr_def
theorem v_liL {ds : List D} : Wr (gList [.rol ds] S) Q X = Q (.ref S.length) (S ++ [.lst ds]) := wr_def
theorem v_liR {n : Nat} : Wr (gList [.ref n] S) Q X = ∃ ds, S[n]? = some (.lst ds) ∧ Q (.ref S.length) (S ++ [.lst ds]) := by
  unfold gList listOf
  cases h : S[n]? with
  | none => simp [wr_def, WrD, h]
  | some o => cases o <;> simp [wr_def, WrD, h]
theorem v_all {n : Nat} : Wr (gAll [.ref n] S) Q X = ∃ ds, S[n]? = some (.lst ds) ∧ ∃ bs, dBools ds = some bs ∧ Q (.bl (bs.all id)) S := by
  unfold gAll onL
  cases h : S[n]? with
  | none => simp [wr_def, WrD, h]
  | some o =>
    cases o with
    | lst ds => cases h2 : dBools ds <;> simp [wr_def, WrD, h, h2]
    | _ => simp [wr_def, WrD, h]
theorem v_any {n : Nat} : Wr (gAny [.ref n] S) Q X = ∃ ds, S[n]? = some (.lst ds) ∧ ∃ bs, dBools ds = some bs ∧ Q (.bl (bs.any id)) S := by
  unfold gAny onL
  cases h : S[n]? with
  | none => simp [wr_def, WrD, h]
  | some o =>
    cases o with
    | lst ds => cases h2 : dBools ds <;> simp [wr_def, WrD, h, h2]
    | _ => simp [wr_def, WrD, h]
theorem v_sum {n : Nat} : Wr (gSum [.ref n] S) Q X = ∃ ds, S[n]? = some (.lst ds) ∧ ∃ bs, dInts ds = some bs ∧ Q (.int bs.sum) S := by
  unfold gSum onL
  cases h : S[n]? with
  | none => simp [wr_def, WrD, h]
  | some o =>
    cases o with
    | lst ds => cases h2 : dInts ds <;> simp [wr_def, WrD, h, h2]
    | _ => simp [wr_def, WrD, h]
/-! ints -/
theorem v_add {i j : Int} : Wr (gAdd (.int i) (.int j) S) Q X = Q (.int (i + j)) S := wr_def
theorem v_addT {a b : List D} : Wr (gAdd (.tup a) (.tup b) S) Q X = (a.length + b.length ≤ lim ∧ Q (.tup (a ++ b)) S) := by
  unfold gAdd
  rw [w_ite]
  by_cases h : a.length + b.length ≤ lim <;> simp [h, wr_def, WrD]
theorem v_addR {n m : Nat} : Wr (gAdd (.ref n) (.ref m) S) Q X = ∃ a, S[n]? = some (.lst a) ∧ ∃ b, S[m]? = some (.lst b) ∧ a.length + b.length ≤ lim ∧ Q (.ref S.length) (S ++ [.lst (a ++ b)]) := by
  unfold gAdd
  cases h : S[n]? with
  | none => simp [wr_def, WrD, h]
  | some o =>
    cases o with
    | lst a =>
      cases h2 : S[m]? with
      | none => simp [wr_def, WrD, h, h2]
      | some o =>
        cases o with
        | lst b => by_cases c : a.length + b.length ≤ lim <;> simp [wr_def, WrD, h, h2, c]
        | _ => simp [wr_def, WrD, h, h2]
    | _ => simp [wr_def, WrD, h]
theorem v_sub {i j : Int} : Wr (gSub (.int i) (.int j) S) Q X = Q (.int (i - j)) S := wr_def
theorem v_mul {i j : Int} : Wr (gMul (.int i) (.int j) S) Q X = (bits i + bits j < 1000000 ∧ Q (.int (i * j)) S) := by
  unfold gMul
  rw [w_ite]
  by_cases h : bits i + bits j < 1000000 <;> simp [h, wr_def, WrD]
theorem v_div {i j : Int} : Wr (gDiv (.int i) (.int j) S) Q X = ((j ≠ 0 ∧ bits j < 9000) ∧ Q (.int (fdv i j)) S) := by
  unfold gDiv
  rw [w_ite]
  by_cases h : j ≠ 0 ∧ bits j < 9000 <;> simp [h, wr_def, WrD]
theorem v_mod {i j : Int} : Wr (gMod (.int i) (.int j) S) Q X = (j ≠ 0 ∧ Q (.int (fmd i j)) S) := by
  unfold gMod
  rw [w_ite]
  by_cases h : j ≠ 0 <;> simp [h, wr_def, WrD]
theorem v_neg {i : Int} : Wr (gNeg (.int i) S) Q X = Q (.int (-i)) S := wr_def
theorem v_cmp {p : Int → Int → Bool} {i j : Int} : Wr (gCmp p (.int i) (.int j) S) Q X = Q (.bl (p i j)) S := wr_def
theorem v_eqZ {cs : List Str} {oe : Str → Option (List D → Store → R D)} {i j : Int} : Wr (gEqZ cs oe (.int i) (.int j) S) Q X = Q (.bl (decide (i = j))) S := by rw [eqZ_int]; exact w_ok
theorem v_eqX {cs : List Str} {oe : Str → Option (List D → Store → R D)} {i j : Int} : Wr (gEqX cs oe (.int i) (.int j) S) Q X = Q (.bl (decide (i = j))) S := by rw [eqX_int]; exact w_ok
theorem v_neX {oe : Str → Option (List D → Store → R D)} {i j : Int} : Wr (gNeX oe (.int i) (.int j) S) Q X = Q (.bl (!decide (i = j))) S := by rw [neX_int]; exact w_ok
theorem v_isN : Wr (gIsN x .non S) Q X = Q (.bl (isNonD x)) S := by cases x <;> exact wr_def
theorem v_notN : Wr (gNotN x .non S) Q X = Q (.bl (!isNonD x)) S := by cases x <;> exact wr_def
theorem n_non : isNonD .non = true := rfl
theorem n_int {i : Int} : isNonD (.int i) = false := rfl
theorem n_bl {i : Bool} : isNonD (.bl i) = false := rfl
theorem n_str {i : Str} : isNonD (.str i) = false := rfl
theorem n_tup {i : List D} : isNonD (.tup i) = false := rfl
theorem n_rol {i : List D} : isNonD (.rol i) = false := rfl
theorem n_ref {i : Nat} : isNonD (.ref i) = false := rfl
theorem n_ins {C : Str} {i : List D} : isNonD (.ins C i) = false := rfl
theorem v_int {i : Int} : Wr (gInt [.int i] S) Q X = Q (.int i) S := wr_def
theorem v_intB {b : Bool} : Wr (gInt [.bl b] S) Q X = Q (.int (if b = true then 1 else 0)) S := by cases b <;> exact wr_def
theorem v_abs {i : Int} : Wr (gAbs [.int i] S) Q X = Q (.int (if i < 0 then -i else i)) S := wr_def
theorem v_max2 {i j : Int} : Wr (gMax2 [.int i, .int j] S) Q X = Q (.int (if j > i then j else i)) S := wr_def
theorem v_min2 {i j : Int} : Wr (gMin2 [.int i, .int j] S) Q X = Q (.int (if j < i then j else i)) S := wr_def
theorem v_gcd {i j : Int} : Wr (gGcd [.int i, .int j] S) Q X = Q (.int ((Nat.gcd i.natAbs j.natAbs : Nat) : Int)) S := wr_def
/-! sources -/
theorem v_seq {m : ME} : Wr (iSeq m env S) QS X = Wr (m env S) (fun d S1 => Wr (srcOf d S1) QS X) X := w_bind
theorem v_srcT {ds : List D} : Wr (srcOf (.tup ds) S) QS X = QS (vals ds) S := wr_def
theorem v_srcL {ds : List D} : Wr (srcOf (.rol ds) S) QS X = QS (vals ds) S := wr_def
theorem v_srcR {n : Nat} : Wr (srcOf (.ref n) S) QS X = ∃ ds, S[n]? = some (.lst ds) ∧ QS (lstAt n ds) S := by
  unfold srcOf
  cases h : S[n]? with
  | none => simp [wr_def, WrD, h]
  | some o => cases o <;> simp [wr_def, WrD, h]
theorem s_vi {ds : List D} : (vals ds).items = ds := rfl
theorem s_vg {ds : List D} : (vals ds).gd = fun _ => True := rfl
theorem s_li {n : Nat} {ds : List D} : (lstAt n ds).items = ds := rfl
theorem s_lg {n : Nat} {ds : List D} : (lstAt n ds).gd = fun S => S[n]? = some (.lst ds) := rfl
theorem v_rng1 {m : MA} : Wr (iRng1' m env S) QS X = Wr (m env S) (fun ds S1 => ∃ j, ds = [.int j] ∧ bd j ∧ QS (vals (rngI 0 j.toNat)) S1) X := by
  show Wr (R.bind _ _) _ _ = _
  rw [w_bind]
  congr 1
  funext ds S1
  match ds with
  | [] => simp [wr_def, WrD]
  | [.int j] => by_cases h : bd j <;> simp [h, wr_def, WrD]
  | [.non] => simp [wr_def, WrD]
  | [.bl _] => simp [wr_def, WrD]
  | [.str _] => simp [wr_def, WrD]
  | [.tup _] => simp [wr_def, WrD]
  | [.rol _] => simp [wr_def, WrD]
  | [.ref _] => simp [wr_def, WrD]
  | [.ins _ _] => simp [wr_def, WrD]
  | d :: e :: r => cases d <;> simp [wr_def, WrD]
theorem v_enu {m : ME} : Wr (iEnuZ m env S) QS X = Wr (m env S) (fun d S1 => Wr (srcEZ d S1) QS X) X := w_bind
theorem v_enuT {ds : List D} : Wr (srcEZ (.tup ds) S) QS X = QS ⟨enumD ds, fun _ => True⟩ S := wr_def
theorem v_enuL {ds : List D} : Wr (srcEZ (.rol ds) S) QS X = QS ⟨enumD ds, fun _ => True⟩ S := wr_def
theorem v_enuR {n : Nat} : Wr (srcEZ (.ref n) S) QS X = ∃ ds, S[n]? = some (.lst ds) ∧ QS ⟨enumD ds, fun S => S[n]? = some (.lst ds)⟩ S := by
  show Wr (srcE (.ref n) S) QS X = _
  unfold srcE
  cases h : S[n]? with
  | none => simp [wr_def, WrD, h]
  | some o => cases o <;> simp [wr_def, WrD, h]
theorem v_zip {m n : ME} : Wr (iZip' m n env S) QS X = Wr (m env S) (fun x S1 => Wr (n env S1) (fun y S2 => Wr (srcZ x y S2) QS X) X) X := by
  show Wr (R.bind _ _) _ _ = _
  rw [w_bind]
  congr 1
  funext x S1
  rw [w_bind]
theorem v_lc {mi : MI} {g : Tg} {mt : MT} {me : ME} {vs : List Nat} : Wr (mLc mi g mt me vs env S) Q X = Wr (mi env S) (fun s S1 => Wr (lcGo s.gd g mt me (wipeE env vs) S1.length s.items (S1 ++ [.lst []])) Q X) X := w_bind
theorem wi_0 : wipeE env [] = env := rfl
theorem wi_s {v : Nat} {vs : List Nat} : wipeE env (v :: vs) = (wipeE env vs).set v none := rfl
/-! targets -/
theorem v_gS {i : Nat} : Wr (gSet i d env S) QE X = QE (env.set i (some d)) S := wr_def
theorem v_gU {n : Nat} {r : MGs} {ds : List D} : Wr (gUnpack n r (.tup ds) env S) QE X = (ds.length = n ∧ Wr (r ds env S) QE X) := by
  unfold gUnpack
  rw [w_ite]
  by_cases h : ds.length = n <;> simp [h, wr_def, WrD]
theorem v_gN : Wr (gNil' [] env S) QE X = QE env S := wr_def
theorem v_gC {g : MG} {r : MGs} {ds : List D} : Wr (gCons' g r (d :: ds) env S) QE X = Wr (g d env S) (fun e S1 => Wr (r ds e S1) QE X) X := w_bind
theorem v_gI {o i : ME} : Wr (gSub' o i d env S) QE X = Wr (o env S) (fun x S1 => Wr (i env S1) (fun y S2 => Wr (stIx d env x y S2) QE X) X) X := by
  show Wr (R.bind _ _) _ _ = _
  rw [w_bind]
  congr 1
  funext x S1
  rw [w_bind]
theorem v_st {n : Nat} {k : Int} : Wr (stIx d env (.ref n) (.int k) S) QE X = ∃ ds, S[n]? = some (.lst ds) ∧ ∃ j, ixN ds.length k = some j ∧ QE env (S.set n (.lst (ds.set j d))) := by
  unfold stIx
  cases h : S[n]? with
  | none => simp [wr_def, WrD, h]
  | some o =>
    cases o with
    | lst ds => cases h2 : ixN ds.length k <;> simp [wr_def, WrD, h, h2]
    | _ => simp [wr_def, WrD, h]
/-! statements -/
theorem u_set {i : Nat} {a : ME} : Ws (mSet i a env S) P = Wr (a env S) (fun d S1 => P.nx (env.set i (some d)) S1) (fun C ds S => P.ex C ds env S) := by
  show Ws (R.bindS _ _ _) _ = _
  simp only [w_bindS, w_nx, w_rt, w_exS]
theorem u_ret {a : ME} : Ws (mRet a env S) P = Wr (a env S) (fun d S1 => P.rt d S1) (fun C ds S => P.ex C ds env S) := by
  show Ws (R.bindS _ _ _) _ = _
  simp only [w_bindS, w_nx, w_rt, w_exS]
theorem u_retN : Ws (mRetN env S) P = P.rt .non S := ws_def
theorem u_drop {a : ME} : Ws (mDrop a env S) P = Wr (a env S) (fun _ S1 => P.nx env S1) (fun C ds S => P.ex C ds env S) := by
  show Ws (R.bindS _ _ _) _ = _
  simp only [w_bindS, w_nx, w_rt, w_exS]
theorem u_next : Ws (mNext env S) P = P.nx env S := ws_def
theorem u_brk : Ws (mBreak env S) P = P.bk env S := ws_def
theorem u_cont : Ws (mCont env S) P = P.ct env S := ws_def
theorem u_asg {a : ME} {g : MG} : Ws (mAsg a g env S) P = Wr (a env S) (fun d S1 => Wr (g d env S1) P.nx noX) (fun C ds S => P.ex C ds env S) := by
  show Ws (R.bindS _ _ _) _ = _
  rw [w_bindS]
  congr 1
  funext d S1
  exact w_nxt
theorem u_for {mi : MI} {g : MG} {mb : MS} : Ws (mFor mi g mb env S) P = Wr (mi env S) (fun s S1 => Ws (forGo s.gd g mb s.items env S1) P) (fun C ds S => P.ex C ds env S) := w_bindS
theorem u_while {n : Nat} {t : MT} {mb : MS} : Ws (mWhile n t mb env S) P = Ws (whileGo t mb n env S) P := propext ⟨fun h => ⟨h.out⟩, fun h => ⟨h.out⟩⟩
theorem u_r1 {C : Str} {a : ME} : Ws (mRaise1 C a env S) P = Wr (a env S) (fun d S1 => P.ex C [d] env S1) (fun C ds S => P.ex C ds env S) := by
  show Ws (R.bindS _ _ _) _ = _
  simp only [w_bindS, w_nx, w_rt, w_exS]
theorem u_r0 {C : Str} : Ws (mRaise0 C env S) P = P.ex C [] env S := ws_def
theorem v_xis {xk : Str → CK → Option Bool} {i : Nat} {C : Str} {T : CK} : Wr (mXis xk i C T env S) Q X = (env[i]? = some none ∧ ∃ b, xk C T = some b ∧ Q (.bl b) S) := by
  unfold mXis
  cases h : env[i]? with
  | none => simp [wr_def, WrD]
  | some o =>
    cases o with
    | none => cases h2 : xk C T <;> simp [wr_def, WrD]
    | some o => simp [wr_def, WrD]
theorem v_xfl {xf : Str → List Str} {i : Nat} {C z : Str} {ds : List D} : Wr (mXfld xf i C ds z env S) Q X = (env[i]? = some none ∧ ∃ d, ((xf C).zip ds).lookup z = some d ∧ Q d S) := by
  unfold mXfld
  cases h : env[i]? with
  | none => simp [wr_def, WrD]
  | some o =>
    cases o with
    | none => cases h2 : ((xf C).zip ds).lookup z <;> simp [wr_def, WrD]
    | some o => simp [wr_def, WrD]
theorem e_s {o : Option D} {e : Env} {n : Nat} {z : Option D} : List.set (o :: e) (n + 1) z = o :: List.set e n z := List.set_cons_succ ..
theorem e_0 {o : Option D} {e : Env} {z : Option D} : List.set (o :: e) 0 z = z :: e := List.set_cons_zero ..
theorem l1_eq {i j : Int} : ([D.int i] = [D.int j]) = (i = j) := by simp
theorem l_0 : (0 ≤ lim) = True := by simp
theorem l_1 : (1 ≤ lim) = True := by have : lim = 16777216 := rfl; simp [this]
theorem l_2 : (2 ≤ lim) = True := by have : lim = 16777216 := rfl; simp [this]
theorem l_3 : (3 ≤ lim) = True := by have : lim = 16777216 := rfl; simp [this]
theorem l_4 : (4 ≤ lim) = True := by have : lim = 16777216 := rfl; simp [this]
theorem l_5 : (5 ≤ lim) = True := by have : lim = 16777216 := rfl; simp [this]
theorem l_6 : (6 ≤ lim) = True := by have : lim = 16777216 := rfl; simp [this]
end
end Lk
local macro_rules | `(tactic| push_cast [$ts,*]) => `(tactic| simp only [Lk.v_0, Lk.v_s, Lk.v_C, Lk.v_nil, Lk.v_cons, Lk.v_m1, Lk.v_m2, Lk.v_mB, Lk.v_if, Lk.v_asB, Lk.v_test, Lk.v_andT, Lk.v_orT, Lk.v_notT, Lk.v_and, Lk.v_or, Lk.v_not, Lk.v_call, Lk.v_make, Lk.v_tup, Lk.v_lst, Lk.v_fld, Lk.v_ch2, Lk.v_ch3, Lk.v_BM, Lk.v_app, Lk.v_o0, Lk.v_o1, Lk.v_sl, Lk.v_slT, Lk.v_slR, Lk.v_ixT, Lk.v_ixL, Lk.v_ixR, Lk.v_lenR, Lk.v_lenT, Lk.v_lenL, Lk.v_tuT, Lk.v_tuL, Lk.v_tuR, Lk.v_liT, Lk.v_liL, Lk.v_liR, Lk.v_all, Lk.v_any, Lk.v_sum, Lk.v_add, Lk.v_addT, Lk.v_addR, Lk.v_sub, Lk.v_mul, Lk.v_div, Lk.v_mod, Lk.v_neg, Lk.v_cmp, Lk.v_eqZ, Lk.v_eqX, Lk.v_neX, Lk.v_isN, Lk.v_notN, Lk.n_non, Lk.n_int, Lk.n_bl, Lk.n_str, Lk.n_tup, Lk.n_rol, Lk.n_ref, Lk.n_ins, Lk.v_int, Lk.v_intB, Lk.v_abs, Lk.v_max2, Lk.v_min2, Lk.v_gcd, Lk.v_seq, Lk.v_srcT, Lk.v_srcL, Lk.v_srcR, Lk.s_vi, Lk.s_vg, Lk.s_li, Lk.s_lg, Lk.v_rng1, Lk.v_enu, Lk.v_enuT, Lk.v_enuL, Lk.v_enuR, Lk.v_zip, Lk.v_lc, Lk.wi_0, Lk.wi_s, Lk.v_gS, Lk.v_gU, Lk.v_gN, Lk.v_gC, Lk.v_gI, Lk.v_st, Lk.v_xis, Lk.v_xfl, List.getElem?_cons_succ, List.getElem?_cons_zero, Lk.u_set, Lk.u_ret, Lk.u_retN, Lk.u_drop, Lk.u_next, Lk.u_brk, Lk.u_cont, Lk.u_asg, Lk.u_for, Lk.u_while, Lk.u_r1, Lk.u_r0, Lk.w_if, Lk.w_ok, Lk.e_s, Lk.e_0, Lk.l_0, Lk.l_1, Lk.l_2, Lk.l_3, Lk.l_4, Lk.l_5, Lk.l_6, List.map_cons, List.map_nil, List.cons_append, List.nil_append, List.length_cons, List.length_nil, List.replicate, Nat.reduceAdd, Nat.reduceSub, Nat.zero_add, reduceIte, Bool.false_eq_true, if_true, if_false, decide_eq_true_eq, Lk.bne_dec, ne_eq, not_false_eq_true, not_true_eq_false, true_and, and_true, Bool.not_true, Bool.not_false, Option.some.injEq, Lk.Ob.lst.injEq, Lk.D.ref.injEq, Lk.D.int.injEq, Lk.l1_eq, exists_eq_left', reduceCtorEq, false_and, exists_false, or_false, false_or, Lk.ati0, Lk.ati1, Lk.ati2, Lk.ati3, Lk.ati4, Int.toNat_natCast, $ts,*])

set_option Elab.async false
set_option linter.all false
set_option autoImplicit false
set_option maxRecDepth 100000
set_option maxHeartbeats 4000000
/-! data by value, compared -/
namespace Lk
open PySem L2
mutual
def toP : D → PyData
  | .non => .none
  | .bl b => .bool b
  | .int i => .int i
  | .str x => .str x
  | .tup ds => .tuple (toPL ds)
  | .rol ds => .list (toPL ds)
  | .ref _ => .none
  | .ins _ _ => .none
def toPL : List D → List PyData
  | [] => []
  | d :: ds => toP d :: toPL ds
end
mutual
/-- plain data of at most so many levels -/
def okP : Nat → D → Bool
  | _, .non => true
  | _, .bl _ => true
  | _, .int _ => true
  | _, .str x => PyData.strOk x
  | 0, .tup _ => false
  | n + 1, .tup ds => okPL n ds
  | 0, .rol _ => false
  | n + 1, .rol ds => okPL n ds
  | _, .ref _ => false
  | _, .ins _ _ => false
def okPL : Nat → List D → Bool
  | _, [] => true
  | n, d :: ds => okP n d && okPL n ds
end
mutual
theorem okP_py {S : Store} : ∀ (n : Nat) (d : D), okP n d = true → pyD S (n + 1) d = some (toP d) ∧ (toP d).canLay0 = true ∧ (toP d).depth ≤ n
  | n, .non, _ => by simp [pyD, toP, PyData.canLay0, PyData.depth]
  | n, .bl _, _ => by simp [pyD, toP, PyData.canLay0, PyData.depth]
  | n, .int _, _ => by simp [pyD, toP, PyData.canLay0, PyData.depth]
  | n, .str x, h => by simp [okP] at h; simp [pyD, toP, PyData.canLay0, PyData.depth, h]
  | 0, .tup _, h => by simp [okP] at h
  | n + 1, .tup ds, h => by
    simp only [okP] at h
    obtain ⟨h1, h2, h3⟩ := okPL_py (S := S) n ds h
    refine ⟨by show (ds.mapM (pyD S (n + 1))).map PyData.tuple = _; rw [h1]; rfl, by simpa only [toP, PyData.canLay0] using h2, by simp only [toP, PyData.depth]; omega⟩
  | 0, .rol _, h => by simp [okP] at h
  | n + 1, .rol ds, h => by
    simp only [okP] at h
    obtain ⟨h1, h2, h3⟩ := okPL_py (S := S) n ds h
    refine ⟨by show (ds.mapM (pyD S (n + 1))).map PyData.list = _; rw [h1]; rfl, by simpa only [toP, PyData.canLay0] using h2, by simp only [toP, PyData.depth]; omega⟩
  | n, .ref _, h => by cases n <;> simp [okP] at h
  | n, .ins _ _, h => by cases n <;> simp [okP] at h
theorem okPL_py {S : Store} : ∀ (n : Nat) (ds : List D), okPL n ds = true → ds.mapM (pyD S (n + 1)) = some (toPL ds) ∧ PyData.canLayAll0 (toPL ds) = true ∧ PyData.depthAll (toPL ds) ≤ n
  | n, [], _ => by simp [toPL, PyData.canLayAll0, PyData.depthAll]
  | n, d :: ds, h => by
    simp only [okPL, Bool.and_eq_true] at h
    obtain ⟨a1, a2, a3⟩ := okP_py (S := S) n d h.1
    obtain ⟨b1, b2, b3⟩ := okPL_py (S := S) n ds h.2
    refine ⟨?_, by simp [toPL, PyData.canLayAll0, a2, b2], by simp only [toPL, PyData.depthAll]; omega⟩
    rw [List.mapM_cons, a1, b1]
    rfl
end
mutual
theorem okP_up : ∀ (n : Nat) (d : D), okP n d = true → okP (n + 1) d = true
  | n, .non, _ => by simp [okP]
  | n, .bl _, _ => by simp [okP]
  | n, .int _, _ => by simp [okP]
  | n, .str x, h => by simpa [okP] using h
  | 0, .tup _, h => by simp [okP] at h
  | n + 1, .tup ds, h => by
    simp only [okP] at h ⊢
    exact okPL_up n ds h
  | 0, .rol _, h => by simp [okP] at h
  | n + 1, .rol ds, h => by
    simp only [okP] at h ⊢
    exact okPL_up n ds h
  | n, .ref _, h => by cases n <;> simp [okP] at h
  | n, .ins _ _, h => by cases n <;> simp [okP] at h
theorem okPL_up : ∀ (n : Nat) (ds : List D), okPL n ds = true → okPL (n + 1) ds = true
  | n, [], _ => by simp [okPL]
  | n, d :: ds, h => by
    simp only [okPL, Bool.and_eq_true] at h ⊢
    exact ⟨okP_up n d h.1, okPL_up n ds h.2⟩
end
/-! without flags: equal as data, equal -/
mutual
def okC : D → Bool
  | .non => true
  | .int _ => true
  | .str _ => true
  | .tup ds => okCL ds
  | _ => false
def okCL : List D → Bool
  | [] => true
  | d :: ds => okC d && okCL ds
end
mutual
theorem eqv_c : ∀ (x y : D), okC x = true → okC y = true → (PyData.eqv (toP x) (toP y) = true ↔ x = y)
  | .non, y, _, h => by cases y <;> simp [okC] at h <;> simp [toP, PyData.eqv]
  | .int i, y, _, h => by cases y <;> simp [okC] at h <;> simp [toP, PyData.eqv]
  | .str i, y, _, h => by cases y <;> simp [okC] at h <;> simp [toP, PyData.eqv]
  | .tup ds, y, hx, h => by
    cases y with
    | tup es =>
      simp only [okC] at hx h
      simp only [toP, PyData.eqv, D.tup.injEq]
      exact eqv_cl ds es hx h
    | non => simp [toP, PyData.eqv]
    | int i => simp [toP, PyData.eqv]
    | str i => simp [toP, PyData.eqv]
    | bl b => simp [okC] at h
    | rol b => simp [okC] at h
    | ref b => simp [okC] at h
    | ins b c => simp [okC] at h
  | .bl _, y, h, _ => by simp [okC] at h
  | .rol _, y, h, _ => by simp [okC] at h
  | .ref _, y, h, _ => by simp [okC] at h
  | .ins _ _, y, h, _ => by simp [okC] at h
theorem eqv_cl : ∀ (xs ys : List D), okCL xs = true → okCL ys = true → (PyData.eqvAll (toPL xs) (toPL ys) = true ↔ xs = ys)
  | [], [], _, _ => by simp [toPL, PyData.eqvAll]
  | [], y :: ys, _, _ => by simp [toPL, PyData.eqvAll]
  | x :: xs, [], _, _ => by simp [toPL, PyData.eqvAll]
  | x :: xs, y :: ys, hx, hy => by
    simp only [okCL, Bool.and_eq_true] at hx hy
    simp only [toPL, PyData.eqvAll, Bool.and_eq_true, List.cons.injEq]
    rw [eqv_c x y hx.1 hy.1, eqv_cl xs ys hx.2 hy.2]
end
end Lk

set_option Elab.async false
set_option linter.all false
set_option autoImplicit false
set_option maxRecDepth 100000
set_option maxHeartbeats 4000000
/-! a result told outright; loops written out; lcm, min, max of lists -/
namespace Lk
open PySem L2
section
variable {Q : D → Store → Prop} {X : XP} {P : Po} {S : Store} {env : Env}
end
end Lk
namespace Lk
open PySem L2
section
variable {QS : Src → Store → Prop} {X : XP} {S : Store} {env : Env}
end
end Lk

set_option Elab.async false
set_option linter.all false
set_option autoImplicit false
set_option maxRecDepth 100000
set_option maxHeartbeats 4000000
/-! the calculus: comprehensions of two fors, dicts, parallel assignment, tuple(range), pop(i), except without a name -/
namespace Lk
open PySem L2
section
variable {env : Env} {S : Store} {Q : D → Store → Prop} {QE : Env → Store → Prop} {X : XP} {P : Po} {d : D}
/-! dicts -/
/-! what a dict holds -/
/-! the rest -/
end
end Lk

set_option Elab.async false
set_option linter.all false
set_option autoImplicit false
set_option maxRecDepth 100000
set_option maxHeartbeats 4000000
/-! a value's truth; min and max over lists and tuples of plain data -/
namespace Lk
open PySem PySem.Spec PyProof.Rows L2
open PySem.W (dataLt AlikeAll minD maxD alike dataLt_int min_list_data max_list_data min_tuple_data max_tuple_data readsAll_at)
section
variable {Γ : G} {W : WX} {X : Cx} {f : List Addr} {H : Hp} {S : Store} {a : Expr} {ma : ME}
/-! ### min, max of plain data -/
end
end Lk

set_option Elab.async false
set_option linter.all false
set_option autoImplicit false
set_option maxRecDepth 100000
set_option maxHeartbeats 4000000
/-! list(range), in over ints, what stays of a store -/
namespace Lk
open PySem L2
section
variable {env : Env} {S : Store} {Q : D → Store → Prop} {X : XP}
end
section
variable {S S' S'' : Store}
end
end Lk

set_option Elab.async false
set_option linter.all false
set_option autoImplicit false
set_option maxRecDepth 100000
set_option maxHeartbeats 4000000
/-! t[::-1] of a tuple -/
namespace Lk
open PySem PySem.Spec PyProof.Rows L2 HT
section
variable {prog : Program} {w : World} {A : Around} {E : Value → Shared → Prop} {s : Shared}
end
section
variable {Γ : G} {W : WX} {X : Cx} {f : List Addr} {S : Store} {H : Hp} {e : Expr} {p1 p2 p3 pos : Pos} {me : ME}
end
section
variable {env : Env} {S : Store} {Q : D → Store → Prop} {X : XP}
end
end Lk

set_option Elab.async false
set_option linter.all false
set_option autoImplicit false
set_option maxRecDepth 100000
set_option maxHeartbeats 4000000
/-! not x, by the truth of any value *)
-/
namespace Lk
open PySem PySem.Spec PyProof.Rows L2
section
variable {Γ : G} {W : WX} {X : Cx} {f : List Addr} {H : Hp} {S : Store} {a : Expr} {ma : ME} {pos : Pos} {ta : TE}
end
end Lk

/-! The mirror of law_k20_moves_kept_or_broken, by gen.py. -/
set_option linter.all false
set_option autoImplicit false
set_option maxRecDepth 1000000
set_option maxHeartbeats 40000000
set_option Elab.async false
namespace Mi_k20
open PySem PySem.Spec PyProof.Rows L2 Lk
def top (i : Nat) : Stmt := PySem.Challenge.pw_likespans_k20_moves_kept_or_broken.main.body.getD i (.Pass ⟨0, 0, 0, 0⟩)
def flds : Str → List Str := fun C => if C = "Ratio" then ["top", "bottom"] else if C = "Net" then ["beat", "events", "spans"] else []
def xfl : Str → List Str := fun C => if C = "BadBeat" then ["beat"] else if C = "BadEvents" then ["events"] else if C = "BadSpan" then ["index"] else if C = "BadNumber" then ["value"] else if C = "Broken" then ["index"] else []
def af : List Str := ["beat", "bottom", "events", "spans", "top"]
def cs : List Str := ["Ratio", "Net"]
abbrev Gm (K : PySem.W.Frag) : G := { K := K, c := He.ga K, flds := flds, af := af, xfl := xfl }
/-! ### what the head is asked -/
def fn : List He.DefD := [
  ⟨("_law_source", none), "_law_source", "_law_source", defArgs (top 46), defBody (top 46), defScope (top 46), [], []⟩,
  ⟨("is_integer", none), "is_integer", "is_integer", defArgs (top 12), defBody (top 12), defScope (top 12), [], []⟩,
  ⟨("is_number", none), "is_number", "is_number", defArgs (top 14), defBody (top 14), defScope (top 14), [], []⟩,
  ⟨("top_of", none), "top_of", "top_of", defArgs (top 15), defBody (top 15), defScope (top 15), [], []⟩,
  ⟨("bottom_of", none), "bottom_of", "bottom_of", defArgs (top 16), defBody (top 16), defScope (top 16), [], []⟩,
  ⟨("Ratio", some "__eq__"), "__eq__", "Ratio.__eq__", defArgs (inClass (top 20) 8), defBody (inClass (top 20) 8), defScope (inClass (top 20) 8), [], []⟩,
  ⟨("Net", some "__eq__"), "__eq__", "Net.__eq__", defArgs (inClass (top 27) 1), defBody (inClass (top 27) 1), defScope (inClass (top 27) 1), [], []⟩,
  ⟨("_law_draw", none), "_law_draw", "_law_draw", defArgs (top 47), defBody (top 47), defScope (top 47), [], []⟩,
  ⟨("_law_beat", none), "_law_beat", "_law_beat", defArgs (top 51), defBody (top 51), defScope (top 51), [], []⟩,
  ⟨("_law_parts", none), "_law_parts", "_law_parts", defArgs (top 52), defBody (top 52), defScope (top 52), [], []⟩,
  ⟨("_law_order", none), "_law_order", "_law_order", defArgs (top 50), defBody (top 50), defScope (top 50), [], []⟩,
  ⟨("_law_span", none), "_law_span", "_law_span", defArgs (top 55), defBody (top 55), defScope (top 55), [], []⟩,
  ⟨("_law_spans", none), "_law_spans", "_law_spans", defArgs (top 56), defBody (top 56), defScope (top 56), [], []⟩,
  ⟨("is_below", none), "is_below", "is_below", defArgs (top 13), defBody (top 13), defScope (top 13), [], []⟩,
  ⟨("is_span", none), "is_span", "is_span", defArgs (top 29), defBody (top 29), defScope (top 29), [], []⟩,
  ⟨("spans_fault", none), "spans_fault", "spans_fault", defArgs (top 30), defBody (top 30), defScope (top 30), [], []⟩,
  ⟨("are_events", none), "are_events", "are_events", defArgs (top 28), defBody (top 28), defScope (top 28), [], []⟩,
  ⟨("Net", some "__init__"), "__init__", "Net.__init__", defArgs (inClass (top 27) 0), defBody (inClass (top 27) 0), defScope (inClass (top 27) 0), [], []⟩,
  ⟨("Ratio", some "__init__"), "__init__", "Ratio.__init__", defArgs (inClass (top 20) 0), defBody (inClass (top 20) 0), defScope (inClass (top 20) 0), [], []⟩,
  ⟨("_law_odd", none), "_law_odd", "_law_odd", defArgs (top 49), defBody (top 49), defScope (top 49), [], []⟩,
  ⟨("_law_moment", none), "_law_moment", "_law_moment", defArgs (top 53), defBody (top 53), defScope (top 53), [], []⟩,
  ⟨("plain", none), "plain", "plain", defArgs (top 18), defBody (top 18), defScope (top 18), [], []⟩,
  ⟨("Ratio", some "rest"), "rest", "Ratio.rest", defArgs (inClass (top 20) 14), defBody (inClass (top 20) 14), defScope (inClass (top 20) 14), [], []⟩,
  ⟨("rest_of", none), "rest_of", "rest_of", defArgs (top 19), defBody (top 19), defScope (top 19), [], []⟩,
  ⟨("Ratio", some "__add__"), "__add__", "Ratio.__add__", defArgs (inClass (top 20) 1), defBody (inClass (top 20) 1), defScope (inClass (top 20) 1), [], []⟩,
  ⟨("Ratio", some "__sub__"), "__sub__", "Ratio.__sub__", defArgs (inClass (top 20) 3), defBody (inClass (top 20) 3), defScope (inClass (top 20) 3), [], []⟩,
  ⟨("Ratio", some "__mul__"), "__mul__", "Ratio.__mul__", defArgs (inClass (top 20) 5), defBody (inClass (top 20) 5), defScope (inClass (top 20) 5), [], []⟩,
  ⟨("Ratio", some "__neg__"), "__neg__", "Ratio.__neg__", defArgs (inClass (top 20) 7), defBody (inClass (top 20) 7), defScope (inClass (top 20) 7), [], []⟩,
  ⟨("Ratio", some "__radd__"), "__radd__", "Ratio.__radd__", defArgs (inClass (top 20) 2), defBody (inClass (top 20) 2), defScope (inClass (top 20) 2), [], []⟩,
  ⟨("Ratio", some "__rsub__"), "__rsub__", "Ratio.__rsub__", defArgs (inClass (top 20) 4), defBody (inClass (top 20) 4), defScope (inClass (top 20) 4), [], []⟩,
  ⟨("Ratio", some "__rmul__"), "__rmul__", "Ratio.__rmul__", defArgs (inClass (top 20) 6), defBody (inClass (top 20) 6), defScope (inClass (top 20) 6), [], []⟩,
  ⟨("stepped", none), "stepped", "stepped", defArgs (top 42), defBody (top 42), defScope (top 42), [], []⟩,
  ⟨("reached", none), "reached", "reached", defArgs (top 34), defBody (top 34), defScope (top 34), [], []⟩,
  ⟨("below", none), "below", "below", defArgs (top 17), defBody (top 17), defScope (top 17), [], []⟩,
  ⟨("first_broken", none), "first_broken", "first_broken", defArgs (top 35), defBody (top 35), defScope (top 35), [], []⟩,
  ⟨("is_moment", none), "is_moment", "is_moment", defArgs (top 36), defBody (top 36), defScope (top 36), [], []⟩,
  ⟨("moments_fault", none), "moments_fault", "moments_fault", defArgs (top 37), defBody (top 37), defScope (top 37), [], []⟩,
  ⟨("is_timetable", none), "is_timetable", "is_timetable", defArgs (top 38), defBody (top 38), defScope (top 38), [], []⟩,
  ⟨("is_event", none), "is_event", "is_event", defArgs (top 32), defBody (top 32), defScope (top 32), [], []⟩,
  ⟨("is_block", none), "is_block", "is_block", defArgs (top 40), defBody (top 40), defScope (top 40), [], []⟩,
  ⟨("is_move", none), "is_move", "is_move", defArgs (top 41), defBody (top 41), defScope (top 41), [], []⟩,
  ⟨("as_plain", none), "as_plain", "as_plain", defArgs (top 43), defBody (top 43), defScope (top 43), [], []⟩,
  ⟨("moved", none), "moved", "moved", defArgs (top 44), defBody (top 44), defScope (top 44), [], []⟩,
  ⟨("_law_integer", none), "_law_integer", "_law_integer", defArgs (top 48), defBody (top 48), defScope (top 48), [], []⟩,
  ⟨("_law_told", none), "_law_told", "_law_told", defArgs (top 59), defBody (top 59), defScope (top 59), [], []⟩,
  ⟨("_law_block", none), "_law_block", "_law_block", defArgs (top 62), defBody (top 62), defScope (top 62), [], []⟩,
  ⟨("_law_changed", none), "_law_changed", "_law_changed", defArgs (top 63), defBody (top 63), defScope (top 63), [], []⟩,
  ⟨("_law_first_broken", none), "_law_first_broken", "_law_first_broken", defArgs (top 60), defBody (top 60), defScope (top 60), [], []⟩,
  ⟨("_law_is_move", none), "_law_is_move", "_law_is_move", defArgs (top 61), defBody (top 61), defScope (top 61), [], []⟩,
  ⟨("_law_scaled", none), "_law_scaled", "_law_scaled", defArgs (top 57), defBody (top 57), defScope (top 57), [], []⟩,
  ⟨("_law_all_scaled", none), "_law_all_scaled", "_law_all_scaled", defArgs (top 58), defBody (top 58), defScope (top 58), [], []⟩,
  ⟨("_law_right", none), "_law_right", "_law_right", defArgs (top 64), defBody (top 64), defScope (top 64), [], []⟩,
  ⟨("_law_handed", none), "_law_handed", "_law_handed", defArgs (top 54), defBody (top 54), defScope (top 54), [], []⟩,
  ⟨("law", none), "law", "law", defArgs (top 65), defBody (top 65), defScope (top 65), [], []⟩,
  ⟨("BadBeat", some "__init__"), "__init__", "BadBeat.__init__", defArgs (inClass (top 5) 0), defBody (inClass (top 5) 0), defScope (inClass (top 5) 0), [], []⟩,
  ⟨("BadEvents", some "__init__"), "__init__", "BadEvents.__init__", defArgs (inClass (top 6) 0), defBody (inClass (top 6) 0), defScope (inClass (top 6) 0), [], []⟩,
  ⟨("BadSpan", some "__init__"), "__init__", "BadSpan.__init__", defArgs (inClass (top 7) 0), defBody (inClass (top 7) 0), defScope (inClass (top 7) 0), [], []⟩,
  ⟨("BadNumber", some "__init__"), "__init__", "BadNumber.__init__", defArgs (inClass (top 4) 0), defBody (inClass (top 4) 0), defScope (inClass (top 4) 0), [], []⟩,
  ⟨("BadTimetable", some "__init__"), "__init__", "BadTimetable.__init__", defArgs (inClass (top 8) 0), defBody (inClass (top 8) 0), defScope (inClass (top 8) 0), [], []⟩,
  ⟨("BadMove", some "__init__"), "__init__", "BadMove.__init__", defArgs (inClass (top 9) 0), defBody (inClass (top 9) 0), defScope (inClass (top 9) 0), [], []⟩,
  ⟨("Broken", some "__init__"), "__init__", "Broken.__init__", defArgs (inClass (top 10) 0), defBody (inClass (top 10) 0), defScope (inClass (top 10) 0), [], []⟩]
def fa : Qs := [
  fun K => (He.Fa.free "len").ok K,
  fun K => (He.Fa.free "int").ok K,
  fun K => (He.Fa.free "bool").ok K,
  fun K => isB (Gm K) cs (.bi "bool"),
  fun K => (He.Fa.free "isinstance").ok K,
  fun K => isB (Gm K) cs (.bi "int"),
  fun K => (He.Fa.glo "Ratio").ok K,
  fun K => isB (Gm K) cs (.own "Ratio"),
  fun K => (He.Fa.glo "is_integer").ok K,
  fun K => (He.Fa.glo "is_number").ok K,
  fun K => (He.Fa.glo "bottom_of").ok K,
  fun K => (He.Fa.glo "top_of").ok K,
  fun K => (He.Fa.glo "Net").ok K,
  fun K => isB (Gm K) cs (.own "Net"),
  fun K => (He.Fa.glo "_law_draw").ok K,
  fun K => (He.Fa.free "range").ok K,
  fun K => (He.Fa.free "min").ok K,
  fun K => (He.Fa.free "max").ok K,
  fun K => (He.Fa.glo "_law_order").ok K,
  fun K => (He.Fa.glo "_law_span").ok K,
  fun K => (He.Fa.free "tuple").ok K,
  fun K => isB (Gm K) cs (.bi "tuple"),
  fun K => (He.Fa.free "all").ok K,
  fun K => (He.Fa.glo "is_below").ok K,
  fun K => (He.Fa.int "MOST_HIGH" 2880).ok K,
  fun K => (He.Fa.int "MOST_SPANS" 60).ok K,
  fun K => (He.Fa.free "list").ok K,
  fun K => isB (Gm K) cs (.bi "list"),
  fun K => (He.Fa.free "enumerate").ok K,
  fun K => (He.Fa.glo "is_span").ok K,
  fun K => (He.Fa.int "MOST_EVENTS" 24).ok K,
  fun K => (He.Fa.int "LEAST_BEAT" 3).ok K,
  fun K => (He.Fa.int "MOST_BEAT" 1440).ok K,
  fun K => (He.Fa.glo "are_events").ok K,
  fun K => (He.Fa.glo "spans_fault").ok K,
  fun K => biB K "gcd" "math.gcd",
  fun K => (He.Fa.mkr "Ratio").ok K,
  fun K => (He.Fa.meth "Ratio" "rest").ok K,
  fun K => (He.Fa.glo "plain").ok K,
  fun K => (He.Fa.glo "rest_of").ok K,
  fun K => (He.Fa.glo "reached").ok K,
  fun K => (He.Fa.glo "below").ok K,
  fun K => (He.Fa.glo "is_moment").ok K,
  fun K => (He.Fa.glo "first_broken").ok K,
  fun K => (He.Fa.glo "moments_fault").ok K,
  fun K => (He.Fa.glo "is_event").ok K,
  fun K => (He.Fa.free "zip").ok K,
  fun K => (He.Fa.glo "is_block").ok K,
  fun K => (He.Fa.glo "is_timetable").ok K,
  fun K => (He.Fa.glo "is_move").ok K,
  fun K => (He.Fa.glo "as_plain").ok K,
  fun K => (He.Fa.glo "stepped").ok K,
  fun K => (He.Fa.glo "moved").ok K,
  fun K => (He.Fa.glo "BadTimetable").ok K,
  fun K => (He.Fa.glo "BadMove").ok K,
  fun K => (He.Fa.glo "Broken").ok K,
  fun K => (He.Fa.glo "_law_integer").ok K,
  fun K => (He.Fa.glo "SpansError").ok K,
  fun K => (He.Fa.glo "_law_odd").ok K,
  fun K => (He.Fa.glo "_law_scaled").ok K,
  fun K => (He.Fa.glo "_law_told").ok K,
  fun K => (He.Fa.glo "_law_first_broken").ok K,
  fun K => (He.Fa.glo "_law_is_move").ok K,
  fun K => (He.Fa.glo "_law_all_scaled").ok K,
  fun K => (He.Fa.glo "_law_source").ok K,
  fun K => (He.Fa.glo "_law_beat").ok K,
  fun K => (He.Fa.glo "_law_parts").ok K,
  fun K => (He.Fa.glo "_law_moment").ok K,
  fun K => (He.Fa.glo "_law_spans").ok K,
  fun K => (He.Fa.mkr "Net").ok K,
  fun K => (He.Fa.glo "_law_block").ok K,
  fun K => (He.Fa.glo "_law_changed").ok K,
  fun K => (He.Fa.glo "_law_handed").ok K,
  fun K => (He.Fa.glo "_law_right").ok K,
  fun K => (He.Fa.glo "law").ok K,
  fun K => (He.Fa.glo "BadBeat").ok K,
  fun K => oexB K (He.ga K "BadBeat"),
  fun K => (He.Fa.meth "BadBeat" "__init__").ok K,
  fun K => noB K (He.ga K "BadBeat") "beat",
  fun K => (He.Fa.glo "BadEvents").ok K,
  fun K => oexB K (He.ga K "BadEvents"),
  fun K => (He.Fa.meth "BadEvents" "__init__").ok K,
  fun K => noB K (He.ga K "BadEvents") "events",
  fun K => (He.Fa.glo "BadSpan").ok K,
  fun K => oexB K (He.ga K "BadSpan"),
  fun K => (He.Fa.meth "BadSpan" "__init__").ok K,
  fun K => noB K (He.ga K "BadSpan") "index",
  fun K => (He.Fa.glo "BadNumber").ok K,
  fun K => oexB K (He.ga K "BadNumber"),
  fun K => (He.Fa.meth "BadNumber" "__init__").ok K,
  fun K => noB K (He.ga K "BadNumber") "value",
  fun K => oexB K (He.ga K "BadTimetable"),
  fun K => (He.Fa.meth "BadTimetable" "__init__").ok K,
  fun K => oexB K (He.ga K "BadMove"),
  fun K => (He.Fa.meth "BadMove" "__init__").ok K,
  fun K => oexB K (He.ga K "Broken"),
  fun K => (He.Fa.meth "Broken" "__init__").ok K,
  fun K => noB K (He.ga K "Broken") "index",
  fun K => excB K (He.ga K "BadBeat"),
  fun K => (He.Fa.exm "BadBeat" "SpansError" true).ok K,
  fun K => kitB (Gm K) "BadBeat" (.own "BadTimetable") false,
  fun K => kitB (Gm K) "BadBeat" (.own "BadMove") false,
  fun K => kitB (Gm K) "BadBeat" (.own "Broken") false,
  fun K => excB K (He.ga K "BadEvents"),
  fun K => (He.Fa.exm "BadEvents" "SpansError" true).ok K,
  fun K => kitB (Gm K) "BadEvents" (.own "BadTimetable") false,
  fun K => kitB (Gm K) "BadEvents" (.own "BadMove") false,
  fun K => kitB (Gm K) "BadEvents" (.own "Broken") false,
  fun K => excB K (He.ga K "BadSpan"),
  fun K => (He.Fa.exm "BadSpan" "SpansError" true).ok K,
  fun K => kitB (Gm K) "BadSpan" (.own "BadTimetable") false,
  fun K => kitB (Gm K) "BadSpan" (.own "BadMove") false,
  fun K => kitB (Gm K) "BadSpan" (.own "Broken") false,
  fun K => excB K (He.ga K "BadNumber"),
  fun K => (He.Fa.exm "BadNumber" "SpansError" true).ok K,
  fun K => kitB (Gm K) "BadNumber" (.own "BadTimetable") false,
  fun K => kitB (Gm K) "BadNumber" (.own "BadMove") false,
  fun K => kitB (Gm K) "BadNumber" (.own "Broken") false,
  fun K => excB K (He.ga K "BadTimetable"),
  fun K => (He.Fa.exm "BadTimetable" "SpansError" true).ok K,
  fun K => kitB (Gm K) "BadTimetable" (.own "BadTimetable") true,
  fun K => kitB (Gm K) "BadTimetable" (.own "BadMove") false,
  fun K => kitB (Gm K) "BadTimetable" (.own "Broken") false,
  fun K => excB K (He.ga K "BadMove"),
  fun K => (He.Fa.exm "BadMove" "SpansError" true).ok K,
  fun K => kitB (Gm K) "BadMove" (.own "BadTimetable") false,
  fun K => kitB (Gm K) "BadMove" (.own "BadMove") true,
  fun K => kitB (Gm K) "BadMove" (.own "Broken") false,
  fun K => excB K (He.ga K "Broken"),
  fun K => (He.Fa.exm "Broken" "SpansError" true).ok K,
  fun K => kitB (Gm K) "Broken" (.own "BadTimetable") false,
  fun K => kitB (Gm K) "Broken" (.own "BadMove") false,
  fun K => kitB (Gm K) "Broken" (.own "Broken") true,
  fun K => insB K (He.ga K "Ratio"),
  fun K => noB K (He.ga K "Ratio") "top",
  fun K => noB K (He.ga K "Ratio") "bottom",
  fun K => insB K (He.ga K "Net"),
  fun K => noB K (He.ga K "Net") "beat",
  fun K => noB K (He.ga K "Net") "events",
  fun K => noB K (He.ga K "Net") "spans",
  fun K => (He.Fa.meth "Ratio" "__eq__").ok K,
  fun K => nfB (Gm K) cs "Ratio",
  fun K => ownNeB K (He.ga K "Ratio") (He.ma K (He.ga K "Ratio") "__eq__"),
  fun K => (He.Fa.meth "Net" "__eq__").ok K,
  fun K => nfB (Gm K) cs "Net",
  fun K => ownNeB K (He.ga K "Net") (He.ma K (He.ga K "Net") "__eq__"),
  fun K => (He.Fa.meth "Ratio" "__add__").ok K,
  fun K => (He.Fa.meth "Ratio" "__sub__").ok K,
  fun K => (He.Fa.meth "Ratio" "__mul__").ok K,
  fun K => (He.Fa.meth "Ratio" "__neg__").ok K,
  fun K => (He.Fa.meth "Ratio" "__radd__").ok K,
  fun K => (He.Fa.meth "Ratio" "__rsub__").ok K,
  fun K => (He.Fa.meth "Ratio" "__rmul__").ok K,
  fun K => opB (Gm K) "Ratio" "add",
  fun K => opB (Gm K) "Ratio" "sub",
  fun K => opB (Gm K) "Ratio" "mul"]
structure Txt (K : PySem.W.Frag) (mg : Str → Option Value) : Prop where
  says : SaysL fa fn K
  hp : ∃ h : Heap, K.In h ∧ h.Ns mainGlobals mg
section
variable {P : Program} {w : World} {K : PySem.W.Frag} {mg : Str → Option Value} {base : Heap}
/-! ### each def keeps its mirror's promise -/
end
/-! ### the head -/
def loose0 : List Str := ["_wall", "__name__", "SpansError", "BadNumber", "BadBeat", "BadEvents", "BadSpan", "BadTimetable", "BadMove", "Broken", "is_integer", "is_below", "is_number", "top_of", "bottom_of", "below", "plain", "rest_of", "Ratio", "LEAST_BEAT", "MOST_BEAT", "MOST_EVENTS", "MOST_SPANS", "MOST_HIGH", "Net", "are_events", "is_span", "spans_fault", "is_event", "reached"]
def loose1 : List Str := ["first_broken", "is_moment", "moments_fault", "is_timetable", "is_block", "is_move", "stepped", "as_plain", "moved", "_law_source", "_law_draw", "_law_integer", "_law_odd", "_law_order", "_law_beat", "_law_parts", "_law_moment", "_law_handed", "_law_span", "_law_spans", "_law_scaled", "_law_all_scaled", "_law_told", "_law_first_broken", "_law_is_move", "_law_block", "_law_changed", "_law_right"]
def loose : List Str := loose0 ++ loose1
abbrev RowR : PySem.W.OpenRow := PySem.W.OpenLaw.row PySem.Challenge.rw_likespans_k20_moves_kept_or_broken
abbrev hk : PySem.W.Hook := hookL 4 fa fn
def ob (s : PySem.W.SharedT) : He.AlD := obsLG 4 fa fn (HandSHeadRun.getT s)
theorem run (w : World) : HandSHeadRun.RunEqI RowR (PySem.W.view RowR.prog [0, 65]) hk ob 12000 loose w := by
  unfold HandSHeadRun.RunEqI
  kernel_rfl
end Mi_k20
set_option Elab.async false
set_option Elab.async false
set_option linter.all false
set_option autoImplicit false
set_option maxRecDepth 100000
set_option maxHeartbeats 2000000
/-! Data by value over the hand layer: D (tuples and instances by value, lists and dicts by their number in a store), and what evaluates to what. -/
namespace Lk
open PySem PySem.Spec PyProof.Rows L2

section
variable (Γ : G) (f : List Addr) (H : Hp)
end
section
variable {Γ : G} {f f' f'' : List Addr} {H H' H'' : Hp}
theorem Keep.refl : Keep Γ H H := ⟨fun _ _ h => h, fun _ _ _ h => h, fun _ _ h => h, fun _ a dx fs h => ⟨fs, h, fun _ _ h => h, fun _ h => .inl h⟩⟩
theorem Up.refl : Up Γ f H f H := ⟨⟨[], by simp⟩, .refl⟩
end
/-! no number from n on stands in it -/
section
variable {Γ : G} {f f' : List Addr} {H H' : Hp}
end
end Lk

set_option Elab.async false
set_option linter.all false
set_option autoImplicit false
set_option maxRecDepth 100000
set_option maxHeartbeats 2000000
namespace Lk
open PySem PySem.Spec PyProof.Rows L2

section
variable {Γ : G} {f f' f'' : List Addr} {H H' H'' : Hp} {S S' : Store} {α β : Type}
theorem RelS.mem {a : Addr} (r : RelS Γ f S H) (h : a ∈ f) : ∃ u, H a = some u := by
  obtain ⟨n, hn, e⟩ := List.getElem_of_mem h
  have hs : n < S.length := by rw [← r.len]; exact hn
  obtain ⟨b, hb, ho⟩ := r.ob n S[n] (List.getElem?_eq_getElem hs)
  rw [List.getElem?_eq_getElem hn] at hb
  cases hb
  rw [← e]
  exact ho.at
theorem RelS.fresh {p : Addr} (r : RelS Γ f S H) (h : H p = none) : p ∉ f := fun z => by
  obtain ⟨u, e⟩ := r.mem z
  rw [h] at e
  cases e
theorem Keep.new {p : Addr} {o : HO} (h : H p = none) : Keep Γ H (upd H p o) :=
  ⟨fun a xs e => by rw [upd_ne (ne_of_none e h)]; exact e, fun a _ _ e => by rw [upd_ne (ne_of_none e h)]; exact e, fun a _ e => by rw [upd_ne (ne_of_none e h)]; exact e, fun C a dx fs e => ⟨fs, by rw [upd_ne (ne_of_none e h)]; exact e, fun _ _ q => q, fun _ q => .inl q⟩⟩
/-- what may be changed: no tuple, nothing frozen, no instance -/
def Chg : HO → Prop
  | .tup _ => False
  | .frz _ _ => False
  | .ins _ _ _ => False
  | .xd _ => False
  | _ => True
theorem Keep.chg {p : Addr} {o u : HO} (h : H p = some u) (c : Chg u) : Keep Γ H (upd H p o) := by
  have ne : ∀ a w, H a = some w → ¬ Chg w → a ≠ p := fun a w e n z => by
    rw [z, h] at e
    cases e
    exact n c
  exact ⟨fun a xs e => by rw [upd_ne (ne a _ e id)]; exact e, fun a _ _ e => by rw [upd_ne (ne a _ e id)]; exact e, fun a _ e => by rw [upd_ne (ne a _ e id)]; exact e, fun C a dx fs e => ⟨fs, by rw [upd_ne (ne a _ e id)]; exact e, fun _ _ q => q, fun _ q => .inl q⟩⟩
theorem Up.new {p : Addr} {o : HO} (h : H p = none) : Up Γ f H f (upd H p o) := ⟨⟨[], by simp⟩, .new h⟩
theorem Up.alloc {p : Addr} {o : HO} (h : H p = none) : Up Γ f H (f ++ [p]) (upd H p o) := ⟨⟨[p], rfl⟩, .new h⟩
theorem Up.chg {p : Addr} {o u : HO} (h : H p = some u) (c : Chg u) : Up Γ f H f (upd H p o) := ⟨⟨[], by simp⟩, .chg h c⟩
theorem RelS.newT {p : Addr} {o : HO} (r : RelS Γ f S H) (h : H p = none) : RelS Γ f S (upd H p o) :=
  ⟨r.len, r.nd, fun n b e => by
    obtain ⟨a, ha, ho⟩ := r.ob n b e
    obtain ⟨u, hu⟩ := ho.at
    exact ⟨a, ha, ho.move (.new h) (upd_ne (ne_of_none hu h))⟩, fun a i C ds o e => (r.xc a i C ds o e).up (.new h)⟩
theorem RelS.alloc {p : Addr} {o : HO} {b : Ob} (r : RelS Γ f S H) (h : H p = none) (hb : ROb Γ (f ++ [p]) (upd H p o) b p) : RelS Γ (f ++ [p]) (S ++ [b]) (upd H p o) :=
  ⟨by rw [List.length_append, List.length_append, r.len]; rfl, by
    rw [List.nodup_append]
    refine ⟨r.nd, by simp, fun a ha b hb e => ?_⟩
    have : b = p := by simpa using hb
    exact r.fresh h (by rw [← this, ← e]; exact ha), fun n c e => by
    by_cases hn : n < S.length
    · rw [List.getElem?_append_left hn] at e
      obtain ⟨a, ha, ho⟩ := r.ob n c e
      obtain ⟨u, hu⟩ := ho.at
      exact ⟨a, (Up.alloc (Γ := Γ) (o := o) h).at ha, ho.move (.alloc h) (upd_ne (ne_of_none hu h))⟩
    · rw [List.getElem?_append_right (Nat.le_of_not_lt hn)] at e
      have z : n - S.length = 0 := by
        cases q : n - S.length with
        | zero => rfl
        | succ k => rw [q] at e; cases e
      rw [z] at e
      cases e
      have en : n = f.length := by rw [r.len]; omega
      exact ⟨p, by rw [en]; simp, hb⟩, fun a i C ds o e => (r.xc a i C ds o e).up (.alloc h)⟩
/-- a slot whose value the mirror does not know -/
theorem RelE.miss {env : Env} {σ : L2.St} (hx : Γ.xc = none) (r : RelE Γ f H env σ) (i : Nat) (x : Option V) : RelE Γ f H (env.set i none) (σ.set i x) := ⟨by rw [List.length_set, List.length_set]; exact r.1, fun j e q => by
  by_cases hj : j = i
  · subst hj
    have hl : j < env.length := by
      have := (List.getElem?_eq_some_iff.mp q).1
      rwa [List.length_set] at this
    rw [List.getElem?_set_self hl] at q
    cases q
  · rw [List.getElem?_set_ne (Ne.symm hj)] at q
    obtain ⟨v', h1, h2⟩ := r.2.1 j e q
    exact ⟨v', by rw [List.getElem?_set_ne (Ne.symm hj)]; exact h1, h2⟩, fun a j C ds o e => by
  rw [hx] at e
  cases e⟩

def tT (Γ : G) (W : WX) (m : MT) : TT := fun σ H Q => ∃ env S f, RelS Γ f S H ∧ RelE Γ f H env σ ∧ Wp Γ W σ f H (fun _ _ a b => a = b) Q (m env S)
def tS (Γ : G) (W : WX) (m : MS) : TS := fun D σ H => ∃ env S f, RelS Γ f S H ∧ RelE Γ f H env σ ∧ WpS Γ W f H D (m env S)
end
/-- readings that ask less -/
theorem PE.imp {X : Cx} {e : Expr} {t t' : TE} (h : PE X e t) (i : ∀ σ H Q, t' σ H Q → t σ H Q) : PE X e t' := ⟨fun pins s σ H Q I q => h.run pins s σ H Q I (i σ H Q q)⟩
theorem PT.imp {X : Cx} {e : Expr} {t t' : TT} (h : PT X e t) (i : ∀ σ H Q, t' σ H Q → t σ H Q) : PT X e t' := ⟨fun pins s σ H Q I q => h.run pins s σ H Q I (i σ H Q q)⟩
theorem PW.imp {X : Cx} {e : Expr} {t t' : TT} (h : PW X e t) (i : ∀ σ H Q, t' σ H Q → t σ H Q) : PW X e t' := ⟨fun wh pins s σ H Q I q => h.run wh pins s σ H Q I (i σ H Q q)⟩
theorem PA.imp {X : Cx} {e : List Expr} {t t' : TA} (h : PA X e t) (i : ∀ σ H Q, t' σ H Q → t σ H Q) : PA X e t' := ⟨fun pos pins s σ H Q I q => h.run pos pins s σ H Q I (i σ H Q q)⟩
theorem PS.imp {X : Cx} {e : Stmt} {t t' : TS} (h : PS X e t) (i : ∀ D σ H, t' D σ H → t D σ H) : PS X e t' := ⟨fun pins s σ H D I q => h.run pins s σ H D I (i D σ H q)⟩
theorem PSs.imp {X : Cx} {e : List Stmt} {t t' : TS} (h : PSs X e t) (i : ∀ D σ H, t' D σ H → t D σ H) : PSs X e t' := ⟨fun pins s σ H D I q => h.run pins s σ H D I (i D σ H q)⟩
end Lk

set_option Elab.async false
set_option linter.all false
set_option autoImplicit false
set_option maxRecDepth 100000
set_option maxHeartbeats 2000000
namespace Lk
open PySem PySem.Spec PyProof.Rows L2

/-! ### the mirror's words: expressions -/
theorem lim_eq : sizeLine = lim := by decide
/-! ### statements -/
def RS.seq (r : RS) (k : Env → Store → RS) : RS := match r with
  | .nx e S => k e S
  | r => r
def mSeq (a b : MS) : MS := fun env S => (a env S).seq b
section
variable {Γ : G} {W : WX} {X : Cx} {f : List Addr} {H : Hp} {S : Store} {a b c : Expr} {es : List Expr} {ma mb mc : ME} {mt mu : MT} {mr : MA} {pos pos' : Pos}
/-! ### names, constants -/
theorem q_var (i : Nat) {x : Str} (hN : X.N[i]? = some x := by rfl) (hv : Vis X.env.scope x := by first | exact Or.inl rfl | exact Or.inr (Or.inl rfl) | exact Or.inr (Or.inr rfl)) (hd : (x == ("__debug__" : Str)) = false := by decide)
    (hcd : (x == ("__classdict__" : Str)) = false := by decide) : PE X (.Name x pos) (tE Γ W (mVar i)) := PE.imp (pv i hN hv hd hcd) fun σ H Q ⟨env, S, f, rs, re, h⟩ => by
  unfold mVar at h
  split at h
  · rename_i d e
    obtain ⟨v, hv, hr⟩ := re.2.1 i d e
    exact ⟨v, hv, h f H v .refl rs hr⟩
  · exact h.elim
theorem q_con {e : Expr} {v : V} {d : D} (h : PE X e (tC v)) (hr : ∀ f H, Rp Γ f H d v) : PE X e (tE Γ W (mC d)) := PE.imp h fun σ H Q ⟨env, S, f, rs, re, h⟩ => h f H v .refl rs (hr f H)
theorem q_int {i j} : PE X (.Constant (.int i) j pos) (tE Γ W (mC (.int i))) := q_con pe_int fun f H => by simp only [Rp]
theorem q_bl {i j} : PE X (.Constant (.bool i) j pos) (tE Γ W (mC (.bl i))) := q_con pe_bl fun f H => by simp only [Rp]
theorem q_non {j} : PE X (.Constant .none j pos) (tE Γ W (mC .non)) := q_con pe_non fun f H => by simp only [Rp]
theorem q_str {i j} : PE X (.Constant (.str i) j pos) (tE Γ W (mC (.str i))) := q_con pe_str fun f H => by simp only [Rp]
/-! ### argument lists, displays -/
theorem qa_nil : PA X [] (tA Γ W mNil) := PA.imp pa_nil fun σ H Q ⟨env, S, f, rs, re, h⟩ => h f H [] .refl rs (by simp only [RpL])
theorem qa_cons (ha : PE X a (tE Γ W ma)) (hr : PA X es (tA Γ W mr)) (hs : starEach (a :: es) X.env = (false, eval a X.env) :: starEach es X.env := by rfl) : PA X (a :: es) (tA Γ W (mCons ma mr)) :=
  PA.imp (pa_cons ha hr hs) fun σ H Q ⟨env, S, f, rs, re, h⟩ => ⟨env, S, f, rs, re, Wp.bindL h fun x S1 f1 H1 v u1 rs1 r1 h1 => ⟨env, S1, f1, rs1, re.up u1, Wp.bindL h1 fun xs S2 f2 H2 vs u2 rs2 r2 h2 => h2 f2 H2 (v :: vs) .refl rs2 (by
    simp only [RpL]
    exact ⟨v, vs, rfl, r1.up u2, r2⟩)⟩⟩
theorem Rp.tupI {a : Addr} {ds : List D} {vs : List V} (h : SqT Γ.K H a vs) (r : RpL Γ f H ds vs) : Rp Γ f H (.tup ds) (.ref a) := by
  simp only [Rp]
  exact ⟨a, vs, rfl, h, r⟩
theorem Rp.refI {a : Addr} {n : Nat} (h : f[n]? = some a) : Rp Γ f H (.ref n) (.ref a) := by
  simp only [Rp]
  exact ⟨a, h, rfl⟩
theorem q_tup {k} (hr : PA X es (tA Γ W mr)) : PE X (.Tuple es k pos) (tE Γ W (mTup mr)) := PE.imp (pe_tup hr) fun σ H Q ⟨env, S, f, rs, re, h⟩ => ⟨env, S, f, rs, re, Wp.bindL h fun ds S1 f1 H1 vs u1 rs1 r1 h1 => by
  by_cases hl : ds.length ≤ lim
  · rw [if_pos hl] at h1
    refine ⟨by rw [← r1.length, lim_eq]; exact hl, fun p hp => ?_⟩
    exact h1 f1 _ (.ref p) (.new hp) (rs1.newT hp) (Rp.tupI (SqT.of upd_same) (r1.up (.new hp)))
  · rw [if_neg hl] at h1
    exact h1.elim⟩
theorem q_lst (hr : PA X es (tA Γ W mr)) : PE X (.List es pos) (tE Γ W (mLst mr)) := PE.imp (pe_lst hr) fun σ H Q ⟨env, S, f, rs, re, h⟩ => ⟨env, S, f, rs, re, Wp.bindL h fun ds S1 f1 H1 vs u1 rs1 r1 h1 => by
  by_cases hl : ds.length ≤ lim
  · rw [if_pos hl] at h1
    refine ⟨by rw [← r1.length, lim_eq]; exact hl, fun p hp => ?_⟩
    exact h1 (f1 ++ [p]) _ (.ref p) (.alloc hp) (rs1.alloc hp ⟨vs, upd_same, r1.up (.alloc hp)⟩) (Rp.refI (by rw [← rs1.len]; simp))
  · rw [if_neg hl] at h1
    exact h1.elim⟩
/-! ### operators by values -/
def OpOk (Γ : G) (r : R2) (g : D → D → Store → R D) : Prop := ∀ (W : WX) (σ : L2.St) (f : List Addr) (S : Store) (H : Hp) (x y : D) (v u : V) (Q : VK), RelS Γ f S H → Rp Γ f H x v → Rp Γ f H y u → Wp Γ W σ f H (Rp Γ) Q (g x y S) → r v u H Q
theorem two {r : R2} {g : D → D → Store → R D} (hg : OpOk Γ r g) {σ : L2.St} {H : Hp} {Q : VK} (h : tE Γ W (m2 g ma mb) σ H Q) : tOp r (tE Γ W ma) (tE Γ W mb) σ H Q := by
  obtain ⟨env, S, f, rs, re, h⟩ := h
  exact ⟨env, S, f, rs, re, Wp.bindL h fun x S1 f1 H1 v u1 rs1 r1 h1 => ⟨env, S1, f1, rs1, re.up u1, Wp.bindL h1 fun y S2 f2 H2 u u2 rs2 r2 h2 => hg W σ f2 S2 H2 x y v u Q rs2 (r1.up u2) r2 h2⟩⟩
theorem q_op {op : Operator} {r : R2} {g : D → D → Store → R D} (ho : OpR X (binaryOp op) r) (hg : OpOk Γ r g) (ha : PE X a (tE Γ W ma)) (hb : PE X b (tE Γ W mb)) : PE X (.BinOp a op b pos) (tE Γ W (m2 g ma mb)) := PE.imp (pe_op ho ha hb) fun σ H Q => two hg
theorem q_cmp {op : CmpOp} {r : R2} {g : D → D → Store → R D} (ho : OpR X (compareOp op) r) (hg : OpOk Γ r g) (ha : PE X a (tE Γ W ma)) (hb : PE X b (tE Γ W mb)) (hm : behindInMarks op b = false) : PE X (.Compare a [op] [b] pos) (tE Γ W (m2 g ma mb)) := PE.imp (pe_cmpR ho ha hb hm) fun σ H Q => two hg
theorem q_ix {r : R2} {g : D → D → Store → R D} (ho : IxR X r) (hg : OpOk Γ r g) (ha : PE X a (tE Γ W ma)) (hb : PE X b (tE Γ W mb)) (hs : PlainIx b) : PE X (.Subscript a b pos) (tE Γ W (m2 g ma mb)) := PE.imp (pe_ix ho ha hb hs) fun σ H Q => two hg
def UnOk (Γ : G) (r : V → Hp → VK → Prop) (g : D → Store → R D) : Prop := ∀ (W : WX) (σ : L2.St) (f : List Addr) (S : Store) (H : Hp) (x : D) (v : V) (Q : VK), RelS Γ f S H → Rp Γ f H x v → Wp Γ W σ f H (Rp Γ) Q (g x S) → r v H Q
theorem one {r : V → Hp → VK → Prop} {g : D → Store → R D} (hg : UnOk Γ r g) {σ : L2.St} {H : Hp} {Q : VK} (h : tE Γ W (m1 g ma) σ H Q) : tUn r (tE Γ W ma) σ H Q := by
  obtain ⟨env, S, f, rs, re, h⟩ := h
  exact ⟨env, S, f, rs, re, Wp.bindL h fun x S1 f1 H1 v u1 rs1 r1 h1 => hg W σ f1 S1 H1 x v Q rs1 r1 h1⟩
theorem q_un {op : UnaryOp} {r : V → Hp → VK → Prop} {g : D → Store → R D} (ho : UnR X (unaryOp op) r) (hg : UnOk Γ r g) (ha : PE X a (tE Γ W ma)) : PE X (.UnaryOp op a pos) (tE Γ W (m1 g ma)) := PE.imp (pe_un ho ha) fun σ H Q => one hg
theorem q_callB {id : String} {x : Str} {p : Pos} {r : List V → Hp → VK → Prop} {g : List D → Store → R D} (hc : CallR X (.builtin id) r) (hg' : ArOk Γ r g) (hm : X.mg x = none) (hv : bootBuiltins x = some (.builtin id)) (ha : PA X (a :: es) (tA Γ W mr)) (hg : Gl X x := by rfl) (hn : x ≠ "__name__" := by decide) (hdb : (x == ("__debug__" : Str)) = false := by decide)
    (he : starEach (a :: es) X.env = (false, eval a X.env) :: starEach es X.env := by rfl) (hpl : (backTo pos (starEach es X.env)).any (·.1) = false := by rfl) : PE X (.Call (.Name x p) (a :: es) [] pos) (tE Γ W (mB g mr)) := PE.imp (pe_callB hc hg hm hv ha hn hdb he hpl) fun σ H Q => many hg'
theorem q_callTy {T : String} {x : Str} {p : Pos} {r : List V → Hp → VK → Prop} {g : List D → Store → R D} (hc : CallR X (.type T) r) (hg' : ArOk Γ r g) (hm : X.mg x = none) (hv : bootBuiltins x = some (.type T)) (ha : PA X (a :: es) (tA Γ W mr)) (hg : Gl X x := by rfl) (hn : x ≠ "__name__" := by decide) (hdb : (x == ("__debug__" : Str)) = false := by decide)
    (he : starEach (a :: es) X.env = (false, eval a X.env) :: starEach es X.env := by rfl) (hpl : (backTo pos (starEach es X.env)).any (·.1) = false := by rfl) : PE X (.Call (.Name x p) (a :: es) [] pos) (tE Γ W (mB g mr)) := PE.imp (pe_callTy hc hg hm hv ha hn hdb he hpl) fun σ H Q => many hg'
/-! ### tests -/
theorem asBL {σ : L2.St} {x : D} {v : V} {Q : Bool → Hp → Prop} (rs : RelS Γ f S H) (r : Rp Γ f H x v) (h : Wp Γ W σ f H (fun _ _ a b => a = b) Q (asB x S)) : ∃ c, v = .bl c ∧ Q c H := by
  cases x with
  | bl c =>
    simp only [Rp] at r
    exact ⟨c, r, h f H c .refl rs rfl⟩
  | _ => exact h.elim
theorem qt_val (ha : PE X a (tE Γ W ma)) (he : ∀ whole, isTrue a X.env whole = (do let v ← whole; standAt a.pos; holding [v] (truthy v)) := by intro _; rfl) : PT X a (tT Γ W (mTest ma)) := PT.imp (pt_val ha he) fun σ H Q ⟨env, S, f, rs, re, h⟩ =>
  ⟨env, S, f, rs, re, Wp.bindL h fun x S1 f1 H1 v u1 rs1 r1 h1 => asBL rs1 r1 h1⟩
theorem qt_cmp {op : CmpOp} {r : R2} {g : D → D → Store → R D} (ho : OpR X (compareOp op) r) (hg : OpOk Γ r g) (ha : PE X a (tE Γ W ma)) (hb : PE X b (tE Γ W mb)) (hm : behindInMarks op b = false) : PT X (.Compare a [op] [b] pos) (tT Γ W (mTest (m2 g ma mb))) := PT.imp (pt_cmpR ho ha hb hm) fun σ H Q ⟨env, S, f, rs, re, h⟩ => by
  refine two (Γ := Γ) (W := W) hg ⟨env, S, f, rs, re, Wp.bindL h fun x S1 f1 H1 v u1 rs1 r1 h1 => asBL rs1 r1 h1⟩
theorem qw_and1 (ha : PT X a (tT Γ W mt)) : PW X (.BoolOp .And [a] pos) (tT Γ W mt) := pw_and1 ha
theorem qw_or1 (ha : PT X a (tT Γ W mt)) : PW X (.BoolOp .Or [a] pos) (tT Γ W mt) := pw_or1 ha
theorem qw_and (ha : PT X a (tT Γ W mt)) (hb : PW X (.BoolOp .And (b :: es) pos) (tT Γ W mu)) : PW X (.BoolOp .And (a :: b :: es) pos) (tT Γ W (mAndT mt mu)) := PW.imp (pw_and ha hb) fun σ H Q ⟨env, S, f, rs, re, h⟩ => ⟨env, S, f, rs, re, Wp.bindL h fun x S1 f1 H1 v u1 rs1 r1 h1 => by
  subst r1
  cases x with
  | true => exact ⟨env, S1, f1, rs1, re.up u1, h1⟩
  | false => exact h1 f1 H1 false .refl rs1 rfl⟩
theorem qw_or (ha : PT X a (tT Γ W mt)) (hb : PW X (.BoolOp .Or (b :: es) pos) (tT Γ W mu)) : PW X (.BoolOp .Or (a :: b :: es) pos) (tT Γ W (mOrT mt mu)) := PW.imp (pw_or ha hb) fun σ H Q ⟨env, S, f, rs, re, h⟩ => ⟨env, S, f, rs, re, Wp.bindL h fun x S1 f1 H1 v u1 rs1 r1 h1 => by
  subst r1
  cases x with
  | false => exact ⟨env, S1, f1, rs1, re.up u1, h1⟩
  | true => exact h1 f1 H1 true .refl rs1 rfl⟩
theorem qt_not (ha : PT X a (tT Γ W mt)) : PT X (.UnaryOp .Not a pos) (tT Γ W (mNotT mt)) := PT.imp (pt_not ha) fun σ H Q ⟨env, S, f, rs, re, h⟩ => ⟨env, S, f, rs, re, Wp.bindL h fun x S1 f1 H1 v u1 rs1 r1 h1 => by
  subst r1
  exact h1 f1 H1 (!x) .refl rs1 rfl⟩
theorem q_one {op} (ha : PE X a (tE Γ W ma)) : PE X (.BoolOp op [a] pos) (tE Γ W ma) := pe_one ha
theorem q_and (ha : PE X a (tE Γ W ma)) (hb : PE X (.BoolOp .And (b :: es) pos) (tE Γ W mb)) : PE X (.BoolOp .And (a :: b :: es) pos) (tE Γ W (mAnd ma mb)) := PE.imp (pe_and ha hb) fun σ H Q ⟨env, S, f, rs, re, h⟩ => ⟨env, S, f, rs, re, Wp.bindL h fun x S1 f1 H1 v u1 rs1 r1 h1 => by
  cases x with
  | bl c =>
    simp only [Rp] at r1
    refine ⟨c, r1, ?_⟩
    cases c with
    | true => exact ⟨env, S1, f1, rs1, re.up u1, h1⟩
    | false => exact h1 f1 H1 (.bl false) .refl rs1 (by simp only [Rp])
  | _ => exact h1.elim⟩
theorem q_or (ha : PE X a (tE Γ W ma)) (hb : PE X (.BoolOp .Or (b :: es) pos) (tE Γ W mb)) : PE X (.BoolOp .Or (a :: b :: es) pos) (tE Γ W (mOr ma mb)) := PE.imp (pe_or ha hb) fun σ H Q ⟨env, S, f, rs, re, h⟩ => ⟨env, S, f, rs, re, Wp.bindL h fun x S1 f1 H1 v u1 rs1 r1 h1 => by
  cases x with
  | bl c =>
    simp only [Rp] at r1
    refine ⟨c, r1, ?_⟩
    cases c with
    | false => exact ⟨env, S1, f1, rs1, re.up u1, h1⟩
    | true => exact h1 f1 H1 (.bl true) .refl rs1 (by simp only [Rp])
  | _ => exact h1.elim⟩
theorem q_not (ha : PE X a (tE Γ W ma)) : PE X (.UnaryOp .Not a pos) (tE Γ W (mNot ma)) := PE.imp (pe_not ha) fun σ H Q ⟨env, S, f, rs, re, h⟩ => ⟨env, S, f, rs, re, Wp.bindL h fun x S1 f1 H1 v u1 rs1 r1 h1 => by
  cases x with
  | bl c =>
    simp only [Rp] at r1
    exact ⟨c, r1, h1 f1 H1 (.bl (!c)) .refl rs1 (by simp only [Rp])⟩
  | _ => exact h1.elim⟩
theorem q_ifE (ht : PT X c (tT Γ W mt)) (ha : PE X a (tE Γ W ma)) (hb : PE X b (tE Γ W mb)) : PE X (.IfExp c a b pos) (tE Γ W (mIf mt ma mb)) := PE.imp (pe_ifExp ht ha hb) fun σ H Q ⟨env, S, f, rs, re, h⟩ => ⟨env, S, f, rs, re, Wp.bindL h fun x S1 f1 H1 v u1 rs1 r1 h1 => by
  subst r1
  cases x with
  | true => exact ⟨env, S1, f1, rs1, re.up u1, h1⟩
  | false => exact ⟨env, S1, f1, rs1, re.up u1, h1⟩⟩
/-! ### statements -/
variable {st : Stmt} {sts sts' : List Stmt} {ms mn : MS}
theorem qs_nil : PSs X [] (tS Γ W mNext) := PSs.imp pss_nil fun D σ H ⟨env, S, f, rs, re, h⟩ => h f σ H .refl rs re
theorem qs_cons (h1 : PS X st (tS Γ W ms)) (h2 : PSs X sts (tS Γ W mn)) : PSs X (st :: sts) (tS Γ W (mSeq ms mn)) := PSs.imp (pss_cons h1 h2) fun D σ H ⟨env, S, f, rs, re, h⟩ => ⟨env, S, f, rs, re, by
  have h : WpS Γ W f H D ((ms env S).seq mn) := h
  cases q : ms env S with
  | nx e S1 =>
    rw [q] at h
    exact fun f1 σ1 H1 u1 r1 e1 => ⟨e, S1, f1, r1, e1, WpS.mono u1 h⟩
  | rt d S1 => rw [q] at h; exact h
  | bk e S1 => rw [q] at h; exact h
  | ct e S1 => rw [q] at h; exact h
  | ex C ds e S1 => rw [q] at h; exact h
  | bad => rw [q] at h; exact h⟩
theorem qs_one (h1 : PS X st (tS Γ W ms)) : PSs X [st] (tS Γ W ms) := pss_one h1
theorem qs_ret (ha : PE X a (tE Γ W ma)) : PS X (.Return (some a) pos) (tS Γ W (mRet ma)) := PS.imp (ps_ret ha) fun D σ H ⟨env, S, f, rs, re, h⟩ => ⟨env, S, f, rs, re, WpS.bindL re h fun x S1 f1 H1 v u1 rs1 r1 h1 => h1 f1 H1 v .refl rs1 r1⟩
theorem qs_expr (ha : PE X a (tE Γ W ma)) (hs : swapsWith a none pos.line X.env = pure false := by rfl) : PS X (.Expr a pos) (tS Γ W (mDrop ma)) := PS.imp (ps_expr ha hs) fun D σ H ⟨env, S, f, rs, re, h⟩ => ⟨env, S, f, rs, re, WpS.bindL re h fun x S1 f1 H1 v u1 rs1 r1 h1 => h1 f1 σ H1 .refl rs1 (re.up u1)⟩
theorem qs_if (ht : PT X c (tT Γ W mt)) (h1 : PSs X sts (tS Γ W ms)) (h2 : PSs X sts' (tS Γ W mn)) : PS X (.If c sts sts' pos) (tS Γ W (mIfS mt ms mn)) := PS.imp (ps_if ht h1 h2) fun D σ H ⟨env, S, f, rs, re, h⟩ => ⟨env, S, f, rs, re, WpS.bindL re h fun x S1 f1 H1 v u1 rs1 r1 h1 => by
  subst r1
  cases x with
  | true => exact ⟨env, S1, f1, rs1, re.up u1, h1⟩
  | false => exact ⟨env, S1, f1, rs1, re.up u1, h1⟩⟩
theorem qs_set {i : Nat} {x : Str} (hN : X.N.Nodup) (ha : PE X a (tE Γ W ma)) (hi : X.N[i]? = some x := by rfl) (hx : Loc X.env.scope x := by first | exact Or.inl rfl | exact Or.inr rfl) (hs : swapsWith a (some (.Name x pos')) pos.line X.env = pure false := by rfl) (hf : X.fn x = true ∨ X.env.scope.names.lookup x = some .local := by first | exact .inl rfl | exact .inr rfl | assumption) :
    PS X (.Assign [.Name x pos'] a pos) (tS Γ W (mSet i ma)) := PS.imp (ps_set hN hi hx ha hs hf) fun D σ H ⟨env, S, f, rs, re, h⟩ => ⟨env, S, f, rs, re, WpS.bindL re h fun d S1 f1 H1 v u1 rs1 r1 h1 => h1 f1 _ H1 .refl rs1 ((re.up u1).set r1 i)⟩
end
/-- a target -/
def tG (Γ : G) (g : MG) : TG := fun v σ H Q => ∃ (d : D) (env : Env) (S : Store) (f : List Addr), RelS Γ f S H ∧ RelE Γ f H env σ ∧ Rp Γ f H d v ∧ match g d env S with
  | .ok e S' => ∀ f' σ' H', Up Γ f H f' H' → RelS Γ f' S' H' → RelE Γ f' H' e σ' → Q σ' H'
  | _ => False
def tGs (Γ : G) (g : MGs) : TGs := fun vs σ H Q => ∃ (ds : List D) (env : Env) (S : Store) (f : List Addr), RelS Γ f S H ∧ RelE Γ f H env σ ∧ RpL Γ f H ds vs ∧ match g ds env S with
  | .ok e S' => ∀ f' σ' H', Up Γ f H f' H' → RelS Γ f' S' H' → RelE Γ f' H' e σ' → Q σ' H'
  | _ => False
theorem PG.imp {X : Cx} {e : Expr} {t t' : TG} (h : PG X e t) (i : ∀ v σ H Q, t' v σ H Q → t v σ H Q) : PG X e t' := ⟨fun pins s σ H v u Q I r q => h.run pins s σ H v u Q I r (i v σ H Q q)⟩
theorem PGs.imp {X : Cx} {e : List Expr} {t t' : TGs} (h : PGs X e t) (i : ∀ v σ H Q, t' v σ H Q → t v σ H Q) : PGs X e t' := ⟨fun pins s σ H v u Q I r q => h.run pins s σ H v u Q I r (i v σ H Q q)⟩
section
variable {Γ : G} {W : WX} {X : Cx} {a : Expr} {es : List Expr} {ma : ME} {g : MG} {gs : MGs} {pos pos' : Pos}
theorem qg_name {i : Nat} {x : Str} (hN : X.N.Nodup) (hi : X.N[i]? = some x := by rfl) (hx : Loc X.env.scope x := by first | exact Or.inl rfl | exact Or.inr rfl) (hf : X.fn x = true ∨ X.env.scope.names.lookup x = some .local := by first | exact .inl rfl | exact .inr rfl | assumption) : PG X (.Name x pos) (tG Γ (gSet i)) :=
  PG.imp (pg_name hN hi hx hf) fun v σ H Q ⟨d, env, S, f, rs, re, r, h⟩ => h f _ H .refl rs (re.set r i)
theorem qgs_nil : PGs X [] (tGs Γ gNil') := PGs.imp pgs_nil fun vs σ H Q ⟨ds, env, S, f, rs, re, r, h⟩ => by
  cases ds with
  | nil => simp only [RpL] at r; exact ⟨r, h f σ H .refl rs re⟩
  | cons d ds => exact h.elim
theorem qgs_cons (h1 : PG X a (tG Γ g)) (h2 : PGs X es (tGs Γ gs)) (hs : (assignEach (a :: es) X.env).map (·.2) = assign a X.env :: (assignEach es X.env).map (·.2) := by rfl) : PGs X (a :: es) (tGs Γ (gCons' g gs)) := PGs.imp (pgs_cons h1 h2 hs) fun vs σ H Q ⟨ds, env, S, f, rs, re, r, h⟩ => by
  cases ds with
  | nil => exact h.elim
  | cons d ds =>
    simp only [RpL] at r
    obtain ⟨v, vr, e, r1, r2⟩ := r
    refine ⟨v, vr, e, d, env, S, f, rs, re, r1, ?_⟩
    have h : (match (g d env S).bind fun e S1 => gs ds e S1 with
      | .ok e S' => ∀ f' σ' H', Up Γ f H f' H' → RelS Γ f' S' H' → RelE Γ f' H' e σ' → Q σ' H'
      | _ => False) := h
    cases q : g d env S with
    | ok e1 S1 =>
      rw [q] at h
      intro f1 σ1 H1 u1 rs1 re1
      refine ⟨ds, e1, S1, f1, rs1, re1, r2.up u1, ?_⟩
      have h : (match gs ds e1 S1 with
        | .ok e S' => ∀ f' σ' H', Up Γ f H f' H' → RelS Γ f' S' H' → RelE Γ f' H' e σ' → Q σ' H'
        | _ => False) := h
      revert h
      cases gs ds e1 S1 with
      | ok e2 S2 => exact fun h f2 σ2 H2 u2 => h f2 σ2 H2 (u1.trans u2)
      | _ => exact fun h => h
    | _ => rw [q] at h; exact h
theorem qg_tup {k n : Nat} (hK : X.K = Γ.K) (hc : X.calm = true) (h : PGs X es (tGs Γ gs)) (hn : (assignEach es X.env).length = n := by rfl) (hst : (assignEach es X.env).findIdx? (·.1) = none := by rfl) : PG X (.Tuple es k pos) (tG Γ (gUnpack n gs)) := PG.imp (pg_tup hc h hn hst) fun v σ H Q ⟨d, env, S, f, rs, re, r, h⟩ => by
  cases d with
  | tup ds =>
    simp only [Rp] at r
    obtain ⟨a, vs, e, s, r⟩ := r
    have h : (match (if ds.length = n then gs ds env S else .bad) with
      | .ok e S' => ∀ f' σ' H', Up Γ f H f' H' → RelS Γ f' S' H' → RelE Γ f' H' e σ' → Q σ' H'
      | _ => False) := h
    by_cases hl : ds.length = n
    · rw [if_pos hl] at h
      exact ⟨a, vs, e, by rw [hK]; exact s, by rw [← r.length]; exact hl, ds, env, S, f, rs, re, r, h⟩
    · rw [if_neg hl] at h
      exact h.elim
  | _ => exact h.elim
theorem qs_asg {t : Expr} (ha : PE X a (tE Γ W ma)) (hg : PG X t (tG Γ g)) (hs : swapsWithSole [t] a pos.line X.env = pure false := by rfl) (hw : swappedStores [t] a X.env = pure none := by rfl) (h1 : (assignEach [t] X.env).map (·.2) = [assign t X.env] := by rfl) :
    PS X (.Assign [t] a pos) (tS Γ W (mAsg ma g)) := PS.imp (ps_asg ha hg hs hw h1) fun D σ H ⟨env, S, f, rs, re, h⟩ => ⟨env, S, f, rs, re, WpS.bindL re h fun d S1 f1 H1 v u1 rs1 r1 h1 => by
  refine ⟨d, env, S1, f1, rs1, re.up u1, r1, ?_⟩
  have h1 : WpS Γ W f1 H1 D (g d env S1).nxt := h1
  cases q : g d env S1 with
  | ok e S2 => rw [q] at h1; exact h1
  | ex C ds S2 => rw [q] at h1; exact h1
  | bad => rw [q] at h1; exact h1⟩
end
end Lk

set_option Elab.async false
set_option linter.all false
set_option autoImplicit false
set_option maxRecDepth 100000
set_option maxHeartbeats 2000000
namespace Lk
open PySem PySem.Spec PyProof.Rows L2

/-- behind a call: what it made and did not hand back is forgotten -/
noncomputable def gc (S : Store) (d : D) (S1 : Store) : R D := open Classical in if d.cl S.length = true ∧ S1.take S.length = S then .ok d S else .ok d S1
/-- a def's mirror, from its body's -/
noncomputable def mDef (n : Nat) (m : MS) : List D → Store → R D := fun ds S => match m (ds.map some ++ List.replicate (n - ds.length) none) S with
  | .nx _ S' => gc S .non S'
  | .rt d S' => gc S d S'
  | .ex C xs _ S' => gcX S C xs S'
  | _ => .bad
theorem gc_ok {S : Store} {d : D} {T : Store} (h : d.cl S.length = true) : gc S d (S ++ T) = .ok d S := if_pos ⟨h, by simp⟩
theorem gc_self {S : Store} {d : D} : gc S d S = .ok d S := by
  unfold gc
  split <;> rfl
theorem gcX_self {S : Store} {C : Str} {d : List D} : gcX S C d S = .ex C d S := by
  unfold gcX
  split <;> rfl
def WF (E : XK) : WX := fun c o _ H => E c o H
section
variable {Γ : G} {f : List Addr} {H : Hp} {S : Store}
theorem Wp.gc {W : WX} {σ : L2.St} {Q : VK} {d : D} {S1 : Store} (rs : RelS Γ f S H) (h : Wp Γ W σ f H (Rp Γ) Q (gc S d S1)) : Wp Γ W σ f H (Rp Γ) Q (.ok d S1) := by
  unfold Lk.gc at h
  split at h
  · rename_i c
    intro f' H' b u r1 p
    obtain ⟨⟨t, e⟩, k⟩ := u
    subst e
    exact h f H' b ⟨⟨[], by simp⟩, k⟩ (rs.cut r1 c.2) (p.cut (by rw [rs.len]; exact c.1))
  · exact h
theorem start_rel {N : List Str} (hx : Γ.xc = none) : ∀ {ds : List D} {vs : List V}, RpL Γ f H ds vs → RelE Γ f H (ds.map some ++ List.replicate (N.length - ds.length) none) (L2.start N vs) := fun {ds vs} r => by
  have hl := r.length
  refine ⟨?_, fun i d e => ?_, fun a i C ds o e => by
    rw [hx] at e
    cases e⟩
  · unfold L2.start
    rw [List.length_append, List.length_append, List.length_map, List.length_map, List.length_replicate, List.length_replicate, hl]
  · have key : ∀ {ds : List D} {vs : List V} {i : Nat} {d : D}, RpL Γ f H ds vs → ds[i]? = some d → ∃ v, vs[i]? = some v ∧ Rp Γ f H d v := by
      intro ds
      induction ds with
      | nil => intro vs i d _ e; simp at e
      | cons x xs ih =>
        intro vs i d r e
        simp only [RpL] at r
        obtain ⟨v, vr, ev, r1, r2⟩ := r
        subst ev
        cases i with
        | zero => simp at e; subst e; exact ⟨v, rfl, r1⟩
        | succ i =>
          obtain ⟨u, h1, h2⟩ := ih (i := i) r2 (by simpa using e)
          exact ⟨u, by simpa using h1, h2⟩
    by_cases hi : i < ds.length
    · rw [List.getElem?_append_left (by rw [List.length_map]; exact hi), List.getElem?_map] at e
      cases q : ds[i]? with
      | none => rw [q] at e; cases e
      | some x =>
        rw [q] at e
        have e' : x = d := by simpa using e
        subst e'
        obtain ⟨v, h1, h2⟩ := key r q
        refine ⟨v, ?_, h2⟩
        unfold L2.start
        rw [List.getElem?_append_left (by rw [List.length_map, ← hl]; exact hi), List.getElem?_map, h1]
        rfl
    · rw [List.getElem?_append_right (by rw [List.length_map]; omega), List.getElem?_replicate] at e
      split at e <;> cases e
theorem def_core (hx : Γ.xc = none) {E : XK} {Q : VK} {m : MS} {n : Nat} {N : List Str} {vs : List V} (hn : N.length = n) {k : Nat} (h : spOf Γ k (mDef n m) vs H Q E) : tS Γ (WF E) m { nx := fun _ H' => Q .non H', rt := Q } (L2.start N vs) H := by
  obtain ⟨_, f, S, ds, rs, r, h⟩ := h
  subst hn
  refine ⟨_, S, f, rs, start_rel hx r, ?_⟩
  unfold mDef at h
  revert h
  cases m (ds.map some ++ List.replicate (N.length - ds.length) none) S with
  | nx e S' => exact fun h f' σ' H' u r _ => Wp.gc rs h f' H' .non u r (by simp only [Rp])
  | rt d S' => exact fun h => Wp.gc rs h
  | ex C xs e S' => exact fun h f' σ' H' o u r _ x => Wp.gcX rs h f' H' o u r x
  | bk e S' => exact fun h => h.elim
  | ct e S' => exact fun h => h.elim
  | bad => exact fun h => h.elim
end
section
variable {Γ : G} {P : Program} {w : World} {mg : Str → Option Value} {base : Heap}
/-- a def keeps its mirror's promise, by its body's term -/
theorem ok_def (hx : Γ.xc = none) {x qual : Str} {params : Arguments} {body : List Stmt} {scope : Scope} {kws : List (Str × V)} {f : Addr} {fd : FuncData} {N ps : List Str} {k n : Nat} {m : MS} (F : FunD Γ.K x qual params body scope [] kws f fd) (Sc : FnScope N ps scope) (hn : N.length = n)
    (hbody : ∀ (cdv : Value) (A : Around) (outer : List PySem.Env) (s : Shared) (H : Hp) (E : XK), Room k (A.deeper (envOfC qual scope s.heap.objs.size f cdv)) → PSs (cxOf (L2.CX P w) P w Γ.K mg base N qual scope f cdv A outer s H E) body (tS Γ (WF E) m)) :
    FnOk P w Γ.K mg base (L2.CX P w) (k + 1) f fd ps (spOf Γ ps.length (mDef n m)) :=
  FunD.ok F Sc (fun vs H Q E h => h.1) fun cdv A outer s H vs Q E hr h => ⟨_, hbody cdv A outer s H E hr, def_core hx hn h⟩
end
/-! ### calls -/
section
variable {Γ : G} {W : WX} {X : Cx} {f : List Addr} {H : Hp} {S : Store} {a o : Expr} {es : List Expr} {ma : ME} {mr : MA} {p pos apos : Pos} {x : Str} {fA : Addr} {fd : FuncData} {ps : List Str} {k n : Nat} {m : List D → Store → R D}
theorem q_call (F : FnOk X.prog X.w X.K X.mg X.base (L2.CX X.prog X.w) k fA fd ps (spOf Γ n m)) (hr : Room k X.A) (hm : X.mg x = some (.ref fA)) (hk : PySem.W.keepIn X.K (.ref fA) = true) (hb : Binds X.K fd ps []) (tk : Takes X W) (ha : PA X (a :: es) (tA Γ W mr)) (hg : Gl X x := by rfl)
    (hdb : (x == ("__debug__" : Str)) = false := by decide) (he : starEach (a :: es) X.env = (false, eval a X.env) :: starEach es X.env := by rfl) (hpl : (backTo pos (starEach es X.env)).any (·.1) = false := by rfl) :
    PE X (.Call (.Name x p) (a :: es) [] pos) (tE Γ W (mCall n m mr)) := PE.imp (pe_callS F hr hg hm hk hb (fun σ => passAt tk σ) ha hdb he hpl) fun σ H Q ⟨env, S, f, rs, re, h⟩ => ⟨env, S, f, rs, re, Wp.bindL h fun xs S1 f1 H1 vs u1 rs1 r1 h1 => Wp.spOf rs1 r1 h1⟩
end
end Lk

set_option Elab.async false
set_option linter.all false
set_option autoImplicit false
set_option maxRecDepth 100000
set_option maxHeartbeats 2000000
namespace Lk
open PySem PySem.Spec PyProof.Rows L2

/-! ### what a loop goes over: the items, and what must stand meanwhile -/
def Sv (Γ : G) (f : List Addr) (H0 : Hp) (s : Src) (J : It) : Prop := Serves Γ J (fun f' S H => s.gd S ∧ Up Γ f H0 f' H) s.items
def tI (Γ : G) (W : WX) (m : MI) : TI := fun σ H R => ∃ env S f, RelS Γ f S H ∧ RelE Γ f H env σ ∧ Wp Γ W σ f H (Sv Γ) R (m env S)
/-! ### for -/
section
variable {Γ : G} {W : WX} {X : Cx} {f : List Addr} {H : Hp} {S : Store}
theorem for_core {J : It} {ok : List Addr → Store → Hp → Prop} {s : Src} {g : MG} {mb : MS} {D₀ : Ends} {env : Env} {σ : L2.St} (sv : Sv Γ f H s J) (rs : RelS Γ f S H) (re : RelE Γ f H env σ) (h : WpS Γ W f H D₀ (forGo s.gd g mb s.items env S)) :
    ∃ Wv : Nat → Nat → L2.St → Hp → Prop, (∃ m, Wv 0 m σ H) ∧ ∀ i m σ H, Wv i m σ H →
      (J.stop i H ∧ D₀.nx σ H) ∨ (J.go i H ∧ ∃ N : L2.St → Hp → Prop, (∀ σ' H', N σ' H' → ∃ m', m' < m ∧ Wv (i + 1) m' σ' H') ∧ ∀ x H', J.yld i H x H' → tG Γ g x σ H' fun σ2 H2 => tS Γ W mb { D₀ with nx := N, ct := N, bk := D₀.nx } σ2 H2) := by
  refine ⟨fun i m σ' H' => i ≤ s.items.length ∧ m = s.items.length - i ∧ ∃ env' S' f', RelS Γ f' S' H' ∧ RelE Γ f' H' env' σ' ∧ Up Γ f H f' H' ∧ WpS Γ W f' H' D₀ (forGo s.gd g mb (s.items.drop i) env' S'),
    ⟨_, Nat.zero_le _, rfl, env, S, f, rs, re, .refl, h⟩, ?_⟩
  rintro i m σ1 H1 ⟨hi, hm, env1, S1, f1, rs1, re1, u1, h1⟩
  cases hd : s.items.drop i with
  | nil =>
    rw [hd] at h1
    unfold forGo at h1
    split at h1
    · rename_i gd
      have e : i = s.items.length := by
        have := List.drop_eq_nil_iff.mp hd
        omega
      refine .inl ⟨?_, h1 f1 σ1 H1 .refl rs1 re1⟩
      rw [e]
      exact sv.stop f1 S1 H1 rs1 ⟨gd, u1⟩
    · exact h1.elim
  | cons d ds =>
    rw [hd] at h1
    have hlt : i < s.items.length := by
      have := congrArg List.length hd
      rw [List.length_drop, List.length_cons] at this
      omega
    have hdd : s.items[i]? = some d ∧ s.items.drop (i + 1) = ds := by
      rw [List.drop_eq_getElem_cons hlt] at hd
      injection hd with e1 e2
      exact ⟨by rw [List.getElem?_eq_getElem hlt, e1], e2⟩
    unfold forGo at h1
    split at h1
    · rename_i gd
      obtain ⟨jg, jy⟩ := sv.go f1 S1 H1 i d rs1 ⟨gd, u1⟩ hdd.1
      refine .inr ⟨jg, fun σ' H' => i + 1 ≤ s.items.length ∧ ∃ env' S' f', RelS Γ f' S' H' ∧ RelE Γ f' H' env' σ' ∧ Up Γ f H f' H' ∧ WpS Γ W f' H' D₀ (forGo s.gd g mb (s.items.drop (i + 1)) env' S'), ?_, ?_⟩
      · rintro σ' H' ⟨h1, h2⟩
        exact ⟨_, by rw [hm]; omega, h1, rfl, h2⟩
      · intro x H' hy
        obtain ⟨u2, rs2, rp⟩ := jy x H' hy
        refine ⟨d, env1, S1, f1, rs2, re1.up u2, rp, ?_⟩
        revert h1
        cases g d env1 S1 with
        | ok e2 S2 =>
          intro h1 f3 σ3 H3 u3 rs3 re3
          have uu := u2.trans u3
          refine ⟨e2, S2, f3, rs3, re3, ?_⟩
          rw [hdd.2]
          revert h1
          dsimp only
          cases mb e2 S2 with
          | nx e4 S4 => exact fun h1 f5 σ5 H5 u5 rs5 re5 => ⟨hlt, e4, S4, f5, rs5, re5, (u1.trans uu).trans u5, WpS.mono (uu.trans u5) h1⟩
          | ct e4 S4 => exact fun h1 f5 σ5 H5 u5 rs5 re5 => ⟨hlt, e4, S4, f5, rs5, re5, (u1.trans uu).trans u5, WpS.mono (uu.trans u5) h1⟩
          | bk e4 S4 => exact fun h1 => WpS.mono (D := D₀) uu h1
          | rt d4 S4 => exact fun h1 => WpS.mono (D := D₀) uu h1
          | ex C4 d4 e4 S4 => exact fun h1 => WpS.mono (D := D₀) uu h1
          | bad => exact fun h1 => h1
        | ex C4 d4 S4 => exact fun h1 => h1.elim
        | bad => exact fun h1 => h1.elim
    · exact h1.elim
theorem qs_for {iter tg : Expr} {body : List Stmt} {mi : MI} {g : MG} {mb : MS} {pos : Pos} (hp : PassesOwn (model X.prog X.w) X.A X.env X.xe) (hc : X.calm = true) (hi : PI X tg iter (tI Γ W mi)) (hg : PG X tg (tG Γ g)) (hb : PSs X body (tS Γ W mb))
    (hs : ∀ x, foldedSetIterable iter X.env x = pure x := by intro _; rfl) : PS X (.For tg iter body [] pos) (tS Γ W (mFor mi g mb)) := PS.imp (ps_for hp hc hi hg hb hs) fun D σ H ⟨env, S, f, rs, re, h⟩ =>
  ⟨env, S, f, rs, re, WpS.bindL re h fun s S1 f1 H1 J u1 rs1 sv h1 => for_core (ok := fun _ _ _ => True) sv rs1 (re.up u1) h1⟩
/-! ### what is gone over -/
theorem PI.imp {tg e : Expr} {t t' : TI} (h : PI X tg e t) (i : ∀ σ H R, t' σ H R → t σ H R) : PI X tg e t' := ⟨fun pins s σ H R I q => h.run pins s σ H R I (i σ H R q)⟩
theorem PI.or {tg e : Expr} {t t' : TI} (h : PI X tg e t) (h' : PI X tg e t') : PI X tg e (fun σ H R => t σ H R ∨ t' σ H R) := ⟨fun pins s σ H R I q => q.elim (h.run pins s σ H R I) (h'.run pins s σ H R I)⟩
theorem RpL.get : ∀ {ds : List D} {vs : List V} {i : Nat} {d : D}, RpL Γ f H ds vs → ds[i]? = some d → ∃ v, vs[i]? = some v ∧ Rp Γ f H d v
  | [], _, _, _, _, e => by simp at e
  | x :: xs, _, i, d, r, e => by
    simp only [RpL] at r
    obtain ⟨v, vr, ev, r1, r2⟩ := r
    subst ev
    cases i with
    | zero =>
      have e' : x = d := by simpa using e
      subst e'
      exact ⟨v, rfl, r1⟩
    | succ i =>
      obtain ⟨u, h1, h2⟩ := RpL.get (i := i) r2 (by simpa using e)
      exact ⟨u, by simpa using h1, h2⟩
theorem sv_tup {a : Addr} {vs : List V} {ds : List D} (h : SqT Γ.K H a vs) (r : RpL Γ f H ds vs) : Sv Γ f H (vals ds) (Itt Γ.K a) where
  go := fun f1 S H1 i d rs ok e => by
    obtain ⟨v, h1, h2⟩ := RpL.get (r.up ok.2) e
    have q := ok.2.keep.sqT h
    refine ⟨⟨vs, v, q, h1⟩, fun x H' hy => ?_⟩
    obtain ⟨eH, hx⟩ := hy
    subst eH
    have e2 := hx vs q
    rw [h1] at e2
    cases e2
    exact ⟨.refl, rs, h2⟩
  stop := fun f1 S H1 rs ok => ⟨vs, ok.2.keep.sqT h, by rw [← r.length]; exact Nat.le_refl _⟩
theorem sv_rol {a : Addr} {vs : List V} {ds : List D} (h : SqR Γ.K H a vs) (r : RpL Γ f H ds vs) : Sv Γ f H (vals ds) (Itl Γ.K a) where
  go := fun f1 S H1 i d rs ok e => by
    obtain ⟨v, h1, h2⟩ := RpL.get (r.up ok.2) e
    have q := (ok.2.keep.sqR h).1
    refine ⟨⟨vs, v, q, h1⟩, fun x H' hy => ?_⟩
    obtain ⟨eH, hx⟩ := hy
    subst eH
    have e2 := hx vs q
    rw [h1] at e2
    cases e2
    exact ⟨.refl, rs, h2⟩
  stop := fun f1 S H1 rs ok => ⟨vs, (ok.2.keep.sqR h).1, by rw [← r.length]; exact Nat.le_refl _⟩
theorem sv_lst {a : Addr} {n : Nat} {ds : List D} (ha : f[n]? = some a) : Sv Γ f H (lstAt n ds) (Itl Γ.K a) where
  go := fun f1 S H1 i d rs ok e => by
    obtain ⟨b, hb, vs, h0, r⟩ := rs.ob n _ ok.1
    rw [ok.2.at ha] at hb
    cases hb
    obtain ⟨v, h1, h2⟩ := RpL.get r e
    refine ⟨⟨vs, v, SqL.of h0, h1⟩, fun x H' hy => ?_⟩
    obtain ⟨eH, hx⟩ := hy
    subst eH
    have e2 := hx vs (SqL.of h0)
    rw [h1] at e2
    cases e2
    exact ⟨.refl, rs, h2⟩
  stop := fun f1 S H1 rs ok => by
    obtain ⟨b, hb, vs, h0, r⟩ := rs.ob n _ ok.1
    rw [ok.2.at ha] at hb
    cases hb
    exact ⟨vs, SqL.of h0, by rw [← r.length]; exact Nat.le_refl _⟩
theorem qi_seq {tg e : Expr} {m : ME} (hK : X.K = Γ.K) (h : PE X e (tE Γ W m)) : PI X tg e (tI Γ W (iSeq m)) := PI.imp (PI.or (pi_list h) (pi_tup h)) fun σ H R ⟨env, S, f, rs, re, h⟩ => by
  have h0 := h
  unfold iSeq at h
  cases q : m env S with
  | ok d S1 =>
    rw [q] at h
    cases d with
    | tup ds =>
      refine .inr ⟨env, S, f, rs, re, ?_⟩
      rw [q]
      intro f1 H1 v u1 rs1 r1
      simp only [Rp] at r1
      obtain ⟨a, vs, e, hs, r⟩ := r1
      rw [hK]
      exact ⟨a, e, ⟨vs, hs⟩, h f1 H1 _ u1 rs1 (sv_tup hs r)⟩
    | rol ds =>
      refine .inl ⟨env, S, f, rs, re, ?_⟩
      rw [q]
      intro f1 H1 v u1 rs1 r1
      simp only [Rp] at r1
      obtain ⟨a, vs, e, hs, r⟩ := r1
      rw [hK]
      exact ⟨a, e, ⟨vs, hs.1⟩, h f1 H1 _ u1 rs1 (sv_rol hs r)⟩
    | ref n =>
      refine .inl ⟨env, S, f, rs, re, ?_⟩
      rw [q]
      intro f1 H1 v u1 rs1 r1
      simp only [Rp] at r1
      obtain ⟨a, ha, e⟩ := r1
      have h : Wp Γ W σ f H (Sv Γ) R (match S1[n]? with
        | some (.lst xs) => .ok (lstAt n xs) S1
        | _ => .bad) := h
      split at h
      · rename_i xs hn
        obtain ⟨b, hb, vs, hh, r⟩ := rs1.ob n _ hn
        rw [ha] at hb
        cases hb
        rw [hK]
        exact ⟨a, e, ⟨vs, SqL.of hh⟩, h f1 H1 _ u1 rs1 (sv_lst ha)⟩
      · exact h.elim
    | _ => exact h.elim
  | ex C ds S1 =>
    refine .inl ⟨env, S, f, rs, re, ?_⟩
    rw [q] at h ⊢
    exact h
  | bad => rw [q] at h; exact h.elim
/-! ### ranges -/
def iRng2' (m : MA) : MI := fun env S => (m env S).bind fun ds S1 => match ds with
  | [.int i, .int j] => if bd i ∧ bd j then .ok (vals (rngI i (j - i).toNat)) S1 else .bad
  | _ => .bad
theorem sv_rng {lo : Int} {n : Nat} : Sv Γ f H (vals (rngI lo n)) (Itr lo n) where
  go := fun f1 S H1 i d rs ok e => by
    have e : (rngI lo n)[i]? = some d := e
    unfold rngI at e
    rw [List.getElem?_map] at e
    by_cases hi : i < n
    · rw [List.getElem?_range hi] at e
      cases e
      refine ⟨hi, fun x H' hy => ?_⟩
      obtain ⟨eH, hx⟩ := hy
      subst eH
      subst hx
      exact ⟨.refl, rs, by simp only [Rp]⟩
    · rw [List.getElem?_eq_none (by simpa using hi)] at e
      cases e
  stop := fun f1 S H1 rs ok => by
    show n ≤ (rngI lo n).length
    unfold rngI
    simp
theorem RpL.one {d : D} {vs : List V} (h : RpL Γ f H [d] vs) : ∃ v, vs = [v] ∧ Rp Γ f H d v := by
  simp only [RpL] at h
  obtain ⟨v, r, e, h1, h2⟩ := h
  subst h2
  exact ⟨v, e, h1⟩
theorem RpL.two {d e : D} {vs : List V} (h : RpL Γ f H [d, e] vs) : ∃ v u, vs = [v, u] ∧ Rp Γ f H d v ∧ Rp Γ f H e u := by
  simp only [RpL] at h
  obtain ⟨v, r, ev, h1, u, r2, eu, h2, h3⟩ := h
  subst h3
  subst eu
  exact ⟨v, u, ev, h1, h2⟩
theorem qi_rng1 {tg a : Expr} {mr : MA} {p pos : Pos} (hm : X.mg "range" = none) (ha : PA X [a] (tA Γ W mr)) (hg : Gl X "range" := by rfl) (hs : starEach [a] X.env = [(false, eval a X.env)] := by rfl) : PI X tg (.Call (.Name "range" p) [a] [] pos) (tI Γ W (iRng1' mr)) := PI.imp (pi_range1 hg hm ha hs) fun σ H R ⟨env, S, f, rs, re, h⟩ =>
  ⟨env, S, f, rs, re, Wp.bindL h fun ds S1 f1 H1 vs u1 rs1 r1 h1 => by
    revert h1
    split
    · rename_i j
      intro h1
      obtain ⟨v, e, rv⟩ := r1.one
      simp only [Rp] at rv
      subst rv
      split at h1
      · rename_i b
        exact ⟨j, e, b.1, b.2, h1 f1 H1 _ .refl rs1 sv_rng⟩
      · exact h1.elim
    · exact fun h => h.elim⟩
theorem qi_rng2 {tg a b : Expr} {mr : MA} {p pos : Pos} (hm : X.mg "range" = none) (ha : PA X [a, b] (tA Γ W mr)) (hg : Gl X "range" := by rfl) (hs : starEach [a, b] X.env = [(false, eval a X.env), (false, eval b X.env)] := by rfl) (hs2 : starEach [b] X.env = [(false, eval b X.env)] := by rfl) :
    PI X tg (.Call (.Name "range" p) [a, b] [] pos) (tI Γ W (iRng2' mr)) := PI.imp (pi_range2 hg hm ha hs hs2) fun σ H R ⟨env, S, f, rs, re, h⟩ =>
  ⟨env, S, f, rs, re, Wp.bindL h fun ds S1 f1 H1 vs u1 rs1 r1 h1 => by
    revert h1
    split
    · rename_i i j
      intro h1
      obtain ⟨v, u, e, rv, ru⟩ := r1.two
      simp only [Rp] at rv ru
      subst rv
      subst ru
      split at h1
      · rename_i b
        exact ⟨i, j, e, ⟨b.1.1, b.1.2, b.2.1, b.2.2⟩, h1 f1 H1 _ .refl rs1 sv_rng⟩
      · exact h1.elim
    · exact fun h => h.elim⟩
end
/-! ### while: so many turns at most -/
section
variable {Γ : G} {W : WX} {X : Cx} {f : List Addr} {H : Hp} {S : Store}
end
end Lk

set_option Elab.async false
set_option linter.all false
set_option autoImplicit false
set_option maxRecDepth 100000
set_option maxHeartbeats 2000000
namespace Lk
open PySem PySem.Spec PyProof.Rows L2

/-! ### comprehensions: the targets are names, or a tuple of names -/
def Tg.slots : Tg → List Nat
  | .nm i => [i]
  | .tp is => is
def gNs : List Nat → TGs
  | [] => L2.gNil
  | i :: is => gCons (gName i) (gNs is)
def Tg.raw (K : PySem.W.Frag) : Tg → TG
  | .nm i => gName i
  | .tp is => gTup K is.length (gNs is)
def mYes : MT := fun _ S => .ok true S
section
variable {Γ : G} {W : WX} {X : Cx} {f : List Addr} {H : Hp} {S : Store}
theorem RelE.wipe {env : Env} {σ : L2.St} (hx : Γ.xc = none) (r : RelE Γ f H env σ) : ∀ vs : List Nat, RelE Γ f H (wipeE env vs) (L2.wipe σ vs)
  | [] => r
  | v :: vs => by
    unfold wipeE L2.wipe
    exact (RelE.wipe hx r vs).miss hx v none
theorem wipe_set {σ : L2.St} {i : Nat} {x : Option V} : ∀ {vs : List Nat}, i ∈ vs → L2.wipe (σ.set i x) vs = L2.wipe σ vs
  | [], h => by simp at h
  | v :: vs, h => by
    have key : ∀ us : List Nat, L2.wipe (σ.set i x) us = (L2.wipe σ us).set i (if i ∈ us then none else x) := by
      intro us
      induction us with
      | nil => simp [L2.wipe]
      | cons u us ih =>
        simp only [L2.wipe, ih]
        by_cases e : u = i
        · subst e
          rw [List.set_set]
          simp
        · rw [List.set_comm _ _ (Ne.symm e)]
          congr 1
          by_cases m : i ∈ us
          · simp [m]
          · simp [m, Ne.symm e]
    rw [key]
    rw [if_pos h]
    have hw : ∀ us : List Nat, i ∈ us → (L2.wipe σ us).set i none = L2.wipe σ us := by
      intro us
      induction us with
      | nil => intro h; simp at h
      | cons u us ih =>
        intro h
        simp only [L2.wipe]
        by_cases e : u = i
        · subst e
          rw [List.set_set]
        · rw [List.set_comm _ _ e]
          rw [ih (by simpa [Ne.symm e] using h)]
    exact hw _ h
theorem gNs_ok {Q : L2.St → Hp → Prop} {vs0 : List Nat} {σ0 : L2.St} : ∀ {is : List Nat} {ds : List D} {vs : List V} {env : Env} {σ : L2.St}, RelE Γ f H env σ → RpL Γ f H ds vs → ds.length = is.length → (∀ i ∈ is, i ∈ vs0) → L2.wipe σ vs0 = L2.wipe σ0 vs0 →
    (∀ σ', RelE Γ f H (setL is ds env) σ' → L2.wipe σ' vs0 = L2.wipe σ0 vs0 → Q σ' H) → gNs is vs σ H Q
  | [], [], vs, env, σ, re, r, hl, hi, hw, k => by
    simp only [RpL] at r
    exact ⟨r, k σ re hw⟩
  | [], _ :: _, _, _, _, _, _, hl, _, _, _ => by simp at hl
  | _ :: _, [], _, _, _, _, _, hl, _, _, _ => by simp at hl
  | i :: is, d :: ds, vs, env, σ, re, r, hl, hi, hw, k => by
    simp only [RpL] at r
    obtain ⟨v, vr, e, r1, r2⟩ := r
    refine ⟨v, vr, e, ?_⟩
    exact gNs_ok (re.set r1 i) r2 (by simpa using hl) (fun j hj => hi j (List.mem_cons_of_mem _ hj)) (by rw [wipe_set (hi i List.mem_cons_self)]; exact hw) k
theorem put_ok {Q : L2.St → Hp → Prop} {g : Tg} {d : D} {v : V} {env e1 : Env} {σ : L2.St} {vs0 : List Nat} {σ0 : L2.St} (hg : ∀ i ∈ g.slots, i ∈ vs0) (hp : g.put d env = some e1) (re : RelE Γ f H env σ) (r : Rp Γ f H d v) (hw : L2.wipe σ vs0 = L2.wipe σ0 vs0)
    (k : ∀ σ', RelE Γ f H e1 σ' → L2.wipe σ' vs0 = L2.wipe σ0 vs0 → Q σ' H) : g.raw Γ.K v σ H Q := by
  cases g with
  | nm i =>
    have e : env.set i (some d) = e1 := by simpa [Tg.put] using hp
    subst e
    exact k _ (re.set r i) (by rw [wipe_set (hg i (by simp [Tg.slots]))]; exact hw)
  | tp is =>
    cases d with
    | tup ds =>
      simp only [Rp] at r
      obtain ⟨a, vs, e, hs, r⟩ := r
      have hp : (if ds.length = is.length then some (setL is ds env) else none) = some e1 := hp
      by_cases hl : ds.length = is.length
      · rw [if_pos hl] at hp
        cases hp
        exact ⟨a, vs, e, hs, by rw [← r.length]; exact hl, gNs_ok re r hl hg hw k⟩
      · rw [if_neg hl] at hp
        cases hp
    | _ => cases hp
theorem lc_core' (hx : Γ.xc = none) {J : It} {s : Src} {g : Tg} {mt : MT} {me : ME} {vs : List Nat} {env : Env} {σ : L2.St} {Q : VK} (hg : ∀ i ∈ g.slots, i ∈ vs) (sv : Sv Γ f H s J) (rs : RelS Γ f S H) (re : RelE Γ f H env σ)
    (h : Wp Γ W σ f H (Rp Γ) Q (lcGo s.gd g mt me (wipeE env vs) S.length s.items (S ++ [.lst []]))) (W0 : WX) : ∀ Da, H Da = none → ∃ Wv : Nat → Nat → Hp → Prop, (∃ m, Wv 0 m (upd H Da (.lst []))) ∧ ∀ i m H, Wv i m H →
      (J.stop i H ∧ Q (.ref Da) H) ∨ (J.go i H ∧ ∃ Nx : Hp → Prop, (∀ H', Nx H' → ∃ m', m' < m ∧ Wv (i + 1) m' H') ∧ ∀ x H', J.yld i H x H' → g.raw Γ.K x (L2.wipe σ vs) H' fun σ2 H2 => L2.wipe σ2 vs = L2.wipe σ vs ∧ tT Γ W0 mt σ2 H2 fun b H3 =>
        if b = true then tE Γ W0 me σ2 H3 fun y H4 => ∃ acc, H4 Da = some (.lst acc) ∧ acc.length < sizeLine ∧ Nx (upd H4 Da (.lst (acc ++ [y]))) else Nx H3) := by
  intro Da hDa
  have hr0 : RelS Γ (f ++ [Da]) (S ++ [.lst []]) (upd H Da (.lst [])) := rs.alloc (b := .lst []) hDa ⟨[], upd_same, by simp only [RpL]⟩
  have h0 : Wp Γ W σ (f ++ [Da]) (upd H Da (.lst [])) (Rp Γ) Q (lcGo s.gd g mt me (wipeE env vs) S.length (s.items.drop 0) (S ++ [.lst []])) := Wp.mono (.alloc hDa) h
  refine ⟨fun i m H' => i ≤ s.items.length ∧ m = s.items.length - i ∧ ∃ S' f', RelS Γ f' S' H' ∧ f'[S.length]? = some Da ∧ Up Γ f H f' H' ∧ Wp Γ W σ f' H' (Rp Γ) Q (lcGo s.gd g mt me (wipeE env vs) S.length (s.items.drop i) S'),
    ⟨_, Nat.zero_le _, rfl, S ++ [.lst []], f ++ [Da], hr0, by rw [← rs.len]; simp, .alloc hDa, h0⟩, ?_⟩
  rintro i m H1 ⟨hi, hm, S1, f1, rs1, hf1, u1, h1⟩
  cases hd : s.items.drop i with
  | nil =>
    rw [hd] at h1
    unfold lcGo at h1
    split at h1
    · rename_i gd
      have e : i = s.items.length := by
        have := List.drop_eq_nil_iff.mp hd
        omega
      refine .inl ⟨?_, h1 f1 H1 _ .refl rs1 (Rp.refI hf1)⟩
      rw [e]
      exact sv.stop f1 S1 H1 rs1 ⟨gd, u1⟩
    · exact h1.elim
  | cons d ds =>
    rw [hd] at h1
    have hlt : i < s.items.length := by
      have := congrArg List.length hd
      rw [List.length_drop, List.length_cons] at this
      omega
    have hdd : s.items[i]? = some d ∧ s.items.drop (i + 1) = ds := by
      rw [List.drop_eq_getElem_cons hlt] at hd
      injection hd with e1 e2
      exact ⟨by rw [List.getElem?_eq_getElem hlt, e1], e2⟩
    unfold lcGo at h1
    split at h1
    · rename_i gd
      obtain ⟨jg, jy⟩ := sv.go f1 S1 H1 i d rs1 ⟨gd, u1⟩ hdd.1
      refine .inr ⟨jg, fun H' => i + 1 ≤ s.items.length ∧ ∃ S' f', RelS Γ f' S' H' ∧ f'[S.length]? = some Da ∧ Up Γ f H f' H' ∧ Wp Γ W σ f' H' (Rp Γ) Q (lcGo s.gd g mt me (wipeE env vs) S.length (s.items.drop (i + 1)) S'), ?_, ?_⟩
      · rintro H' ⟨h1, h2⟩
        exact ⟨_, by rw [hm]; omega, h1, rfl, h2⟩
      · intro x H' hy
        obtain ⟨u2, rs2, rp⟩ := jy x H' hy
        have re2 : RelE Γ f1 H' (wipeE env vs) (L2.wipe σ vs) := (re.up (u1.trans u2)).wipe hx vs
        rw [hdd.2]
        revert h1
        cases hput : g.put d (wipeE env vs) with
        | none => exact fun h1 => h1.elim
        | some e1 =>
          intro h1
          refine put_ok hg hput re2 rp rfl fun σ3 re3 hw3 => ⟨hw3.trans rfl |>.trans ?_, ?_⟩
          · have ww : ∀ us : List Nat, L2.wipe (L2.wipe σ us) us = L2.wipe σ us := by
              intro us
              have aux : ∀ (us ws : List Nat), (∀ i ∈ us, i ∈ ws) → L2.wipe (L2.wipe σ ws) us = L2.wipe σ ws := by
                intro us
                induction us with
                | nil => intro ws _; rfl
                | cons u us ih =>
                  intro ws hs
                  simp only [L2.wipe]
                  rw [ih ws fun i hi => hs i (List.mem_cons_of_mem _ hi)]
                  have hu := hs u List.mem_cons_self
                  have hw : ∀ us : List Nat, u ∈ us → (L2.wipe σ us).set u none = L2.wipe σ us := by
                    intro us
                    induction us with
                    | nil => intro h; simp at h
                    | cons w us ih2 =>
                      intro h
                      simp only [L2.wipe]
                      by_cases e : w = u
                      · subst e
                        rw [List.set_set]
                      · rw [List.set_comm _ _ e, ih2 (by simpa [Ne.symm e] using h)]
                  exact hw ws hu
              exact aux us us fun _ h => h
            exact ww vs
          · refine ⟨e1, S1, f1, rs2, re3, ?_⟩
            revert h1
            dsimp only
            cases mt e1 S1 with
            | ok b S2 =>
              cases b with
              | true =>
                intro h1 f3 H3 b u3 rs3 eb
                subst eb
                refine ⟨e1, S2, f3, rs3, re3.up u3, ?_⟩
                revert h1
                dsimp only
                cases me e1 S2 with
                | ok y S4 =>
                  intro h1 f5 H5 v u5 rs5 r5
                  revert h1
                  dsimp only
                  split
                  · rename_i acc hacc
                    split
                    · rename_i hl
                      intro h1
                      have ha := (u2.trans (u3.trans u5)).at hf1
                      obtain ⟨b, hb, vs', hh, rv⟩ := rs5.ob _ _ hacc
                      rw [ha] at hb
                      cases hb
                      refine ⟨vs', hh, by rw [← rv.length, lim_eq]; exact hl, hlt, S4.set S.length (.lst (acc ++ [y])), f5, ?_, ha, ?_, ?_⟩
                      · refine rs5.set ha (.chg hh trivial) ⟨vs' ++ [v], upd_same, ?_⟩
                        have uc : Up Γ f5 H5 f5 (upd H5 Da (.lst (vs' ++ [v]))) := .chg hh trivial
                        have app : ∀ {ds : List D} {vs : List V} {d : D} {v : V} {H : Hp}, RpL Γ f5 H ds vs → Rp Γ f5 H d v → RpL Γ f5 H (ds ++ [d]) (vs ++ [v]) := by
                          intro ds
                          induction ds with
                          | nil =>
                            intro vs d v H r q
                            simp only [RpL] at r
                            subst r
                            simp only [List.nil_append, RpL]
                            exact ⟨v, [], rfl, q, rfl⟩
                          | cons x xs ih =>
                            intro vs d v H r q
                            simp only [RpL] at r
                            obtain ⟨w, r', e, h1, h2⟩ := r
                            subst e
                            simp only [List.cons_append, RpL]
                            exact ⟨w, _, rfl, h1, ih h2 q⟩
                        exact app (rv.up uc) (r5.up uc)
                      · exact (u1.trans (u2.trans (u3.trans u5))).trans (.chg hh trivial)
                      · exact Wp.mono ((u2.trans (u3.trans u5)).trans (.chg hh trivial)) h1
                    · exact fun h1 => h1.elim
                  · exact fun h1 => h1.elim
                | ex C ds' S4 => exact fun h1 => h1.elim
                | bad => exact fun h1 => h1.elim
              | false =>
                intro h1 f3 H3 b u3 rs3 eb
                subst eb
                exact ⟨hlt, S2, f3, rs3, (u2.trans u3).at hf1, u1.trans (u2.trans u3), Wp.mono (u2.trans u3) h1⟩
            | ex C ds' S2 => exact fun h1 => h1.elim
            | bad => exact fun h1 => h1.elim
    · exact h1.elim
/-- nothing is wished of an exception -/
abbrev Wno : WX := fun _ _ _ _ => False
theorem lc_imp (hx : Γ.xc = none) {mi : MI} {g : Tg} {mt : MT} {me : ME} {vs : List Nat} (hg : ∀ i ∈ g.slots, i ∈ vs) {σ : L2.St} {H : Hp} {Q : VK} (h : tE Γ W (mLc mi g mt me vs) σ H Q) : tLc (tI Γ W mi) (g.raw Γ.K) (tT Γ Wno mt) (tE Γ Wno me) vs σ H Q := by
  obtain ⟨env, S, f, rs, re, h⟩ := h
  exact ⟨env, S, f, rs, re, Wp.bindL h fun s S1 f1 H1 J u1 rs1 sv h1 => lc_core' hx hg sv rs1 (re.up u1) h1 Wno⟩
theorem q_lc (hx : Γ.xc = none) {elt tg iter : Expr} {ifs : List Expr} {scope : Scope} {own : List (Str × Nat)} {pos : Pos} {mi : MI} {g : Tg} {mt : MT} {me : ME} (hc : X.calm = true) (hN : X.N.Nodup) (hi : PI X tg iter (tI Γ W mi)) (ok : BlkOk X.N X.env.scope scope own)
    (hg : ∀ (s : Shared) (H : Hp) (C : Addr) (cl : List (Str × Addr)) (fp : List Addr), PG (X.blk s H scope (compEnvC scope cl C X.env) fp) tg (g.raw Γ.K)) (ht : ∀ (s : Shared) (H : Hp) (C : Addr) (cl : List (Str × Addr)) (fp : List Addr), PTs (X.blk s H scope (compEnvC scope cl C X.env) fp) ifs (tT Γ Wno mt))
    (he : ∀ (s : Shared) (H : Hp) (C : Addr) (cl : List (Str × Addr)) (fp : List Addr), PE (X.blk s H scope (compEnvC scope cl C X.env) fp) elt (tE Γ Wno me)) (hs : ∀ x, foldedSetIterable iter X.env x = pure x := by intro _; rfl) (hsl : (g.slots.all fun i => (own.map (·.2)).contains i) = true := by rfl) :
    PE X (.ListComp elt [⟨tg, iter, ifs, 0⟩] scope pos) (tE Γ W (mLc mi g mt me (own.map (·.2)))) := PE.imp (pe_lc hc hN hi ok hg ht he hs) fun σ H Q => lc_imp hx fun i hi => by
  have := List.all_eq_true.mp hsl i hi
  exact List.contains_iff_mem.mp this
theorem qs_setLc (hx : Γ.xc = none) {i : Nat} {y : Str} {py : Pos} {elt tg iter : Expr} {ifs : List Expr} {scope : Scope} {own : List (Str × Nat)} {pos spos : Pos} {mi : MI} {g : Tg} {mt : MT} {me : ME} (hc : X.calm = true) (hN : X.N.Nodup) (hy : X.N[i]? = some y) (hyl : X.env.scope.names.lookup y = some .local)
    (hsw : swapsWith (.ListComp elt [⟨tg, iter, ifs, 0⟩] scope pos) (some (.Name y py)) spos.line X.env = pure true) (hi : PI X tg iter (tI Γ W mi)) (ok : BlkOk X.N X.env.scope scope own)
    (hg : ∀ (s : Shared) (H : Hp) (C : Addr) (cl : List (Str × Addr)) (fp : List Addr), PG (X.blk s H scope (compEnvC scope cl C X.env) fp) tg (g.raw Γ.K)) (ht : ∀ (s : Shared) (H : Hp) (C : Addr) (cl : List (Str × Addr)) (fp : List Addr), PTs (X.blk s H scope (compEnvC scope cl C X.env) fp) ifs (tT Γ Wno mt))
    (he : ∀ (s : Shared) (H : Hp) (C : Addr) (cl : List (Str × Addr)) (fp : List Addr), PE (X.blk s H scope (compEnvC scope cl C X.env) fp) elt (tE Γ Wno me)) (hs : ∀ x, foldedSetIterable iter X.env x = pure x := by intro _; rfl) (hsl : (g.slots.all fun i => (own.map (·.2)).contains i) = true := by rfl) :
    PS X (.Assign [.Name y py] (.ListComp elt [⟨tg, iter, ifs, 0⟩] scope pos) spos) (tS Γ W (mSet i (mLc mi g mt me (own.map (·.2))))) := PS.imp (ps_setLc hc hN hy hyl hsw hi ok hg ht he hs) fun D σ H ⟨env, S, f, rs, re, h⟩ => by
  refine lc_imp (Γ := Γ) (W := W) hx (fun i hi => ?_) ⟨env, S, f, rs, re, WpS.bindL re h fun d S1 f1 H1 v u1 rs1 r1 h1 => h1 f1 _ H1 .refl rs1 ((re.up u1).set r1 i)⟩
  have := List.all_eq_true.mp hsl i hi
  exact List.contains_iff_mem.mp this
theorem qts_nil : PTs X [] (tT Γ W mYes) := ⟨fun pins s σ H Q I ⟨env, S, f, rs, re, h⟩ => pts_nil.run pins s σ H Q I (h f H true .refl rs rfl)⟩
theorem qts_one {c : Expr} {t : MT} (h : PT X c (tT Γ W t)) : PTs X [c] (tT Γ W t) := pts_one h
theorem qr_nm {i : Nat} {x : Str} {pos : Pos} (hN : X.N.Nodup) (hi : X.N[i]? = some x := by rfl) (hx : Loc X.env.scope x := by first | exact Or.inl rfl | exact Or.inr rfl) (hf : X.fn x = true ∨ X.env.scope.names.lookup x = some .local := by first | exact .inl rfl | exact .inr rfl | assumption) : PG X (.Name x pos) ((Tg.nm i).raw Γ.K) := pg_name hN hi hx hf
end
end Lk

set_option Elab.async false
set_option linter.all false
set_option autoImplicit false
set_option maxRecDepth 100000
set_option maxHeartbeats 2000000
namespace Lk
open PySem PySem.Spec PyProof.Rows L2

/-! ### attributes -/
section
variable {Γ : G} {W : WX} {X : Cx} {f : List Addr} {H : Hp} {S : Store} {e o : Expr} {es : List Expr} {ma : ME} {mr : MA} {p pos apos : Pos} {x : Str} {cs : List Str}
theorem RpF.look : ∀ {ds : List D} {ns : List Str} {fs : List (Str × V)} {x : Str} {d : D}, RpF Γ f H ds ns fs → (ns.zip ds).lookup x = some d → ∃ v, fs.lookup x = some v ∧ Rp Γ f H d v
  | [], ns, _, _, _, _, e => by simp at e
  | d :: ds, _, fs, x, d', h, e => by
    simp only [RpF] at h
    obtain ⟨y, r, v, en, l, h1, h2⟩ := h
    subst en
    rw [List.zip_cons_cons, List.lookup_cons] at e
    cases q : (x == y) with
    | true =>
      rw [q] at e
      cases e
      rw [beq_iff_eq.mp q]
      exact ⟨v, l, h1⟩
    | false =>
      rw [q] at e
      exact RpF.look h2 e
theorem zip_mem : ∀ {ns : List Str} {ds : List D} {x : Str} {d : D}, (ns.zip ds).lookup x = some d → x ∈ ns
  | [], _, _, _, e => by simp at e
  | _ :: _, [], _, _, e => by simp at e
  | y :: ns, d :: ds, x, d', e => by
    rw [List.zip_cons_cons, List.lookup_cons] at e
    cases q : (x == y) with
    | true => rw [beq_iff_eq.mp q]; exact List.mem_cons_self
    | false =>
      rw [q] at e
      exact List.mem_cons_of_mem _ (zip_mem e)
theorem field_ok (pl : PlAll Γ cs) {d e : D} {v : V} (rs : RelS Γ f S H) (r : Rp Γ f H d v) (h : fieldOf Γ.flds S x d = some e) : ∃ a C dx fs u, v = .ref a ∧ H a = some (.ins C dx fs) ∧ Cls Γ.K C ∧ NoAttr Γ.K C x ∧ fs.lookup x = some u ∧ Rp Γ f H e u := by
  cases d with
  | ins C ds =>
    simp only [Rp] at r
    obtain ⟨a, dx, fvs, ev, hh, _, rf⟩ := r
    have h : ((Γ.flds C).zip ds).lookup x = some e := h
    obtain ⟨u, hu, ru⟩ := rf.look h
    have pc := pl.of (zip_mem h)
    exact ⟨a, _, dx, fvs, u, ev, hh, pc.cls, pc.na x (zip_mem h), hu, ru⟩
  | ref n =>
    simp only [Rp] at r
    obtain ⟨a, ha, ev⟩ := r
    have h : (match S[n]? with
      | some (.obj C ds) => ((Γ.flds C).zip ds).lookup x
      | _ => none) = some e := h
    split at h
    · rename_i C ds hn
      obtain ⟨b, hb, dx, fvs, hh, rf, _⟩ := rs.ob n _ hn
      rw [ha] at hb
      cases hb
      obtain ⟨u, hu, ru⟩ := rf.look h
      have pc := pl.of (zip_mem h)
      exact ⟨a, _, dx, fvs, u, ev, hh, pc.cls, pc.na x (zip_mem h), hu, ru⟩
    · cases h
  | _ => cases h
theorem q_fld (pl : PlAll Γ cs) (hK : X.K = Γ.K) (he : PE X e (tE Γ W ma)) (hb : attributeBase e x X.env (eval e X.env) = eval e X.env := by rfl) : PE X (.Attribute e x pos) (tE Γ W (mFld Γ.flds x ma)) := PE.imp (pe_fld he hb) fun σ H Q ⟨env, S, f, rs, re, h⟩ =>
  ⟨env, S, f, rs, re, Wp.bindL h fun d S1 f1 H1 v u1 rs1 r1 h1 => by
    revert h1
    split
    · rename_i e1 he1
      intro h1
      obtain ⟨a, C, dx, fs, u, ev, hh, hc, hn, hl, ru⟩ := field_ok pl rs1 r1 he1
      rw [hK]
      exact ⟨a, C, dx, fs, u, ev, hh, hc, hn, hl, h1 f1 H1 u .refl rs1 ru⟩
    · exact fun h => h.elim⟩
end
/-! ### self.x = e within __init__ -/
def setF (flds : Str → List Str) (i : Nat) (x : Str) (d : D) (env : Env) (S : Store) : RS := match env[i]? with
  | some (some (.ref n)) => (match S[n]? with
    | some (.obj C ds) => if (flds C)[ds.length]? = some x ∧ x ∉ (flds C).take ds.length ∧ ds.length < 900 then .nx env (S.set n (.obj C (ds ++ [d]))) else .bad
    | _ => .bad)
  | _ => .bad
def mSetF (flds : Str → List Str) (i : Nat) (x : Str) (a : ME) : MS := fun env S => (a env S).bindS env fun d S1 => setF flds i x d env S1
section
variable {Γ : G} {W : WX} {X : Cx} {f : List Addr} {H : Hp} {S : Store} {e o : Expr} {es : List Expr} {ma : ME} {mr : MA} {p pos apos pos' : Pos} {x : Str} {cs : List Str}
theorem qs_setF {i : Nat} {s : Str} (pl : PlAll Γ cs) (hK : X.K = Γ.K) (ha : PE X e (tE Γ W ma)) (hN : X.N[i]? = some s := by rfl) (hv : Vis X.env.scope s := by first | exact Or.inl rfl | exact Or.inr (Or.inl rfl) | exact Or.inr (Or.inr rfl)) (hs : swapsWith e (some (.Attribute (.Name s p) x pos')) pos.line X.env = pure false := by rfl)
    (hd : (s == ("__debug__" : Str)) = false := by decide) (hcd : (s == ("__classdict__" : Str)) = false := by decide) : PS X (.Assign [.Attribute (.Name s p) x pos'] e pos) (tS Γ W (mSetF Γ.flds i x ma)) := PS.imp (ps_fld (pv i hN hv hd hcd) ha hs) fun D σ H ⟨env, S, f, rs, re, h⟩ =>
  ⟨env, S, f, rs, re, WpS.bindL re h fun d S1 f1 H1 v u1 rs1 r1 h1 => by
    unfold setF at h1
    split at h1
    · rename_i n hi
      split at h1
      · rename_i C ds hn
        split at h1
        · rename_i c
          obtain ⟨c1, c2, c3⟩ := c
          have re1 := re.up u1
          obtain ⟨w, hw, rw'⟩ := re1.2.1 i _ hi
          simp only [Rp] at rw'
          obtain ⟨a, ha1, ew⟩ := rw'
          subst ew
          obtain ⟨b, hb, dx, fvs, hh, rf, hm, hl⟩ := rs1.ob n _ hn
          rw [ha1] at hb
          cases hb
          have pc := pl.of (List.mem_of_getElem? c1)
          have l0 : fvs.lookup x = none := by
            cases q : fvs.lookup x with
            | none => rfl
            | some z => exact absurd (hm x (by rw [q]; rfl)) c2
          have grow : ∀ y z, fvs.lookup y = some z → (putF x v fvs).lookup y = some z := fun y z q => by
            rw [lookup_putF, if_neg]
            · exact q
            · intro ey
              rw [ey, l0] at q
              cases q
          have lx : (putF x v fvs).lookup x = some v := by rw [lookup_putF, if_pos rfl]
          have back : ∀ y, ((putF x v fvs).lookup y).isSome = true → (fvs.lookup y).isSome = true ∨ y = x := fun y q => by
            rw [lookup_putF] at q
            by_cases ey : y = x
            · exact .inr ey
            · rw [if_neg ey] at q
              exact .inl q
          have kp : Keep Γ H1 (upd H1 a (.ins (Γ.c C) dx (putF x v fvs))) := by
            refine ⟨fun b xs q => ?_, fun b o u q => ?_, fun b fs q => ?_, fun C' b dx' fs q => ?_⟩
            · rw [upd_ne (ne_of q hh (by intro z; cases z))]; exact q
            · rw [upd_ne (ne_of q hh (by intro z; cases z))]; exact q
            · rw [upd_ne (ne_of q hh (by intro z; cases z))]; exact q
            · by_cases eb : b = a
              · subst eb
                rw [hh] at q
                cases q
                exact ⟨_, upd_same, grow, fun y q => (back y q).imp id fun ey => by rw [ey]; exact pc.sub x (List.mem_of_getElem? c1)⟩
              · exact ⟨fs, by rw [upd_ne eb]; exact q, fun _ _ q => q, fun _ q => .inl q⟩
          have uc : Up Γ f1 H1 f1 (upd H1 a (.ins (Γ.c C) dx (putF x v fvs))) := ⟨⟨[], by simp⟩, kp⟩
          refine ⟨_, hw, a, _, dx, fvs, rfl, hh, by rw [hK]; exact pc.cls, by rw [hK]; exact pc.na x (List.mem_of_getElem? c1), by omega, ?_⟩
          refine h1 f1 σ _ uc (rs1.set ha1 kp ⟨dx, _, upd_same, RpF.add (rf.up uc fun _ _ q => q) c1 grow lx (r1.up uc), fun y q => ?_, ?_⟩) (re1.up uc)
          · rcases back y q with q | ey
            · have := hm y q
              rw [List.length_append, List.take_add]
              exact List.mem_append_left _ this
            · subst ey
              rw [List.length_append, List.take_add]
              refine List.mem_append_right _ ?_
              have hlt := (List.getElem?_eq_some_iff.mp c1).1
              rw [List.drop_eq_getElem_cons hlt]
              have : (Γ.flds C)[ds.length] = y := (List.getElem?_eq_some_iff.mp c1).2
              rw [this]
              simp
          · have := length_putF x v fvs
            rw [List.length_append]
            show _ ≤ ds.length + 1
            omega
        · exact h1.elim
      · exact h1.elim
    · exact h1.elim⟩
end
/-! ### a new instance -/
section
variable {Γ : G} {W : WX} {X : Cx} {f : List Addr} {H : Hp} {S : Store} {a : Expr} {es : List Expr} {mr : MA} {p pos : Pos} {x C : Str} {fA : Addr} {fd : FuncData} {ps : List Str} {k n : Nat} {m : List D → Store → R D}
/-- the new instance is made and its __init__ run, at the slots σ -/
theorem make_at {pins : List (Addr × Obj)} {σ : L2.St} {s : Shared} {Q : VK} {E : XK} {us : List Value} {vs : List V} {Ca : Addr} {sp : Sp} (M : Mk X.K Ca fA) (F : FnOk X.prog X.w X.K X.mg X.base (L2.CX X.prog X.w) k fA fd ps sp) (hr : Room (k + 1) X.A) (hb : Binds X.K fd ps []) (hx : PassesAt (L2.CX X.prog X.w) X σ E)
    (I : Inv X pins σ H s) (r : Vals vs us) (h : ∀ y dy, H y = none → H dy = none → dy ≠ y → sp (.ref y :: vs) (upd (upd H dy (.own y)) y (.ins Ca dy [])) (fun v H2 => v = .non ∧ Q (.ref y) H2) E) :
    wpAny (model X.prog X.w) X.A (call (.ref Ca) us) (EP X pins σ Q) X.xe s := by
  have f1 : H (s.heap.objs.size + 1) = none := I.hok.fresh (Nat.le_succ _)
  have f0 : H s.heap.objs.size = none := I.hok.fresh (Nat.le_refl _)
  have hs := h _ _ f1 f0 (Nat.ne_of_lt (Nat.lt_succ_self _))
  have J := Inv.made (C := Ca) I
  have rr : Vals (V.ref (s.heap.objs.size + 1) :: vs) (Value.ref (s.heap.objs.size + 1) :: us) := Paired.cons rfl r
  have ll : (Value.ref (s.heap.objs.size + 1) :: us).length = ps.length := by rw [← rr.length]; exact F.len _ _ _ _ hs
  have hbb := hb _ (Value.ref (s.heap.objs.size + 1) :: us) J.kIn (by rw [List.append_nil]; exact ll)
  rw [List.append_nil] at hbb
  have go := F.run _ X.stack _ _ ⟨Value.ref (s.heap.objs.size + 1) :: us, []⟩ _ _ _ E (hr.make Ca us []) (J.env0.make Ca us []) hbb rr hs
  refine wpAny_call (make_map (f := fA) I.kIn M.makes M.init (beq_iff_eq.mp M.fn) (codeAny_mono go fun res s' hq => ?_))
  match res, hq with
  | .error er, hq => exact hx pins _ _ er s' J hq
  | .ok (.ret u), hq =>
    obtain ⟨v, H', I3, rv, ev, q3⟩ := J.after hq
    subst ev
    exact ⟨rv, V.ref (s.heap.objs.size + 1), H', I3, rfl, q3⟩
def tMakeS (Ca : Addr) (sp : Sp) (E : L2.St → XK) (t : TA) : TE := fun σ H Q => t σ H fun vs H1 => ∀ y dy, H1 y = none → H1 dy = none → dy ≠ y →
  sp (.ref y :: vs) (upd (upd H1 dy (.own y)) y (.ins Ca dy [])) (fun v H2 => v = .non ∧ Q (.ref y) H2) (E σ)
theorem pe_makeS {sp : Sp} {E : L2.St → XK} {Ca : Addr} {t : TA} (M : Mk X.K Ca fA) (F : FnOk X.prog X.w X.K X.mg X.base (L2.CX X.prog X.w) k fA fd ps sp) (hr : Room (k + 1) X.A) (hg : Gl X x) (hm : X.mg x = some (.ref Ca)) (hb : Binds X.K fd ps []) (hx : ∀ σ, PassesAt (L2.CX X.prog X.w) X σ (E σ))
    (ha : PA X (a :: es) t) (hdb : (x == ("__debug__" : Str)) = false := by decide) (he : starEach (a :: es) X.env = (false, eval a X.env) :: starEach es X.env := by rfl) (hpl : (backTo pos (starEach es X.env)).any (·.1) = false := by rfl) :
    PE X (.Call (.Name x p) (a :: es) [] pos) (tMakeS Ca sp E t) := ⟨fun pins s σ H Q I h => by
  refine wpAny_Call_Name_kw (ld_glob I hg hm ?_ hdb)
  exact PySem.W.callWith_K (h₀ := X.base) I.ok.mod.kin M.kp (thn (ha.run pos pins s σ H _ I h) fun us s1 ⟨vs, H1, I1, r, q⟩ => ⟨I1.kIn, make_at M F hr hb (hx σ) I1 r q⟩) he hpl⟩
theorem mk_core {σ : L2.St} {Q : VK} {xs : List D} {vs : List V} (hsub : ∀ y ∈ Γ.flds C, y ∈ Γ.af) (rs : RelS Γ f S H) (r : RpL Γ f H xs vs) (h : Wp Γ W σ f H (Rp Γ) Q (if xs.length + 1 = n then mkOf C m xs S else .bad)) (y dy : Addr) (hy : H y = none) (hdy : H dy = none) (hne : dy ≠ y) :
    spOf Γ n m (.ref y :: vs) (upd (upd H dy (.own y)) y (.ins (Γ.c C) dy [])) (fun v H2 => v = .non ∧ Q (.ref y) H2) (WE W σ) := by
  by_cases hl : xs.length + 1 = n
  · rw [if_pos hl] at h
    have hy2 : upd H dy (.own y) y = none := by rw [upd_ne (Ne.symm hne)]; exact hy
    have u1 : Up Γ f H f (upd H dy (.own y)) := .new hdy
    have u2 : Up Γ f H (f ++ [y]) (upd (upd H dy (.own y)) y (.ins (Γ.c C) dy [])) := u1.trans (.alloc hy2)
    have rs2 : RelS Γ (f ++ [y]) (S ++ [.obj C []]) (upd (upd H dy (.own y)) y (.ins (Γ.c C) dy [])) := (rs.newT (o := .own y) hdy).alloc (b := .obj C []) hy2 ⟨dy, [], upd_same, by simp only [RpF], fun z hz => by simp at hz, Nat.zero_le _⟩
    refine ⟨by rw [List.length_cons, ← r.length]; exact hl, f ++ [y], S ++ [.obj C []], .ref S.length :: xs, rs2, ?_, ?_⟩
    · simp only [RpL]
      exact ⟨_, vs, rfl, Rp.refI (by rw [← rs.len]; simp), r.up u2⟩
    · unfold mkOf at h
      revert h
      cases hm : m (.ref S.length :: xs) (S ++ [.obj C []]) with
      | ok d S2 =>
        cases d with
        | non =>
          intro h f3 H3 b u3 rs3 rb
          simp only [Rp] at rb
          refine ⟨rb, ?_⟩
          revert h
          dsimp only
          split
          · rename_i C' ys hn
            split
            · rename_i ec
              subst ec
              intro h
              have hf3 : f3[S.length]? = some y := u3.at (by rw [← rs.len]; simp)
              obtain ⟨b', hb', dx, fvs, hh, rf, hms, hll⟩ := rs3.ob _ _ hn
              rw [hf3] at hb'
              cases hb'
              have rp : Rp Γ f3 H3 (.ins C' ys) (.ref y) := by
                simp only [Rp]
                exact ⟨y, dx, fvs, rfl, hh, fun z hz => hsub z (List.mem_of_mem_take (hms z hz)), rf⟩
              unfold mkEnd at h
              split at h
              · rename_i c
                obtain ⟨⟨t, et⟩, kp⟩ := u2.trans u3
                subst et
                have rp2 : Rp Γ f H3 (.ins C' ys) (.ref y) := rp.cut (by simp only [D.cl]; rw [rs.len]; exact c.1)
                exact h f H3 _ ⟨⟨[], by simp⟩, kp⟩ (rs.cut rs3 c.2) rp2
              · exact h f3 H3 _ (u2.trans u3) (rs3.drop _) rp
            · exact fun h => h.elim
          · exact fun h => h.elim
        | _ => exact fun h => h.elim
      | ex C' ys S2 =>
        intro h f3 H3 o u3 rs3 xr
        exact Wp.gcX rs h f3 H3 o (u2.trans u3) rs3 xr
      | bad => exact fun h => h
  · rw [if_neg hl] at h
    exact h.elim
theorem q_make (hsub : ∀ y ∈ Γ.flds C, y ∈ Γ.af) (M : Mk X.K (Γ.c C) fA) (F : FnOk X.prog X.w X.K X.mg X.base (L2.CX X.prog X.w) k fA fd ps (spOf Γ n m)) (hr : Room (k + 1) X.A) (hm : X.mg x = some (.ref (Γ.c C))) (hb : Binds X.K fd ps []) (tk : Takes X W)
    (ha : PA X (a :: es) (tA Γ W mr)) (hg : Gl X x := by rfl) (hdb : (x == ("__debug__" : Str)) = false := by decide) (he : starEach (a :: es) X.env = (false, eval a X.env) :: starEach es X.env := by rfl) (hpl : (backTo pos (starEach es X.env)).any (·.1) = false := by rfl) :
    PE X (.Call (.Name x p) (a :: es) [] pos) (tE Γ W (mMake C n m mr)) := PE.imp (pe_makeS (E := fun σ => WE W σ) M F hr hg hm hb (fun σ => passAt tk σ) ha hdb he hpl) fun σ H Q ⟨env, S, f, rs, re, h⟩ =>
  ⟨env, S, f, rs, re, Wp.bindL h fun xs S1 f1 H1 vs u1 rs1 r1 h1 => fun y dy hy hdy hne => mk_core hsub rs1 r1 h1 y dy hy hdy hne⟩
end
/-! ### methods -/
def mMeth (C : Str) (n : Nat) (m : List D → Store → R D) (o : ME) (a : MA) : ME := fun env S => (o env S).bind fun d S1 => match d with
  | .ins C' xs => if C' = C then (a env S1).bind fun ds S2 => if ds.length + 1 = n then m (.ins C xs :: ds) S2 else .bad else .bad
  | _ => .bad
section
variable {Γ : G} {W : WX} {X : Cx} {f : List Addr} {H : Hp} {S : Store} {a o : Expr} {es : List Expr} {mo : ME} {mr : MA} {p pos apos : Pos} {x C mn : Str} {fA : Addr} {fd : FuncData} {ps : List Str} {k n : Nat} {m : List D → Store → R D}
def tMethS (Ca : Addr) (mn : Str) (sp : Sp) (E : L2.St → XK) (ta : TE) (t : TA) : TE := fun σ H Q => ta σ H fun x H1 => ∃ a dx fs, x = .ref a ∧ H1 a = some (.ins Ca dx fs) ∧ fs.lookup mn = none ∧ t σ H1 fun vs H2 => sp (x :: vs) H2 Q (E σ)
theorem pe_methS {pl : Sem Bool} {sp : Sp} {E : L2.St → XK} {Ca : Addr} {ta : TE} {t : TA} (he : PE X o ta) (c : Cls X.K Ca) (hm : Meth X.K Ca mn fA) (F : FnOk X.prog X.w X.K X.mg X.base (L2.CX X.prog X.w) k fA fd ps sp) (hr : Room k X.A) (hb : Binds X.K fd ps []) (hx : ∀ σ, PassesAt (L2.CX X.prog X.w) X σ (E σ)) (ha : PA X (a :: es) t)
    (hst : starEach (a :: es) X.env = (false, eval a X.env) :: starEach es X.env := by rfl) (hpl : (backTo pos (starEach es X.env)).any (·.1) = false := by rfl)
    (ht : eval (.Call (.Attribute o mn apos) (a :: es) [] pos) X.env = (do
      let ov ← eval o X.env
      standAt apos.atName
      let (f, first) ← holding [ov] (getMethod ov mn pl)
      callWith pos f first (backTo pos (starEach (a :: es) X.env)) (backToKw pos (keywordEach [] X.env))) := by rfl) : PE X (.Call (.Attribute o mn apos) (a :: es) [] pos) (tMethS Ca mn sp E ta t) := ⟨fun pins s σ H Q I h => by
  refine PySem.W.methodCall_KW (pl := pl) (thn (he.run pins s σ H _ I h) fun u s1 ⟨x, H1, I1, rx, b, dx, fs, ex, eb, l, q⟩ => ?_) ht
  subst ex
  obtain rfl : u = Value.ref b := rx
  refine getmeth_ok I1 eb c hm l (PySem.W.callWith_K (first := [.ref b]) (h₀ := X.base) I.ok.mod.kin hm.kp (thn (ha.run pos pins s1 σ H1 _ I1 q) fun us s2 ⟨vs, H2, I2, r, q2⟩ => ⟨I2.kIn, ?_⟩) hst hpl)
  exact run_fnS (us := .ref b :: us) (vs := .ref b :: vs) F hr hb (hx σ) I2 (.cons rfl r) q2⟩
theorem q_meth (hna : mn ∉ Γ.af) (c : Cls X.K (Γ.c C)) (hm : Meth X.K (Γ.c C) mn fA) (F : FnOk X.prog X.w X.K X.mg X.base (L2.CX X.prog X.w) k fA fd ps (spOf Γ n m)) (hr : Room k X.A) (hb : Binds X.K fd ps []) (tk : Takes X W) (ho : PE X o (tE Γ W mo)) (ha : PA X (a :: es) (tA Γ W mr)) {pl : Sem Bool}
    (hst : starEach (a :: es) X.env = (false, eval a X.env) :: starEach es X.env := by rfl) (hpl : (backTo pos (starEach es X.env)).any (·.1) = false := by rfl)
    (ht : eval (.Call (.Attribute o mn apos) (a :: es) [] pos) X.env = (do
      let ov ← eval o X.env
      standAt apos.atName
      let (f, first) ← holding [ov] (getMethod ov mn pl)
      callWith pos f first (backTo pos (starEach (a :: es) X.env)) (backToKw pos (keywordEach [] X.env))) := by rfl) : PE X (.Call (.Attribute o mn apos) (a :: es) [] pos) (tE Γ W (mMeth C n m mo mr)) :=
  PE.imp (pe_methS (E := fun σ => WE W σ) ho c hm F hr hb (fun σ => passAt tk σ) ha hst hpl ht) fun σ H Q ⟨env, S, f, rs, re, h⟩ => ⟨env, S, f, rs, re, Wp.bindL h fun d S1 f1 H1 v u1 rs1 r1 h1 => by
    cases d with
    | ins C' xs =>
      have h1 : Wp Γ W σ f1 H1 (Rp Γ) Q (if C' = C then (mr env S1).bind fun ds S2 => if ds.length + 1 = n then m (.ins C xs :: ds) S2 else .bad else .bad) := h1
      split at h1
      · rename_i ec
        subst ec
        have r0 := r1
        simp only [Rp] at r1
        obtain ⟨a, dx, fvs, ev, hh, hm', rf⟩ := r1
        refine ⟨a, dx, fvs, ev, hh, ?_, env, S1, f1, rs1, re.up u1, Wp.bindL h1 fun ys S2 f2 H2 vs u2 rs2 r2 h2 => ?_⟩
        · cases q : fvs.lookup mn with
          | none => rfl
          | some z => exact absurd (hm' mn (by rw [q]; rfl)) hna
        · refine Wp.spOf (xs := .ins C' xs :: ys) rs2 ?_ h2
          simp only [RpL]
          exact ⟨v, vs, rfl, r0.up u2, r2⟩
      · exact h1.elim
    | _ => exact h1.elim⟩
end
end Lk

set_option Elab.async false
set_option linter.all false
set_option autoImplicit false
set_option maxRecDepth 100000
set_option maxHeartbeats 2000000
namespace Lk
open PySem PySem.Spec PyProof.Rows L2

/-! ### errors whose __init__ keeps one thing -/
theorem ok_x1 {P : Program} {w : World} {K : PySem.W.Frag} {mg : Str → Option Value} {base : Heap} {x qual s n fn : Str} {params : Arguments} {scope : Scope} {kws : List (Str × V)} {f Ca : Addr} {fd : FuncData} {p1 p2 p3 p4 : Pos}
    (F : FunD K x qual params [.Assign [.Attribute (.Name s p1) fn p2] (.Name n p3) p4] scope [] kws f fd) (Sc : FnScope [s, n] [s, n] scope) (T : OexC K Ca) (hno : PySem.W.findIn K (.ref Ca) fn = some none)
    (v0 : Vis scope s) (v1 : Vis scope n) (h1 : (s == ("__debug__" : Str)) = false := by decide) (h2 : (s == ("__classdict__" : Str)) = false := by decide) (h3 : (n == ("__debug__" : Str)) = false := by decide) (h4 : (n == ("__classdict__" : Str)) = false := by decide) :
    FnOk P w K mg base (L2.CX P w) 1 f fd [s, n] (spX1 Ca fn) :=
  FunD.ok F Sc (fun vs H Q E h => by obtain ⟨a, v, e, _⟩ := h; rw [e]; rfl) fun cdv A outer st H vs Q E hr h => ⟨_, pss_one (ps_ost (pe_var (i := 0) rfl v0 h1 h2) (pe_var (i := 1) rfl v1 h3 h4)), by
    obtain ⟨a, v, e, ha, q⟩ := h
    subst e
    exact ⟨v, rfl, _, rfl, a, Ca, rfl, T, hno, .inl ⟨ha, fun d hd hne => q d hd hne⟩⟩⟩
section
variable {Γ : G} {W : WX} {X : Cx} {f : List Addr} {H : Hp} {S : Store} {e : Expr} {ma : ME} {p pos pos2 : Pos} {C fn : Str}
theorem qs_raise1 {k : Nat} (hK : X.K = Γ.K) (T : X1 Γ X.prog X.w X.mg X.base C fn) (hc : X.calm = true) (tk : Takes X W) (hr : Room k X.A) (hk : 2 ≤ k) (ha : PE X e (tE Γ W ma)) (hg : Gl X C := by rfl) (hdb : (C == ("__debug__" : Str)) = false := by decide) (hst : starEach (e :: []) X.env = (false, eval e X.env) :: starEach [] X.env := by rfl)
    (hpl : (backTo pos (starEach [] X.env)).any (·.1) = false := by rfl) : PS X (.Raise (some (.Call (.Name C p) [e] [] pos)) none pos2) (tS Γ W (mRaise1 C ma)) := by
  obtain ⟨fI, fd, s, n, i1, i2, i3, i4⟩ := T.ini
  have hr2 : Room (1 + 1) X.A := hr.mono (by omega)
  have noX : Passes (L2.CX X.prog X.w) X (fun _ _ _ => False) := fun _ _ _ _ _ _ _ c => by
    obtain ⟨_, _, _, _, _, _, _, _, _, _, _, _, z⟩ := c
    exact z.elim
  have mk := pmk_oex (p := p) (pos := pos) (C := Γ.c C) (dvs := []) (T := by rw [hK]; exact T.oex) (by rw [hK]; exact i1) (by rw [hK]; exact i2) (by rw [hK]; exact i3) hr2 (by rw [hK]; exact i4) .nil noX hg T.gl (pa_cons ha pa_nil hst) hdb hst hpl
  refine PS.imp (ps_raise hc tk mk) fun D σ H ⟨env, S, f, rs, re, h⟩ => ⟨env, S, f, rs, re, WpS.bindL re h fun d S1 f1 H1 v u1 rs1 r1 h1 => ⟨(by show 1 ≤ 1000; decide), fun a ha' => ?_⟩⟩
  refine ⟨a, v, rfl, upd_same, fun dd hdd hne => ⟨rfl, dd, _, upd_same, by rw [upd_ne hne, upd_same], ?_, ?_⟩⟩
  · rw [upd_ne hne] at hdd
    exact hdd
  · have hdd1 : H1 dd = none := by
      rw [upd_ne hne] at hdd
      exact hdd
    have eH : upd (del (upd (upd (upd H1 a (exo a (Γ.c C) none)) dd (exd dd [(fn, v)])) a (exo a (Γ.c C) (some dd))) a) dd (.xd [(fn, v)]) = upd H1 dd (.xd [(fn, v)]) := by
      funext b
      by_cases hb : b = dd
      · subst hb
        rw [upd_same, upd_same]
      · rw [upd_ne hb, upd_ne hb]
        by_cases ha2 : b = a
        · subst ha2
          rw [del_same, ha']
        · rw [del_ne ha2, upd_ne ha2, upd_ne hb, upd_ne ha2]
    rw [eH]
    refine h1 f1 σ _ _ (.new hdd1) (rs1.newT hdd1) ((re.up u1).up (.new hdd1)) (.inr ⟨dd, _, rfl, upd_same, ?_⟩)
    rw [T.fl]
    simp only [RpF]
    exact ⟨fn, [], v, rfl, by simp [List.lookup], r1.up (.new hdd1), trivial⟩
end
/-! ### errors that keep nothing -/
theorem ok_x0 {P : Program} {w : World} {K : PySem.W.Frag} {mg : Str → Option Value} {base : Heap} {x qual s : Str} {params : Arguments} {scope : Scope} {kws : List (Str × V)} {f Ca : Addr} {fd : FuncData} {p1 : Pos}
    (F : FunD K x qual params [.Pass p1] scope [] kws f fd) (Sc : FnScope [s] [s] scope) : FnOk P w K mg base (L2.CX P w) 1 f fd [s] (spX0 Ca) :=
  FunD.ok F Sc (fun vs H Q E h => by obtain ⟨a, e, _⟩ := h; rw [e]; rfl) fun cdv A outer st H vs Q E hr h => ⟨_, pss_one ps_pass, by
    obtain ⟨a, e, ha, q⟩ := h
    exact q⟩
section
variable {X : Cx} {p pos pos2 : Pos}
/-- the made error is let go: the heap without it -/
theorem bare_end {pins : List (Addr × Obj)} {σ : L2.St} {H1 : Hp} {Q : XK} {hp hp2 h2 : Heap} {g1 g2 : Array GenState} {d1 d2 : Drawn} {t1 t2 : Nat} {os1 os2 : OsState} {a Ca : Addr} (T : Raises X (.ref Ca)) (I1 : Inv X pins σ H1 ⟨hp, g1, d1, t1, os1⟩) (ha : hp.objs.size ≤ a)
    (k : ∀ b o, hp.get? b = some o → hp2.get? b = some o) (un : Un (frs X.stack) [] (upd H1 a (exo a Ca none)) (upd H1 a (exo a Ca none)) hp2 h2) (hok : HOk X.prog X.w (upd H1 a (exo a Ca none)) h2) (ho : os2 = os1) (hb : AllBare g2) (q : Q (.ref Ca) none H1) : MkP X pins σ Q (.ref a) ⟨h2, g2, d2, t2, os2⟩ := by
  obtain ⟨t0, hoe⟩ := exo_at hok upd_same
  have hn : H1 a = none := I1.hok.fresh ha
  obtain ⟨Gh, gOn, gOff⟩ := restrict h2 fun b => decide (b ≠ a)
  have same : ∀ b, b ≠ a → Gh.get? b = h2.get? b := fun b z => gOn b (decide_eq_true z)
  have off : Gh.get? a = none := gOff a (by simp)
  have old : ∀ {b : Addr} {o : Obj}, hp.get? b = some o → b ≠ a := fun {b o} z => Nat.ne_of_lt (Nat.lt_of_lt_of_le (Heap.lt_size z) ha)
  have free : ∀ {b : Addr}, b ≠ a → H1 b = none → upd H1 a (exo a Ca none) b = none := fun {b} z n => (upd_ne z).trans n
  have U : Un (frs X.stack) [] H1 H1 hp Gh := ⟨fun b o z n hf hx => (same b (old z)).trans (un.keep b o (k b o z) (free (old z) n) hf hx), fun b o z n hf hx => by
    obtain ⟨sl, e⟩ := un.slot b o (k b o z) (free (old z) n) hf hx
    exact ⟨sl, (same b (old z)).trans e⟩, fun b o z n hx => n, fun b o z hx => by
    obtain ⟨o', e⟩ := un.there b o (k b o z) hx
    exact ⟨o', (same b (old z)).trans e⟩, fun _ _ z => z, fun _ _ _ z => z, fun b ps z => ⟨#[], by rw [z]; simp⟩⟩
  have hok3 : HOk X.prog X.w H1 Gh := fun b o z => by
    have hba : b ≠ a := ne_of_none z hn
    have z2 : upd H1 a (exo a Ca none) b = some o := (upd_ne hba).trans z
    have noa : ∀ {c : Addr}, upd H1 a (exo a Ca none) c = some (.own b) → c ≠ a := fun {c} hc => at_ne upd_same hc exo_own
    refine (hok b o z2).stay (fun c v hc y => ?_) (fun c hc => ?_) fun c xs hc => ?_
    · have hca : c ≠ a := by
        rcases hc with hc | hc
        · rw [hc]; exact hba
        · exact noa hc
      exact (same c hca).trans y
    · rw [upd_ne (noa hc)] at hc
      exact hc
    · rw [upd_ne (at_ne upd_same hc exo_tup)] at hc
      exact hc
  have J : Inv X pins σ H1 ⟨Gh, g2, d2, t2, os2⟩ := I1.call' (ch := []) ho U hok3 hb (fun b z => absurd z (by simp))
  refine ⟨a, _, _, ⟨Gh, g2, d2, t2, os2⟩, H1, .ref Ca, none, rfl, J, fun b o z => ?_, off, hoe, ⟨rfl, rfl⟩, rfl, rfl, hn, rfl, hb, T, q⟩
  by_cases hba : b = a
  · rw [hba] at z
    have z : Gh.get? a = some o := z
    rw [off] at z
    cases z
  · exact (same b hba).symm.trans z
theorem pmk_bare {C : Str} {Ca fI : Addr} {k : Nat} {fd : FuncData} {s : Str} (T : OexC X.K Ca) (iC : PySem.W.findIn X.K (.ref Ca) "__init__" = some (some (.ref fI))) (tI : PySem.W.typeIn X.K (.ref fI) = some (.type "function"))
    (F1 : FnOk X.prog X.w X.K X.mg X.base (L2.CX X.prog X.w) k fI fd [s] (spX0 Ca)) (hr : Room (k + 1) X.A) (hb : Binds X.K fd [s] []) (hg : Gl X C) (hm : X.mg C = some (.ref Ca)) (hdb : (C == ("__debug__" : Str)) = false := by decide) :
    PMk X (.Call (.Name C p) [] [] pos) (fun _ H Q => Q (.ref Ca) none H) := by
  intro pins st σ H Q I h
  obtain ⟨nm, q, N, bs, bm, sn, sub, ab, col, dd, k0, k1, k2, k3, k5, hC, hbm⟩ := T.cls
  refine wpAny_Call_Name_kw (ld_glob I hg hm ?_ hdb)
  refine PySem.W.callWith_K0 I.kIn T.kC ?_
  show wpAny _ _ (call (.ref Ca) []) _ _ _
  obtain ⟨hp, g, dr, tk, os⟩ := st
  have hsz : hp.objs.size ≤ hp.objs.size + 1 := Nat.le_succ _
  have kk : ∀ b o, hp.get? b = some o → ((hp.push (PySem.W.kdv_tup [])).push (PySem.HandSPX.excO Ca hp.objs.size)).get? b = some o := fun b o e => Heap.get?_push_of_some _ (Heap.get?_push_of_some _ e)
  have hget : ((hp.push (PySem.W.kdv_tup [])).push (PySem.HandSPX.excO Ca hp.objs.size)).get? (hp.objs.size + 1) = some (PySem.HandSPX.excO Ca hp.objs.size) := by heap_get
  have J : Inv X pins σ (upd H (hp.objs.size + 1) (exo (hp.objs.size + 1) Ca none)) ⟨(hp.push (PySem.W.kdv_tup [])).push (PySem.HandSPX.excO Ca hp.objs.size), g, dr, tk, os⟩ := I.laid (t' := tk) kk hsz (exo_ok hget)
  have hbb := hb ⟨(hp.push (PySem.W.kdv_tup [])).push (PySem.HandSPX.excO Ca hp.objs.size), g, dr, tk, os⟩ [Value.ref (hp.objs.size + 1)] J.kIn rfl
  have go := F1.run _ X.stack _ _ ⟨[Value.ref (hp.objs.size + 1)], []⟩ _ [V.ref (hp.objs.size + 1)] (fun v H2 => v = .non ∧ H2 = upd H (hp.objs.size + 1) (exo (hp.objs.size + 1) Ca none)) (fun _ _ _ => False) (hr.make Ca [] []) (J.env0.make Ca [] []) hbb (.cons rfl .nil) ⟨_, rfl, upd_same, rfl, rfl⟩
  refine wpAny_call (PySem.HandSPX.call_own F.excBase_ValueError (fun Y => PySem.HandSPX.refsVE_contains Y bm hbm) (I.kIn _ _ hC) (PySem.W.looks_findIn I.kIn iC) (fun self => PySem.W.bind_fn I.kIn self tI) (Nat.zero_le _) (codeAny_mono go fun r s' hq => ?_))
  match r, hq with
  | .error er, hq =>
    obtain ⟨_, _, _, _, _, _, _, _, _, _, _, _, z⟩ := hq
    exact z.elim
  | .ok (.ret u), hq =>
    obtain ⟨v, H2, os2, bare2, un2, hok2, rv, ev, eH⟩ := hq
    subst ev
    subst eH
    obtain ⟨h2, g2, d2, t2, os'⟩ := s'
    exact ⟨rv, bare_end (raises_own T.exC T.tyC) I hsz kk un2 hok2 os2 bare2 h⟩
theorem qs_raise0 {Γ : G} {W : WX} {C : Str} {k : Nat} (hK : X.K = Γ.K) (T : X0 Γ X.prog X.w X.mg X.base C) (hc : X.calm = true) (tk : Takes X W) (hr : Room k X.A) (hk : 2 ≤ k) (hg : Gl X C := by rfl) (hdb : (C == ("__debug__" : Str)) = false := by decide) :
    PS X (.Raise (some (.Call (.Name C p) [] [] pos)) none pos2) (tS Γ W (mRaise0 C)) := by
  obtain ⟨fI, fd, s, i1, i2, i3, i4⟩ := T.ini
  exact PS.imp (ps_raise hc tk (pmk_bare (Ca := Γ.c C) (T := by rw [hK]; exact T.oex) (by rw [hK]; exact i1) (by rw [hK]; exact i2) (by rw [hK]; exact i3) (hr.mono (show 1 + 1 ≤ k by omega)) (by rw [hK]; exact i4) hg T.gl hdb)) fun D σ H ⟨env, S, f, rs, re, h⟩ => h f σ H none .refl rs re (.inl ⟨rfl, rfl⟩)
end
section
variable {Γ Γ' : G} {f f' : List Addr} {H H' : Hp} {S : Store}
theorem Keep.sim (s : Sim Γ Γ') (k : Keep Γ H H') : Keep Γ' H H' := ⟨k.tup, k.frz, k.xd, fun C a dx fs h => by
  obtain ⟨fs', h1, h2, h3⟩ := k.ins C a dx fs h
  exact ⟨fs', h1, h2, by rw [← s.af]; exact h3⟩⟩
theorem Up.sim (s : Sim Γ Γ') (u : Up Γ f H f' H') : Up Γ' f H f' H' := ⟨u.pre, u.keep.sim s⟩
theorem ROb.sim (s : Sim Γ Γ') {o : Ob} {a : Addr} (h : ROb Γ f H o a) : ROb Γ' f H o a := by
  cases o with
  | lst ds => obtain ⟨vs, h1, h2⟩ := h; exact ⟨vs, h1, h2.sim s⟩
  | dk ds => obtain ⟨vs, h1, h3, h2⟩ := h; exact ⟨vs, h1, h3, h2.sim s⟩
  | dt ds => obtain ⟨vs, h1, h3, h2⟩ := h; exact ⟨vs, h1, h3, h2.sim s⟩
  | obj C ds =>
    obtain ⟨dx, vs, h1, h2, h3⟩ := h
    exact ⟨dx, vs, by rw [← s.c]; exact h1, by rw [← s.flds]; exact h2.sim s, by rw [← s.flds]; exact h3⟩
  | gone => exact h
theorem XRep.sim (s : Sim Γ Γ') {C : Str} {ds : List D} {o : Option Addr} (h : XRep Γ f H C ds o) : XRep Γ' f H C ds o := by
  rcases h with h | ⟨dd, fvs, e1, e2, r⟩
  · exact .inl h
  · exact .inr ⟨dd, fvs, e1, e2, by rw [← s.xfl]; exact r.sim s⟩
theorem RelS.sim (s : Sim Γ Γ') (r : RelS Γ f S H) (hx : ∀ a i C ds o, Γ'.xc = some (a, i, C, ds, o) → XRep Γ' f H C ds o) : RelS Γ' f S H := ⟨r.len, r.nd, fun n o e => by
  obtain ⟨a, h1, h2⟩ := r.ob n o e
  exact ⟨a, h1, h2.sim s⟩, hx⟩
theorem RelE.sim (s : Sim Γ Γ') {env : Env} {σ : L2.St} (r : RelE Γ f H env σ) (hx : ∀ a i C ds o, Γ'.xc = some (a, i, C, ds, o) → env[i]? = some none → σ[i]? = some (some (.ref a))) : RelE Γ' f H env σ := ⟨r.1, fun i d e => by
  obtain ⟨v, h1, h2⟩ := r.2.1 i d e
  exact ⟨v, h1, h2.sim s⟩, hx⟩
end
theorem sim_at (Γ : G) (a : Addr) (i : Nat) (C : Str) (ds : List D) (o : Option Addr) : Sim Γ (Γ.at_ a i C ds o) := ⟨rfl, rfl, rfl, rfl, rfl⟩
theorem sim_un (Γ : G) (a : Addr) (i : Nat) (C : Str) (ds : List D) (o : Option Addr) : Sim (Γ.at_ a i C ds o) Γ := ⟨rfl, rfl, rfl, rfl, rfl⟩
/-! ### try .. except C as n -/
def endAs (i : Nat) : RS → RS
  | .nx e S => .nx (e.set i none) S
  | .bk e S => .bk (e.set i none) S
  | .ct e S => .ct (e.set i none) S
  | .rt d S => .rt d S
  | _ => .bad
def mTryAs (sb : Str → Option Bool) (i : Nat) (mb : MS) (ms : Str → List D → MS) : MS := fun env S => match mb env S with
  | .ex C ds e S1 => (match sb C with
    | some true => endAs i (ms C ds (e.set i none) S1)
    | some false => .ex C ds e S1
    | none => .bad)
  | r => r
section
variable {Γ : G} {W : WX} {X : Cx} {C n : Str} {i : Nat} {body suite : List Stmt} {b₀ : Stmt} {np pos pos' : Pos} {mb : MS} {ms : Str → List D → MS} {sb : Str → Option Bool}
theorem qs_tryAs (hK : X.K = Γ.K) (hx0 : Γ.xc = none) (hsb : ∀ E b, sb E = some b → PySem.W.exmOne Γ.K (.ref (Γ.c E)) (.ref (Γ.c C)) = some b) (hs : X.stack = X.env :: X.outer) (hf : X.env.frame = some X.env.locals) (hN : X.N.Nodup) (hi : X.N[i]? = some n) (hln : X.env.kindOf n = some .local)
    (hc : Names X C (.ref (Γ.c C))) (tk : Takes X W) (hb : ∀ (W' : WX) (pn : List (Addr × Obj)) (xe : Value → Shared → Prop), Takes (X.tr pn xe) W' → PassesOwn (model X.prog X.w) X.A X.env xe → PSs (X.tr pn xe) body (tS Γ W' mb))
    (hsu : ∀ (a : Addr) (oe : Obj) (E : Str) (ds : List D) (d : Option Addr) (pn : List (Addr × Obj)), Zc (.ref (Γ.c E)) d oe → (∃ vs, oe.data = .fields vs) → PSs (X.suite a ((a, oe) :: pn)) (b₀ :: suite) (tS (Γ.at_ a i E ds d) Wno (ms E ds))) :
    PS X (.Try body [.ExceptHandler (some (.Name C np)) (some n) (b₀ :: suite) pos'] [] [] pos) (tS Γ W (mTryAs sb i mb ms)) := by
  refine PS.imp (ps_try_as (Wout := W) (tb := fun W' => tS Γ W' mb) (ts := fun a cls d => fun E σ H => ∃ p : Str × List D, cls = .ref (Γ.c p.1) ∧ tS (Γ.at_ a i p.1 p.2 d) Wno (ms p.1 p.2) E σ H) hs hf hN hi hln hc tk hb fun a oe cls d pn hz hd => PSs.some fun p e => by
    subst e
    exact hsu a oe p.1 p.2 d pn hz hd) fun D σ H ⟨env, S, f, rs, re, h⟩ => ⟨env, S, f, rs, re, ?_⟩
  unfold mTryAs at h
  revert h
  cases mb env S with
  | ex C' ds e S1 =>
    dsimp only
    intro h f1 σ1 H1 o u1 rs1 re1 xr
    cases q : sb C' with
    | none => rw [q] at h; exact h.elim
    | some b =>
      rw [q] at h
      refine ⟨b, by rw [hK]; exact hsb C' b q, fun eb a ha => ?_, fun eb => ?_⟩
      · subst eb
        refine ⟨(C', ds), rfl, e.set i none, S1, f1, rs1.sim (sim_at ..) ?_, (re1.miss hx0 i (some (.ref a))).sim (sim_at ..) ?_, ?_⟩
        · intro a' i2 C2 ds2 o2 e2
          cases e2
          exact xr.sim (sim_at ..)
        · intro a' i2 C2 ds2 o2 e2 q2
          cases e2
          have hl : i < σ1.length := by
            rw [← re1.1]
            have := (List.getElem?_eq_some_iff.mp q2).1
            rwa [List.length_set] at this
          exact List.getElem?_set_self hl
        · have h : WpS Γ W f H D (endAs i (ms C' ds (e.set i none) S1)) := h
          have un : ∀ {f2 : List Addr} {H2 : Hp} {S2 : Store}, RelS (Γ.at_ a i C' ds o) f2 S2 H2 → RelS Γ f2 S2 H2 := fun r => r.sim (sim_un ..) fun a i C ds o e => by
            rw [hx0] at e
            cases e
          have ne : ∀ {f2 : List Addr} {H2 : Hp} {e2 : Env} {σ2 : L2.St}, RelE (Γ.at_ a i C' ds o) f2 H2 e2 σ2 → RelE Γ f2 H2 e2 σ2 := fun r => r.sim (sim_un ..) fun a i C ds o e => by
            rw [hx0] at e
            cases e
          revert h
          cases ms C' ds (e.set i none) S1 with
          | nx e2 S2 => exact fun h f2 σ2 H2 u2 rs2 re2 => h f2 _ H2 (u1.trans (u2.sim (sim_un ..))) (un rs2) ((ne re2).miss hx0 i none)
          | bk e2 S2 => exact fun h f2 σ2 H2 u2 rs2 re2 => h f2 _ H2 (u1.trans (u2.sim (sim_un ..))) (un rs2) ((ne re2).miss hx0 i none)
          | ct e2 S2 => exact fun h f2 σ2 H2 u2 rs2 re2 => h f2 _ H2 (u1.trans (u2.sim (sim_un ..))) (un rs2) ((ne re2).miss hx0 i none)
          | rt d S2 => exact fun h f2 H2 v u2 rs2 r2 => h f2 H2 v (u1.trans (u2.sim (sim_un ..))) (un rs2) (r2.sim (sim_un ..))
          | ex C2 ds2 e2 S2 => exact fun h => h.elim
          | bad => exact fun h => h.elim
      · subst eb
        exact h f1 σ1 H1 o u1 rs1 re1 xr
  | nx e S1 => exact fun h => h
  | bk e S1 => exact fun h => h
  | ct e S1 => exact fun h => h
  | rt d S1 => exact fun h => h
  | bad => exact fun h => h
end
end Lk

set_option Elab.async false
set_option linter.all false
set_option autoImplicit false
set_option maxRecDepth 100000
set_option maxHeartbeats 2000000
namespace Lk
open PySem PySem.Spec PyProof.Rows L2

/-! ### several readings of one operation -/
theorem OpR.or {X : Cx} {f : Value → Value → Sem Value} {r r' : R2} (h : OpR X f r) (h' : OpR X f r') : OpR X f (fun x y H Q => r x y H Q ∨ r' x y H Q) := fun pins s σ H x y v u Q I rx ry z => z.elim (h pins s σ H x y v u Q I rx ry) (h' pins s σ H x y v u Q I rx ry)
theorem CallR.or {X : Cx} {f : Value} {r r' : List V → Hp → VK → Prop} (h : CallR X f r) (h' : CallR X f r') : CallR X f (fun x H Q => r x H Q ∨ r' x H Q) := fun pins s σ H x v Q I rx z => z.elim (h pins s σ H x v Q I rx) (h' pins s σ H x v Q I rx)
section
variable {Γ : G} {W : WX} {X : Cx} {f : List Addr} {H : Hp} {S : Store}
theorem Rp.ofInt {i : Int} : Rp Γ f H (.int i) (.int i) := by simp only [Rp]
theorem Rp.ofBl {i : Bool} : Rp Γ f H (.bl i) (.bl i) := by simp only [Rp]
theorem Rp.ofNon : Rp Γ f H .non .non := by simp only [Rp]
theorem RpL.append : ∀ {ds es : List D} {vs us : List V}, RpL Γ f H ds vs → RpL Γ f H es us → RpL Γ f H (ds ++ es) (vs ++ us)
  | [], _, _, _, r, q => by
    simp only [RpL] at r
    subst r
    exact q
  | d :: ds, _, _, _, r, q => by
    simp only [RpL] at r
    obtain ⟨v, vr, e, r1, r2⟩ := r
    subst e
    simp only [List.cons_append, RpL]
    exact ⟨v, _, rfl, r1, RpL.append r2 q⟩
theorem RpL.drop' : ∀ {ds : List D} {vs : List V} (n : Nat), RpL Γ f H ds vs → RpL Γ f H (ds.drop n) (vs.drop n)
  | _, _, 0, r => r
  | [], _, n + 1, r => by
    simp only [RpL] at r
    subst r
    simp only [List.drop_nil, RpL]
  | d :: ds, _, n + 1, r => by
    simp only [RpL] at r
    obtain ⟨v, vr, e, r1, r2⟩ := r
    subst e
    exact RpL.drop' n r2
theorem RpL.take' : ∀ {ds : List D} {vs : List V} (n : Nat), RpL Γ f H ds vs → RpL Γ f H (ds.take n) (vs.take n)
  | _, _, 0, r => by simp only [List.take_zero, RpL]
  | [], _, n + 1, r => by
    simp only [RpL] at r
    subst r
    simp only [List.take_nil, RpL]
  | d :: ds, _, n + 1, r => by
    simp only [RpL] at r
    obtain ⟨v, vr, e, r1, r2⟩ := r
    subst e
    simp only [List.take_succ_cons, RpL]
    exact ⟨v, _, rfl, r1, RpL.take' n r2⟩
/-! ### + - * // % ** -/
def rAddX (K : PySem.W.Frag) : R2 := fun x y H Q => rI0 (fun i j => .int (i + j)) x y H Q ∨ (rCatA K x y H Q ∨ rCat x y H Q)
theorem or_add : OpR X (binaryOp .Add) (rAddX X.K) := OpR.or op_add (OpR.or op_catA op_cat)
theorem ok_add : OpOk Γ (rAddX Γ.K) gAdd := fun W σ f S H x y v u Q rs rx ry h => by
  unfold gAdd at h
  split at h
  · rename_i i j
    exact .inl ⟨i, j, rx.int, ry.int, h f H _ .refl rs Rp.ofInt⟩
  · rename_i a b
    split at h
    · rename_i hl
      obtain ⟨p, ps, e1, s1, r1⟩ := rx.tup
      obtain ⟨q, qs, e2, s2, r2⟩ := ry.tup
      refine .inr (.inl ⟨p, q, ps, qs, e1, e2, s1, s2, by rw [← r1.length, ← r2.length, lim_eq]; exact hl, fun e => ?_, fun _ e => ?_, fun _ _ z hz => ?_⟩)
      · subst e
        have ea : a = [] := List.length_eq_zero_iff.mp r1.length
        subst ea
        exact h f H _ .refl rs (Rp.tupI s2 r2)
      · subst e
        have eb : b = [] := List.length_eq_zero_iff.mp r2.length
        subst eb
        rw [List.append_nil] at h
        exact h f H _ .refl rs (Rp.tupI s1 r1)
      · exact h f _ _ (.new hz) (rs.newT hz) (Rp.tupI (SqT.of upd_same) ((r1.append r2).up (.new hz)))
    · exact h.elim
  · rename_i n m
    split at h
    · rename_i a b hn hm
      split at h
      · rename_i hl
        obtain ⟨p, ps, _, e1, s1, r1⟩ := rs.lst hn rx
        obtain ⟨q, qs, _, e2, s2, r2⟩ := rs.lst hm ry
        refine .inr (.inr ⟨p, q, ps, qs, e1, e2, s1, s2, by rw [← r1.length, ← r2.length, lim_eq]; exact hl, fun z hz => ?_⟩)
        exact h (f ++ [z]) _ _ (.alloc hz) (rs.alloc hz ⟨_, upd_same, (r1.append r2).up (.alloc hz)⟩) (Rp.refI (by rw [← rs.len]; simp))
      · exact h.elim
    · exact h.elim
  · exact h.elim
theorem ok_sub : OpOk Γ (rI0 fun i j => .int (i - j)) gSub := fun W σ f S H x y v u Q rs rx ry h => by
  unfold gSub at h
  split at h
  · rename_i i j
    exact ⟨i, j, rx.int, ry.int, h f H _ .refl rs Rp.ofInt⟩
  · exact h.elim
theorem fdv_eq {i j : Int} (h : j ≠ 0) : i.fdiv j = fdv i j := by
  unfold fdv
  split
  · exact Int.fdiv_eq_ediv_of_nonneg i (by omega)
  · rw [← Int.neg_fdiv_neg]
    exact Int.fdiv_eq_ediv_of_nonneg _ (by omega)
theorem fmd_eq {i j : Int} (h : j ≠ 0) : i.fmod j = fmd i j := by
  unfold fmd
  split
  · exact Int.fmod_eq_emod_of_nonneg i (by omega)
  · have h1 := Int.fmod_eq_emod_of_nonneg (-i) (b := -j) (by omega)
    rw [← h1]
    have h2 := Int.mul_fdiv_add_fmod i j
    have h3 := Int.mul_fdiv_add_fmod (-i) (-j)
    rw [Int.neg_fdiv_neg, Int.neg_mul] at h3
    omega
def CDivA (_ j : Int) : Prop := j ≠ 0 ∧ j.natAbs.log2 < 9000
theorem op_fdivA {X : Cx} : OpR X (binaryOp .FloorDiv) (rI CDivA fun i j => .int (i.fdiv j)) := opI fun _ _ _ _ _ _ _ hc q => floordiv_int hc.1 q (.inl (PyProof.noPylong_of_log2 hc.2))
theorem ok_div : OpOk Γ (rI CDivA fun i j => .int (i.fdiv j)) gDiv := fun W σ f S H x y v u Q rs rx ry h => by
  unfold gDiv at h
  split at h
  · rename_i i j
    split at h
    · rename_i c
      refine ⟨i, j, rx.int, ry.int, c, ?_⟩
      show Q (.int (i.fdiv j)) H
      rw [fdv_eq c.1]
      exact h f H _ .refl rs Rp.ofInt
    · exact h.elim
  · exact h.elim
theorem ok_mod : OpOk Γ (rI (fun _ j => j ≠ 0) fun i j => .int (i.fmod j)) gMod := fun W σ f S H x y v u Q rs rx ry h => by
  unfold gMod at h
  split at h
  · rename_i i j
    split at h
    · rename_i c
      refine ⟨i, j, rx.int, ry.int, c, ?_⟩
      show Q (.int (i.fmod j)) H
      rw [fmd_eq c]
      exact h f H _ .refl rs Rp.ofInt
    · exact h.elim
  · exact h.elim
def gPow : D → D → Store → R D
  | .int i, .int j, S => if 0 ≤ j ∧ j ≤ 1000000 ∧ i.natAbs < 2 ^ 64 then .ok (.int (i ^ j.toNat)) S else .bad
  | _, _, _ => .bad
theorem ok_pow : OpOk Γ (rI CPow fun i j => .int (i ^ j.toNat)) gPow := fun W σ f S H x y v u Q rs rx ry h => by
  unfold gPow at h
  split at h
  · rename_i i j
    split at h
    · rename_i c
      exact ⟨i, j, rx.int, ry.int, c, h f H _ .refl rs Rp.ofInt⟩
    · exact h.elim
  · exact h.elim
def rMulX : R2 := fun x y H Q => rI CMulW (fun i j => .int (i * j)) x y H Q ∨ rRep x y H Q
theorem or_mul : OpR X (binaryOp .Mult) rMulX := OpR.or op_mulW op_rep
theorem RpL.rep {ds : List D} {vs : List V} (r : RpL Γ f H ds vs) : ∀ n : Nat, RpL Γ f H (List.replicate n ds).flatten (List.replicate n vs).flatten
  | 0 => by simp only [List.replicate_zero, List.flatten_nil, RpL]
  | n + 1 => by
    rw [List.replicate_succ, List.replicate_succ, List.flatten_cons, List.flatten_cons]
    exact r.append (RpL.rep r n)
theorem ok_mul : OpOk Γ rMulX gMul := fun W σ f S H x y v u Q rs rx ry h => by
  unfold gMul at h
  split at h
  · rename_i i j
    split at h
    · rename_i c
      exact .inl ⟨i, j, rx.int, ry.int, c, h f H _ .refl rs Rp.ofInt⟩
    · exact h.elim
  · rename_i n k
    split at h
    · rename_i a hn
      split at h
      · rename_i c
        obtain ⟨p, ps, _, e1, s1, r1⟩ := rs.lst hn rx
        refine .inr ⟨p, k, ps, e1, ry.int, s1, c.1, c.2.1, by rw [← r1.length, lim_eq]; exact c.2.2, fun z hz => ?_⟩
        exact h (f ++ [z]) _ _ (.alloc hz) (rs.alloc hz ⟨_, upd_same, (r1.rep k.toNat).up (.alloc hz)⟩) (Rp.refI (by rw [← rs.len]; simp))
      · exact h.elim
    · exact h.elim
  · exact h.elim
theorem ok_neg : UnOk Γ (rU fun i => .int (-i)) gNeg := fun W σ f S H x v Q rs rx h => by
  unfold gNeg at h
  split at h
  · rename_i i
    exact ⟨i, rx.int, h f H _ .refl rs Rp.ofInt⟩
  · exact h.elim
/-! ### order, None -/
theorem ok_cmp {p : Int → Int → Bool} : OpOk Γ (rI0 fun i j => .bl (p i j)) (gCmp p) := fun W σ f S H x y v u Q rs rx ry h => by
  unfold gCmp at h
  split at h
  · rename_i i j
    exact ⟨i, j, rx.int, ry.int, h f H _ .refl rs Rp.ofBl⟩
  · exact h.elim
theorem Rp.isNon {d : D} {v : V} (h : Rp Γ f H d v) : decide (v = .non) = isNonD d := by
  cases d with
  | non => rw [h.non]; rfl
  | bl b => rw [h.bl]; rfl
  | int b => rw [h.int]; rfl
  | str b => rw [h.str]; rfl
  | tup b => obtain ⟨a, vs, e, _⟩ := h.tup; rw [e]; rfl
  | rol b => obtain ⟨a, vs, e, _⟩ := h.rol; rw [e]; rfl
  | ref b => obtain ⟨a, _, e⟩ := h.ref; rw [e]; rfl
  | ins C ds =>
    simp only [Rp] at h
    obtain ⟨a, dx, fvs, e, _⟩ := h
    rw [e]
    rfl
theorem ok_isN : OpOk Γ (fun x y H Q => y = .non ∧ Q (.bl (decide (x = .non))) H) gIsN := fun W σ f S H x y v u Q rs rx ry h => by
  unfold gIsN at h
  split at h
  · refine ⟨ry.non, ?_⟩
    rw [rx.isNon]
    exact h f H _ .refl rs Rp.ofBl
  · exact h.elim
theorem ok_notN : OpOk Γ (fun x y H Q => y = .non ∧ Q (.bl (!decide (x = .non))) H) gNotN := fun W σ f S H x y v u Q rs rx ry h => by
  unfold gNotN at h
  split at h
  · refine ⟨ry.non, ?_⟩
    rw [rx.isNon]
    exact h f H _ .refl rs Rp.ofBl
  · exact h.elim
/-! ### items, slices -/
theorem ix_at {ds : List D} {vs : List V} {i : Int} {d : D} (r : RpL Γ f H ds vs) (h : atI ds i = some d) : ∃ v, atI vs i = some v ∧ Rp Γ f H d v := by
  unfold atI at h ⊢
  rw [← r.length]
  cases q : ixN ds.length i with
  | none => rw [q] at h; cases h
  | some j =>
    rw [q] at h
    exact RpL.get r h
theorem listOf_ok {d : D} {v : V} {ds : List D} (rs : RelS Γ f S H) (r : Rp Γ f H d v) (h : listOf S d = some ds) : ∃ a vs, v = .ref a ∧ RpL Γ f H ds vs ∧ ((SqT Γ.K H a vs ∧ d = .tup ds) ∨ (SqL Γ.K H a vs ∧ ∀ es, d ≠ .tup es)) := by
  cases d with
  | tup es =>
    have e : es = ds := Option.some.inj h
    subst e
    obtain ⟨a, vs, e, s, r⟩ := r.tup
    exact ⟨a, vs, e, r, .inl ⟨s, rfl⟩⟩
  | rol es =>
    have e : es = ds := Option.some.inj h
    subst e
    obtain ⟨a, vs, e, s, r⟩ := r.rol
    exact ⟨a, vs, e, r, .inr ⟨s.1, fun _ z => by cases z⟩⟩
  | ref n =>
    have h : (match S[n]? with
      | some (.lst ds) => some ds
      | _ => none) = some ds := h
    split at h
    · rename_i es hn
      cases h
      obtain ⟨a, vs, _, e, hh, rv⟩ := rs.lst hn r
      exact ⟨a, vs, e, rv, .inr ⟨SqL.of hh, fun _ z => by cases z⟩⟩
    · cases h
  | _ => cases h
theorem ok_ix : OpOk Γ (rIx Γ.K) gIx := fun W σ f S H x y v u Q rs rx ry h => by
  unfold gIx at h
  split at h
  · rename_i i
    split at h
    · rename_i ds hds
      split at h
      · rename_i d hd
        obtain ⟨a, vs, e, r, s⟩ := listOf_ok rs rx hds
        obtain ⟨w, hw, rw'⟩ := ix_at r hd
        rcases s with ⟨s, _⟩ | ⟨s, _⟩
        · exact .inr (.inl ⟨a, vs, i, w, e, ry.int, s, hw, h f H _ .refl rs rw'⟩)
        · exact .inl ⟨a, vs, i, w, e, ry.int, s, hw, h f H _ .refl rs rw'⟩
      · exact h.elim
    · exact h.elim
  · exact h.elim
def tO (Γ : G) (W : WX) (m : Env → Store → R (Option Int)) : TO := fun σ H Q => ∃ env S f, RelS Γ f S H ∧ RelE Γ f H env σ ∧ Wp Γ W σ f H (fun _ _ a b => a = b) Q (m env S)
theorem PO.imp {e : Option Expr} {t t' : TO} (h : PO X e t) (i : ∀ σ H Q, t' σ H Q → t σ H Q) : PO X e t' := ⟨fun pins s σ H Q I q => h.run pins s σ H Q I (i σ H Q q)⟩
theorem qo_none : PO X none (tO Γ W (toO none)) := PO.imp po_none fun σ H Q ⟨env, S, f, rs, re, h⟩ => h f H none .refl rs rfl
theorem qo_some {e : Expr} {m : ME} (h : PE X e (tE Γ W m)) : PO X (some e) (tO Γ W (toO (some m))) := PO.imp (po_some h) fun σ H Q ⟨env, S, f, rs, re, h⟩ => ⟨env, S, f, rs, re, Wp.bindL h fun d S1 f1 H1 v u1 rs1 r1 h1 => by
  cases d with
  | int i => exact ⟨i, r1.int, h1 f1 H1 _ .refl rs1 rfl⟩
  | _ => exact h1.elim⟩
theorem SlR.or {r r' : V → Option Int → Option Int → Hp → VK → Prop} (h : SlR X r) (h' : SlR X r') : SlR X (fun x l u H Q => r x l u H Q ∨ r' x l u H Q) := fun pins s σ H x v vl vu lo hi sl Q I rx hs pl pu z => z.elim (h pins s σ H x v vl vu lo hi sl Q I rx hs pl pu) (h' pins s σ H x v vl vu lo hi sl Q I rx hs pl pu)
theorem RpL.cut' {ds : List D} {vs : List V} {lo hi : Option Int} (r : RpL Γ f H ds vs) : RpL Γ f H (cutD ds lo hi) (cutV vs lo hi) := by
  unfold cutD cutV
  rw [r.length]
  exact (r.drop' _).take' _
theorem q_sl {e : Expr} {lo hi : Option Expr} {ma : ME} {ml mh : Option ME} {p2 pos : Pos} (hK : X.K = Γ.K) (he : PE X e (tE Γ W ma)) (hl : PO X lo (tO Γ W (toO ml))) (hu : PO X hi (tO Γ W (toO mh))) : PE X (.Subscript e (.Slice lo hi none p2) pos) (tE Γ W (mSl ma ml mh)) :=
  PE.imp (pe_slice (SlR.or sl_list sl_tupA) he hl hu) fun σ H Q ⟨env, S, f, rs, re, h⟩ => ⟨env, S, f, rs, re, Wp.bindL h fun d S1 f1 H1 v u1 rs1 r1 h1 => ⟨env, S1, f1, rs1, re.up u1, Wp.bindL h1 fun l S2 f2 H2 l' u2 rs2 r2 h2 => ⟨env, S2, f2, rs2, (re.up u1).up u2, Wp.bindL h2 fun m S3 f3 H3 m' u3 rs3 r3 h3 => by
    subst r2
    subst r3
    have rd := r1.up (u2.trans u3)
    unfold gSl at h3
    split at h3
    · rename_i ds hds
      obtain ⟨a, vs, ev, rv, s⟩ := listOf_ok rs3 rd hds
      rcases s with ⟨s, ed⟩ | ⟨s, ed⟩
      · subst ed
        refine .inr ⟨a, vs, ev, by rw [hK]; exact s, fun c => ?_, fun _ p hp => ?_⟩
        · have ec : cutD ds l m = ds := by
            unfold cutD
            rw [rv.length, c.1, c.2]
            simp [← rv.length]
          have h3 : Wp Γ W σ f3 H3 (Rp Γ) Q (.ok (.tup (cutD ds l m)) S3) := h3
          rw [ec] at h3
          exact h3 f3 H3 _ .refl rs3 (Rp.tupI s rv)
        · exact h3 f3 _ _ (.new hp) (rs3.newT hp) (Rp.tupI (SqT.of upd_same) (rv.cut'.up (.new hp)))
      · refine .inl ⟨a, vs, ev, by rw [hK]; exact s, fun p hp => ?_⟩
        have h4 : Wp Γ W σ f3 H3 (Rp Γ) Q (.ok (.ref S3.length) (S3 ++ [.lst (cutD ds l m)])) := by
          revert h3
          cases d with
          | tup es => exact fun _ => absurd rfl (ed es)
          | _ => exact fun h => h
        exact h4 (f3 ++ [p]) _ _ (.alloc hp) (rs3.alloc hp ⟨_, upd_same, rv.cut'.up (.alloc hp)⟩) (Rp.refI (by rw [← rs3.len]; simp))
    · exact h3.elim⟩⟩⟩
/-! ### stores into lists -/
def GP (Γ : G) (f : List Addr) (H : Hp) (Q : L2.St → Hp → Prop) : R Env → Prop
  | .ok e S' => ∀ f' σ' H', Up Γ f H f' H' → RelS Γ f' S' H' → RelE Γ f' H' e σ' → Q σ' H'
  | _ => False
theorem GP.mono {f' : List Addr} {H' : Hp} {Q : L2.St → Hp → Prop} {r : R Env} (u : Up Γ f H f' H') (h : GP Γ f H Q r) : GP Γ f' H' Q r := by
  cases r with
  | ok e S' => exact fun f2 σ2 H2 u2 => h f2 σ2 H2 (u.trans u2)
  | _ => exact h
theorem RpL.set' : ∀ {ds : List D} {vs : List V} {d : D} {v : V} (j : Nat), RpL Γ f H ds vs → Rp Γ f H d v → RpL Γ f H (ds.set j d) (vs.set j v)
  | [], _, _, _, j, r, q => by
    simp only [RpL] at r
    subst r
    simp only [List.set_nil, RpL]
  | x :: xs, _, d, v, 0, r, q => by
    simp only [RpL] at r
    obtain ⟨w, vr, e, r1, r2⟩ := r
    subst e
    simp only [List.set_cons_zero, RpL]
    exact ⟨v, vr, rfl, q, r2⟩
  | x :: xs, _, d, v, j + 1, r, q => by
    simp only [RpL] at r
    obtain ⟨w, vr, e, r1, r2⟩ := r
    subst e
    simp only [List.set_cons_succ, RpL]
    exact ⟨w, _, rfl, r1, RpL.set' j r2 q⟩
theorem Wp.bindG {α β : Type} {σ : L2.St} {rep : List Addr → Hp → α → β → Prop} {Q : L2.St → Hp → Prop} {Q1 : β → Hp → Prop} {r : R α} {k : α → Store → R Env} (h : GP Γ f H Q (r.bind k))
    (hk : ∀ a S1 f1 H1 b, Up Γ f H f1 H1 → RelS Γ f1 S1 H1 → rep f1 H1 a b → GP Γ f1 H1 Q (k a S1) → Q1 b H1) : Wp Γ W σ f H rep Q1 r := by
  cases r with
  | ok a S1 => exact fun f1 H1 b u1 r1 p => hk a S1 f1 H1 b u1 r1 p (GP.mono u1 h)
  | ex C ds S1 => exact h.elim
  | bad => exact h.elim
theorem qg_sub {o i : Expr} {mo mi : ME} {pos : Pos} (ho : PE X o (tE Γ W mo)) (hi : PE X i (tE Γ W mi)) (ha : ∀ v, assign (.Subscript o i pos) X.env v = (do
      let ov ← holding [v] (eval o X.env)
      let iv ← holding [v, ov] (eval i X.env)
      standAt pos
      holding [v, ov, iv] (setItem ov iv v)
      release [v, ov, iv] []) := by intro _; rfl) : PG X (.Subscript o i pos) (tG Γ (gSub' mo mi)) := by
  refine PG.imp (pg_sub ho hi set_list ha) fun v σ H Q ⟨d, env, S, f, rs, re, r, h⟩ => ?_
  have h : GP Γ f H Q (gSub' mo mi d env S) := by
    revert h
    cases gSub' mo mi d env S with
    | ok e S' => exact fun h => h
    | _ => exact fun h => h
  refine ⟨env, S, f, rs, re, Wp.bindG h fun x S1 f1 H1 vx u1 rs1 r1 h1 => ⟨env, S1, f1, rs1, re.up u1, Wp.bindG h1 fun y S2 f2 H2 vy u2 rs2 r2 h2 => ?_⟩⟩
  unfold stIx at h2
  split at h2
  · rename_i n k
    split at h2
    · rename_i ds hn
      split at h2
      · rename_i j hj
        obtain ⟨a, vs, ha, e, hh, rv⟩ := rs2.lst hn (r1.up u2)
        have uc : Up Γ f2 H2 f2 (upd H2 a (.lst (vs.set j v))) := .chg hh trivial
        exact ⟨a, vs, k, j, e, r2.int, hh, by rw [← rv.length]; exact hj, h2 f2 σ _ uc (rs2.set ha (.chg hh trivial) ⟨_, upd_same, (rv.set' j (r.up (u1.trans u2))).up uc⟩) (re.up (u1.trans (u2.trans uc)))⟩
      · exact h2.elim
    · exact h2.elim
  · exact h2.elim
end
end Lk

set_option Elab.async false
set_option linter.all false
set_option autoImplicit false
set_option maxRecDepth 100000
set_option maxHeartbeats 2000000
namespace Lk
open PySem PySem.Spec PyProof.Rows L2

section
variable {Γ : G} {W : WX} {X : Cx} {f : List Addr} {H : Hp} {S : Store}
/-! ### built-ins -/
theorem dBools_ok : ∀ {ds : List D} {is : List Bool} {vs : List V}, dBools ds = some is → RpL Γ f H ds vs → vs = is.map V.bl
  | [], is, vs, h, r => by
    simp only [RpL] at r
    cases h
    exact r
  | .bl i :: ds, is, vs, h, r => by
    simp only [RpL] at r
    obtain ⟨v, vr, e, r1, r2⟩ := r
    have h : (dBools ds).map (i :: ·) = some is := h
    cases q : dBools ds with
    | none => rw [q] at h; cases h
    | some js =>
      rw [q] at h
      cases h
      rw [e, r1.bl, dBools_ok q r2]
      rfl
  | .non :: _, _, _, h, _ => by cases h
  | .int _ :: _, _, _, h, _ => by cases h
  | .str _ :: _, _, _, h, _ => by cases h
  | .tup _ :: _, _, _, h, _ => by cases h
  | .rol _ :: _, _, _, h, _ => by cases h
  | .ref _ :: _, _, _, h, _ => by cases h
  | .ins _ _ :: _, _, _, h, _ => by cases h
def rLenX (K : PySem.W.Frag) : List V → Hp → VK → Prop := fun xs H Q => (∃ x n, xs = [x] ∧ LenV K x H n ∧ Q (.int n) H) ∨ (∃ a kvs, xs = [V.ref a] ∧ H a = some (.dK kvs) ∧ Q (.int kvs.length) H)
theorem cr_len : CallR X (.builtin "len") (rLenX X.K) := CallR.or call_len call_lenD
theorem ok_len : ArOk Γ (rLenX Γ.K) gLen := fun W σ f S H xs vs Q rs r h => by
  unfold gLen at h
  split at h
  · rename_i z
    split at h
    · rename_i hl
      obtain ⟨v, e, rv⟩ := r.one
      refine .inl ⟨_, z.length, e, ?_, h f H _ .refl rs Rp.ofInt⟩
      rw [rv.str]
      exact ⟨by rw [lim_eq]; exact hl, rfl⟩
    · exact h.elim
  · rename_i n
    obtain ⟨v, e, rv⟩ := r.one
    split at h
    · rename_i ds hn
      obtain ⟨a, us, _, ev, hh, ru⟩ := rs.lst hn rv
      refine .inl ⟨_, ds.length, e, ?_, h f H _ .refl rs Rp.ofInt⟩
      rw [ev]
      exact .inl ⟨us, SqL.of hh, ru.length⟩
    · rename_i ds hn
      obtain ⟨a, ha, ev⟩ := rv.ref
      obtain ⟨b, hb, us, hh, ek, ru⟩ := rs.ob n _ hn
      rw [ha] at hb
      cases hb
      refine .inr ⟨a, us, by rw [e, ev], hh, ?_⟩
      have el : us.length = ds.length := by
        have := congrArg List.length ek
        rwa [List.length_map, List.length_map] at this
      rw [el]
      exact h f H _ .refl rs Rp.ofInt
    · exact h.elim
  · rename_i ds
    obtain ⟨v, e, rv⟩ := r.one
    obtain ⟨a, us, ev, hs, ru⟩ := rv.tup
    refine .inl ⟨_, ds.length, e, ?_, h f H _ .refl rs Rp.ofInt⟩
    rw [ev]
    exact .inr ⟨us, hs, ru.length⟩
  · rename_i ds
    obtain ⟨v, e, rv⟩ := r.one
    obtain ⟨a, us, ev, hs, ru⟩ := rv.rol
    refine .inl ⟨_, ds.length, e, ?_, h f H _ .refl rs Rp.ofInt⟩
    rw [ev]
    exact .inl ⟨us, hs.1, ru.length⟩
  · exact h.elim
theorem ok_int : ArOk Γ (fun xs H Q => (∃ i, xs = [.int i] ∧ Q (.int i) H) ∨ ∃ k, xs = [.bl k] ∧ Q (.int (if k then 1 else 0)) H) gInt := fun W σ f S H xs vs Q rs r h => by
  unfold gInt at h
  split at h
  · obtain ⟨v, e, rv⟩ := r.one
    exact .inl ⟨_, by rw [e, rv.int], h f H _ .refl rs Rp.ofInt⟩
  · obtain ⟨v, e, rv⟩ := r.one
    exact .inr ⟨_, by rw [e, rv.bl], h f H _ .refl rs Rp.ofInt⟩
  · exact h.elim
theorem ok_max2 : ArOk Γ (fun xs H Q => ∃ i j, xs = [.int i, .int j] ∧ Q (.int (if j > i then j else i)) H) gMax2 := fun W σ f S H xs vs Q rs r h => by
  unfold gMax2 at h
  split at h
  · obtain ⟨v, u, e, rv, ru⟩ := r.two
    exact ⟨_, _, by rw [e, rv.int, ru.int], h f H _ .refl rs Rp.ofInt⟩
  · exact h.elim
theorem ok_min2 : ArOk Γ (fun xs H Q => ∃ i j, xs = [.int i, .int j] ∧ Q (.int (if j < i then j else i)) H) gMin2 := fun W σ f S H xs vs Q rs r h => by
  unfold gMin2 at h
  split at h
  · obtain ⟨v, u, e, rv, ru⟩ := r.two
    exact ⟨_, _, by rw [e, rv.int, ru.int], h f H _ .refl rs Rp.ofInt⟩
  · exact h.elim
theorem ok_gcd : ArOk Γ rGcd gGcd := fun W σ f S H xs vs Q rs r h => by
  unfold gGcd at h
  split at h
  · obtain ⟨v, u, e, rv, ru⟩ := r.two
    exact ⟨_, _, by rw [e, rv.int, ru.int], h f H _ .refl rs Rp.ofInt⟩
  · exact h.elim
theorem onL_ok {r : List V → Hp → VK → Prop} {k : List D → Store → R D} (hk : ∀ (W : WX) (σ : L2.St) (f : List Addr) (S : Store) (H : Hp) (a : Addr) (ds : List D) (us : List V) (Q : VK), RelS Γ f S H → SqL Γ.K H a us → RpL Γ f H ds us → Wp Γ W σ f H (Rp Γ) Q (k ds S) → r [.ref a] H Q) : ArOk Γ r (onL k) := fun W σ f S H xs vs Q rs r h => by
  unfold onL at h
  split at h
  · rename_i n
    obtain ⟨v, e, rv⟩ := r.one
    split at h
    · rename_i ds hn
      obtain ⟨a, us, _, ev, hh, ru⟩ := rs.lst hn rv
      rw [e, ev]
      exact hk W σ f S H a ds us Q rs (SqL.of hh) ru h
    · exact h.elim
  · rename_i ds
    obtain ⟨v, e, rv⟩ := r.one
    obtain ⟨a, us, ev, hs, ru⟩ := rv.rol
    rw [e, ev]
    exact hk W σ f S H a ds us Q rs hs.1 ru h
  · exact h.elim
theorem ok_all : ArOk Γ (rAll Γ.K) gAll := onL_ok fun W σ f S H a ds us Q rs hs ru h => by
  split at h
  · rename_i is hi
    have e := dBools_ok hi ru
    subst e
    exact ⟨a, is, rfl, hs, h f H _ .refl rs Rp.ofBl⟩
  · exact h.elim
theorem ok_list : ArOk Γ (fun xs H Q => ∃ p ys, xs = [.ref p] ∧ (SqL Γ.K H p ys ∨ SqT Γ.K H p ys) ∧ ∀ l, H l = none → Q (.ref l) (upd H l (.lst ys))) gList := fun W σ f S H xs vs Q rs r h => by
  unfold gList at h
  split at h
  · rename_i d
    obtain ⟨v, e, rv⟩ := r.one
    split at h
    · rename_i ds hd
      obtain ⟨a, us, ev, ru, hs⟩ := listOf_ok rs rv hd
      refine ⟨a, us, by rw [e, ev], hs.symm.imp (fun z => z.1) (fun z => z.1), fun l hl => ?_⟩
      exact h (f ++ [l]) _ _ (.alloc hl) (rs.alloc hl ⟨us, upd_same, ru.up (.alloc hl)⟩) (Rp.refI (by rw [← rs.len]; simp))
    · exact h.elim
  · exact h.elim
theorem ok_tuple : ArOk Γ (fun xs H Q => ∃ p ys, xs = [.ref p] ∧ ((SqL Γ.K H p ys ∧ ∀ l, H l = none → Q (.ref l) (upd H l (.tup ys))) ∨ (SqT Γ.K H p ys ∧ Q (.ref p) H))) gTuple := fun W σ f S H xs vs Q rs r h => by
  unfold gTuple at h
  split at h
  · rename_i d
    obtain ⟨v, e, rv⟩ := r.one
    split at h
    · rename_i ds hd
      obtain ⟨a, us, ev, ru, hs⟩ := listOf_ok rs rv hd
      refine ⟨a, us, by rw [e, ev], ?_⟩
      rcases hs with ⟨hs, _⟩ | ⟨hs, _⟩
      · exact .inr ⟨hs, h f H _ .refl rs (Rp.tupI hs ru)⟩
      · exact .inl ⟨hs, fun l hl => h f _ _ (.new hl) (rs.newT hl) (Rp.tupI (SqT.of upd_same) (ru.up (.new hl)))⟩
    · exact h.elim
  · exact h.elim
/-! ### methods of lists -/
def MtOk (Γ : G) (r : V → List V → Hp → VK → Prop) (g : D → List D → Store → R D) : Prop := ∀ (W : WX) (σ : L2.St) (f : List Addr) (S : Store) (H : Hp) (d : D) (v : V) (xs : List D) (vs : List V) (Q : VK), RelS Γ f S H → Rp Γ f H d v → RpL Γ f H xs vs → Wp Γ W σ f H (Rp Γ) Q (g d xs S) → r v vs H Q
theorem bm_imp {r : V → List V → Hp → VK → Prop} {g : D → List D → Store → R D} (hK : X.K = Γ.K) (hg : MtOk Γ r g) {mo : ME} {mr : MA} {σ : L2.St} {H : Hp} {Q : VK} (h : tE Γ W (mBM g mo mr) σ H Q) : tBM X.K "list" r (tE Γ W mo) (tA Γ W mr) σ H Q := by
  obtain ⟨env, S, f, rs, re, h⟩ := h
  refine ⟨env, S, f, rs, re, Wp.bindL h fun d S1 f1 H1 v u1 rs1 r1 h1 => ?_⟩
  revert h1
  split
  · rename_i n
    split
    · rename_i ds hn
      intro h1
      obtain ⟨a, us, _, ev, hh, ru⟩ := rs1.lst hn r1
      refine ⟨?_, env, S1, f1, rs1, re.up u1, Wp.bindL h1 fun xs S2 f2 H2 vs u2 rs2 r2 h2 => hg W σ f2 S2 H2 _ v xs vs Q rs2 (r1.up u2) r2 h2⟩
      rw [ev]
      exact .inl ⟨rfl, us, SqL.of hh⟩
    · exact fun h => h.elim
  · exact fun h => h.elim
def gInsert : D → List D → Store → R D
  | .ref n, [.int i, y], S => (match S[n]? with
    | some (.lst ds) => if ds.length < lim ∧ 0 ≤ i ∧ i < 2 ^ 63 then .ok .non (S.set n (.lst (ds.take i.toNat ++ [y] ++ ds.drop i.toNat))) else .bad
    | _ => .bad)
  | _, _, _ => .bad
theorem ok_insert : MtOk Γ (fun x vs H Q => ∃ (l : Addr) (xs : List V) (i : Int) (y : V), x = .ref l ∧ vs = [.int i, y] ∧ H l = some (.lst xs) ∧ xs.length < sizeLine ∧ 0 ≤ i ∧ i < 2 ^ 63 ∧ Q .non (upd H l (.lst (xs.take i.toNat ++ [y] ++ xs.drop i.toNat)))) gInsert := fun W σ f S H d v xs vs Q rs rv r h => by
  unfold gInsert at h
  split at h
  · rename_i n i y
    split at h
    · rename_i ds hn
      split at h
      · rename_i hl
        obtain ⟨a, us, ha, ev, hh, ru⟩ := rs.lst hn rv
        obtain ⟨j, w, e, rj, rw'⟩ := r.two
        have uc : Up Γ f H f (upd H a (.lst (us.take i.toNat ++ [w] ++ us.drop i.toNat))) := .chg hh trivial
        have r1 : RpL Γ f H [y] [w] := by
          simp only [RpL]
          exact ⟨w, [], rfl, rw', rfl⟩
        exact ⟨a, us, i, w, ev, by rw [e, rj.int], hh, by rw [← ru.length, lim_eq]; exact hl.1, hl.2.1, hl.2.2, h f _ _ uc (rs.set ha (.chg hh trivial) ⟨_, upd_same, (((ru.take' _).append r1).append (ru.drop' _)).up uc⟩) Rp.ofNon⟩
      · exact h.elim
    · exact h.elim
  · exact h.elim
end
/-! ### isinstance -/
def gIsi (cs : List Str) (Ts : List CK) (d : D) (S : Store) : R D := match tyK S d with
  | some a => if okK cs a = true then .ok (.bl (Ts.any fun T => isA a T)) S else .bad
  | none => .bad
section
variable {Γ : G} {W : WX} {X : Cx} {f : List Addr} {H : Hp} {S : Store} {cs : List Str}
theorem tyX {d : D} {v : V} {a : CK} (hI : ∀ C ∈ cs, C8.InsC Γ.K (Γ.c C)) (rs : RelS Γ f S H) (r : Rp Γ f H d v) (h : tyK S d = some a) (hk : okK cs a = true) : TyX Γ.K H v (a.u Γ) := by
  cases d with
  | non => cases h; rw [r.non]; exact .base .non
  | bl b => cases h; rw [r.bl]; exact .base (.bl b)
  | int b => cases h; rw [r.int]; exact .base (.int b)
  | str b => cases h; rw [r.str]; exact .base (.str b)
  | tup ds =>
    cases h
    obtain ⟨p, vs, e, s, _⟩ := r.tup
    rw [e]
    rcases s with (s | ⟨o, s⟩) | ⟨o, its, n, s, c, _⟩
    · exact .base (.tup s)
    · exact .fTuple s
    · exact .kTuple s c
  | rol ds =>
    cases h
    obtain ⟨p, vs, e, s, _⟩ := r.rol
    rw [e]
    rcases s.2 with ⟨o, s⟩ | ⟨o, its, n, s, c, _⟩
    · exact .base (.frz s)
    · exact .kList s c
  | ref n =>
    obtain ⟨p, hp, e⟩ := r.ref
    have h : (match S[n]? with
      | some (.lst _) => some (CK.bi "list")
      | some (.dk _) => some (.bi "dict")
      | some (.dt _) => some (.bi "dict")
      | _ => none) = some a := h
    rw [e]
    split at h
    · rename_i ds hn
      cases h
      obtain ⟨b, hb, vs, hh, _⟩ := rs.ob n _ hn
      rw [hp] at hb
      cases hb
      exact .base (.lst hh)
    · rename_i ds hn
      cases h
      obtain ⟨b, hb, vs, hh, _⟩ := rs.ob n _ hn
      rw [hp] at hb
      cases hb
      exact .base (.dK hh)
    · rename_i ds hn
      cases h
      obtain ⟨b, hb, vs, hh, _⟩ := rs.ob n _ hn
      rw [hp] at hb
      cases hb
      exact .base (.dT hh)
    · cases h
  | ins C ds =>
    cases h
    simp only [Rp] at r
    obtain ⟨p, dx, fvs, e, hh, _⟩ := r
    have c := hI C (List.contains_iff_mem.mp hk)
    rw [e]
    exact .base (.ins hh c.cl c.ha c.hn c.htk c.hm)
theorem isF_any {a : CK} (hk : okK cs a = true) : ∀ {Ts : List CK}, (∀ T ∈ Ts, IsF Γ cs T) → PySem.W.kitAny Γ.K (a.u Γ) (Ts.map fun T => T.u Γ) = some (Ts.any fun T => isA a T)
  | [], _ => rfl
  | T :: Ts, h => by
    have h1 : PySem.W.kitOne Γ.K (a.u Γ) (T.u Γ) = some (isA a T) := by
      cases a with
      | bi n => exact (h T List.mem_cons_self).bi n (List.contains_iff_mem.mp hk)
      | own C => exact (h T List.mem_cons_self).own C (List.contains_iff_mem.mp hk)
    rw [List.map_cons, List.any_cons]
    refine kitAny_cons h1 (fun e => ?_) fun e => by rw [e]; rfl
    rw [e, Bool.false_or]
    exact isF_any hk fun T' hT => h T' (List.mem_cons_of_mem _ hT)
theorem q_isi {e c : Expr} {ma : ME} {T : CK} {p pos : Pos} (hK : X.K = Γ.K) (hI : ∀ C ∈ cs, C8.InsC Γ.K (Γ.c C)) (hT : IsF Γ cs T) (hm : X.mg "isinstance" = none) (he : PE X e (tE Γ W ma)) (hc : PE X c (tC (T.v Γ))) (hg : Gl X "isinstance" := by rfl)
    (hs : starEach (e :: [c]) X.env = (false, eval e X.env) :: starEach [c] X.env := by rfl) (hs2 : starEach (c :: []) X.env = (false, eval c X.env) :: starEach [] X.env := by rfl) (hpl : (backTo pos (starEach [c] X.env)).any (·.1) = false := by rfl) :
    PE X (.Call (.Name "isinstance" p) [e, c] [] pos) (tE Γ W (m1 (gIsi cs [T]) ma)) := PE.imp (pe_callB call_isi hg hm (by decide +kernel) (pa_cons he (pa_cons hc pa_nil hs2) hs) (by decide) (by decide) hs hpl) fun σ H Q ⟨env, S, f, rs, re, h⟩ =>
  ⟨env, S, f, rs, re, Wp.bindL h fun d S1 f1 H1 v u1 rs1 r1 h1 => by
    unfold gIsi at h1
    split at h1
    · rename_i a ha
      split at h1
      · rename_i hk
        have q := isF_any (Γ := Γ) hk (Ts := [T]) fun T' hT' => by
          rw [List.mem_singleton.mp hT']
          exact hT
        have one : PySem.W.kitOne Γ.K (a.u Γ) (T.u Γ) = some ([T].any fun T => isA a T) := by
          have : ([T].any fun T => isA a T) = isA a T := by simp
          rw [this]
          cases a with
          | bi n => exact hT.bi n (List.contains_iff_mem.mp hk)
          | own C => exact hT.own C (List.contains_iff_mem.mp hk)
        exact ⟨v, T.v Γ, a.u Γ, T.u Γ, _, rfl, T.cls, by rw [hK]; exact tyX hI rs1 r1 ha hk, by rw [hK]; exact one, h1 f1 H1 _ .refl rs1 Rp.ofBl⟩
      · exact h1.elim
    · exact h1.elim⟩
theorem PCs.pa : ∀ {es : List Expr} {Ts : List CK}, PCs X Γ es Ts → PA X es (fun _ H Q => Q (Ts.map fun T => T.v Γ) H)
  | _, _, .nil => pa_nil
  | _, _, .cons h r hs => pa_cons h r.pa hs
theorem q_isiT {e : Expr} {es : List Expr} {ma : ME} {Ts : List CK} {p pos pos2 : Pos} {k} (hK : X.K = Γ.K) (hI : ∀ C ∈ cs, C8.InsC Γ.K (Γ.c C)) (hT : ∀ T ∈ Ts, IsF Γ cs T) (hm : X.mg "isinstance" = none) (he : PE X e (tE Γ W ma)) (hc : PCs X Γ es Ts) (hl : Ts.length ≤ 20 := by decide) (hg : Gl X "isinstance" := by rfl)
    (hs : starEach (e :: [.Tuple es k pos2]) X.env = (false, eval e X.env) :: starEach [.Tuple es k pos2] X.env := by rfl) (hs2 : starEach (.Tuple es k pos2 :: []) X.env = (false, eval (.Tuple es k pos2) X.env) :: starEach [] X.env := by rfl) (hpl : (backTo pos (starEach [.Tuple es k pos2] X.env)).any (·.1) = false := by rfl) :
    PE X (.Call (.Name "isinstance" p) [e, .Tuple es k pos2] [] pos) (tE Γ W (m1 (gIsi cs Ts) ma)) := PE.imp (pe_callB call_isiT hg hm (by decide +kernel) (pa_cons he (pa_cons (pe_tup hc.pa) pa_nil hs2) hs) (by decide) (by decide) hs hpl) fun σ H Q ⟨env, S, f, rs, re, h⟩ =>
  ⟨env, S, f, rs, re, Wp.bindL h fun d S1 f1 H1 v u1 rs1 r1 h1 => by
    unfold gIsi at h1
    split at h1
    · rename_i a ha
      split at h1
      · rename_i hk
        refine ⟨by rw [List.length_map, lim_eq]; exact Nat.le_trans hl (by decide), fun tp htp => ?_⟩
        have r2 := r1.up (.new (o := .tup (Ts.map fun T => T.v Γ)) htp)
        have rs2 := rs1.newT (o := .tup (Ts.map fun T => T.v Γ)) htp
        have pc : ∀ Ts : List CK, Paired ClsV (Ts.map fun T => T.v Γ) (Ts.map fun T => T.u Γ) := by
          intro Ts
          induction Ts with
          | nil => exact .nil
          | cons T Ts ih => exact .cons T.cls ih
        exact ⟨v, tp, _, a.u Γ, _, _, rfl, upd_same, pc Ts, by rw [hK]; exact tyX hI rs2 r2 ha hk, by rw [hK]; exact isF_any hk hT, h1 f1 _ _ (.new htp) rs2 Rp.ofBl⟩
      · exact h1.elim
    · exact h1.elim⟩
end
end Lk

set_option Elab.async false
set_option linter.all false
set_option autoImplicit false
set_option maxRecDepth 100000
set_option maxHeartbeats 2000000
namespace Lk
open PySem PySem.Spec PyProof.Rows L2

/-! ### == of data, and of an own class's instances by its own __eq__ -/
section
variable {Γ : G} {W : WX} {X : Cx} {f : List Addr} {H : Hp} {S : Store} {cs : List Str}
theorem mapM_dp {g : D → Option PyData} (hg : ∀ d v p, g d = some p → Rp Γ f H d v → Dp Γ.K H v p) : ∀ {ds : List D} {vs : List V} {ps : List PyData}, ds.mapM g = some ps → RpL Γ f H ds vs → DpAll Γ.K H vs ps
  | [], vs, ps, h, r => by
    simp only [RpL] at r
    subst r
    simp only [List.mapM_nil] at h
    cases h
    exact .nil
  | d :: ds, vs, ps, h, r => by
    simp only [RpL] at r
    obtain ⟨v, vr, e, r1, r2⟩ := r
    subst e
    rw [List.mapM_cons] at h
    cases q : g d with
    | none => rw [q] at h; cases h
    | some p =>
      rw [q] at h
      cases q2 : ds.mapM g with
      | none => rw [q2] at h; cases h
      | some ps' =>
        rw [q2] at h
        cases h
        exact .cons (hg d v p q r1) (mapM_dp hg q2 r2)
theorem pyD_ok (rs : RelS Γ f S H) : ∀ (n : Nat) (d : D) (v : V) (p : PyData), pyD S n d = some p → Rp Γ f H d v → Dp Γ.K H v p
  | 0, _, _, _, h, _ => by cases h
  | n + 1, d, v, p, h, r => by
    cases d with
    | non => cases h; rw [r.non]; exact .non
    | bl b => cases h; rw [r.bl]; exact .bl b
    | int i => cases h; rw [r.int]; exact .int i
    | str x => cases h; rw [r.str]; exact .str x
    | tup ds =>
      have h : (ds.mapM (pyD S n)).map PyData.tuple = some p := h
      obtain ⟨a, vs, e, s, rv⟩ := r.tup
      subst e
      cases q : ds.mapM (pyD S n) with
      | none => rw [q] at h; cases h
      | some ps =>
        rw [q] at h
        cases h
        exact .tup s (mapM_dp (pyD_ok rs n) q rv)
    | rol ds =>
      have h : (ds.mapM (pyD S n)).map PyData.list = some p := h
      obtain ⟨a, vs, e, s, rv⟩ := r.rol
      subst e
      cases q : ds.mapM (pyD S n) with
      | none => rw [q] at h; cases h
      | some ps =>
        rw [q] at h
        cases h
        exact .lst s.1 (mapM_dp (pyD_ok rs n) q rv)
    | ref m =>
      have h : (match S[m]? with
        | some (.lst ds) => (ds.mapM (pyD S n)).map PyData.list
        | _ => none) = some p := h
      split at h
      · rename_i ds hn
        obtain ⟨a, vs, _, e, hh, rv⟩ := rs.lst hn r
        subst e
        cases q : ds.mapM (pyD S n) with
        | none => rw [q] at h; cases h
        | some ps =>
          rw [q] at h
          cases h
          exact .lst (SqL.of hh) (mapM_dp (pyD_ok rs n) q rv)
      · cases h
    | ins C ds => cases h
theorem eqData_ok {x y : D} {v u : V} {b : Bool} (rs : RelS Γ f S H) (rx : Rp Γ f H x v) (ry : Rp Γ f H y u) (h : eqData S x y = some b) : ∃ d e, Dp Γ.K H v d ∧ Dp Γ.K H u e ∧ SeqAt.shaped d = true ∧ SeqAt.shaped e = true ∧ PyData.eqv d e = b := by
  unfold eqData at h
  split at h
  · rename_i d e hd he
    split at h
    · rename_i c
      cases h
      exact ⟨d, e, pyD_ok rs _ _ _ _ hd rx, pyD_ok rs _ _ _ _ he ry, c.1, c.2, rfl⟩
    · cases h
  · cases h
theorem ok_ne : OpOk Γ (rNeD Γ.K) gNe := fun W σ f S H x y v u Q rs rx ry h => by
  unfold gNe at h
  split at h
  · rename_i b hb
    obtain ⟨d, e, h1, h2, h3, h4, h5⟩ := eqData_ok rs rx ry hb
    refine ⟨d, e, h1, h2, h3, h4, ?_⟩
    rw [h5]
    exact h f H _ .refl rs Rp.ofBl
  · exact h.elim
/-- one instance on the left -/
def rOwnEq (Γ : G) (cs : List Str) (oe : Str → Option (List D → Store → R D)) : R2 := fun x y H Q => ∃ C m a dx fs t, oe C = some m ∧ x = .ref a ∧ H a = some (.ins (Γ.c C) dx fs) ∧ okK cs t = true ∧ TyX Γ.K H y (t.u Γ) ∧ spOf Γ 2 m [x, y] H (fun v H' => (∃ b, v = .bl b) ∧ Q v H') (fun _ _ _ => False)
theorem or_own {k : Nat} {oe : Str → Option (List D → Store → R D)} (hK : X.K = Γ.K) (hr : Room k X.A) (ho : ∀ C m, oe C = some m → EqC Γ X.prog X.w X.mg X.base cs k C m) : OpR X (compareOp .Eq) (rOwnEq Γ cs oe) := by
  intro pins s σ H x y v u Q I rx ry h
  obtain ⟨C, m, a, dx, fs, t, hC, ex, hh, hk, ty, hsp⟩ := h
  subst ex
  obtain rfl : v = Value.ref a := rx
  have ec := ho C m hC
  obtain ⟨g, fd, ps, e1, e2, F, hb⟩ := ec.eq
  obtain ⟨mA, J, _⟩ := ins_get I.hok hh
  obtain ⟨od, J, _⟩ := J.look
  obtain ⟨mm, hF⟩ := I.fr
  obtain ⟨P, Z, p, _⟩ := kit_of I ry (by rw [hK]; exact ty)
  show wpAny (model X.prog X.w) X.A (richCompare .Eq (Value.ref a) u) (EP X pins σ Q) X.xe s
  refine PySem.W.cmp_K (op := .Eq) (tb := t.u Γ) hr.units0 hF I.ok.mod.kin J (Z.ty _ _ I.kIn p) (by rw [hK]; exact ec.nf t hk) (by rw [hK]; exact e1) (by rw [hK]; exact e2) ?_
  have noX : PassesAt (L2.CX X.prog X.w) X σ (fun _ _ _ => False) := fun _ _ _ _ _ _ c => by
    obtain ⟨_, _, _, _, _, _, _, _, _, _, _, _, z⟩ := c
    exact z.elim
  have go := run_fnS (us := [Value.ref a, u]) (vs := [V.ref a, y]) (E := fun _ _ _ _ => False) (σ := σ) (Q := fun v H' => (∃ b, v = .bl b) ∧ Q v H') (by rw [hK]; exact F) hr (by rw [hK]; exact hb) noX I (.cons rfl (.cons ry .nil)) hsp
  refine wpAny_mono go (fun r s' q => ?_) fun _ _ z => z
  obtain ⟨z, H', I', rz, ⟨b, eb⟩, qz⟩ := q
  subst eb
  obtain rfl : r = Value.bool b := rz
  exact ⟨.bl b, H', I', rfl, qz⟩
def rEqX (Γ : G) (cs : List Str) (oe : Str → Option (List D → Store → R D)) : R2 := fun x y H Q => rEqD Γ.K x y H Q ∨ rOwnEq Γ cs oe x y H Q
theorem or_eq {k : Nat} {oe : Str → Option (List D → Store → R D)} (hK : X.K = Γ.K) (hr : Room k X.A) (ho : ∀ C m, oe C = some m → EqC Γ X.prog X.w X.mg X.base cs k C m) : OpR X (compareOp .Eq) (rEqX Γ cs oe) := OpR.or (by rw [← hK]; exact op_eqD hr.units) (or_own hK hr ho)
theorem ok_eq {oe : Str → Option (List D → Store → R D)} (hI : ∀ C ∈ cs, C8.InsC Γ.K (Γ.c C)) : OpOk Γ (rEqX Γ cs oe) (gEqX cs oe) := fun W σ f S H x y v u Q rs rx ry h => by
  have data : ∀ x : D, Rp Γ f H x v → Wp Γ W σ f H (Rp Γ) Q (match eqData S x y with
      | some b => .ok (.bl b) S
      | none => .bad) → rEqX Γ cs oe v u H Q := fun x rx h => by
    split at h
    · rename_i b hb
      obtain ⟨d, e, h1, h2, h3, h4, h5⟩ := eqData_ok rs rx ry hb
      refine .inl ⟨d, e, h1, h2, h3, h4, ?_⟩
      rw [h5]
      exact h f H _ .refl rs Rp.ofBl
    · exact h.elim
  cases x with
  | ins C xs =>
    have h : Wp Γ W σ f H (Rp Γ) Q (match oe C, tyK S y with
      | some m, some t => if okK cs t = true then (match m [.ins C xs, y] S with
        | .ok (.bl b) S' => .ok (.bl b) S'
        | _ => .bad) else .bad
      | _, _ => .bad) := h
    split at h
    · rename_i m t hm ht
      split at h
      · rename_i hk
        have rx0 := rx
        simp only [Rp] at rx
        obtain ⟨a, dx, fvs, e, hh, _⟩ := rx
        refine .inr ⟨C, m, a, dx, fvs, t, hm, e, hh, hk, tyX hI rs ry ht hk, rfl, f, S, [.ins C xs, y], rs, ?_, ?_⟩
        · simp only [RpL]
          exact ⟨v, [u], rfl, rx0, u, [], rfl, ry, rfl⟩
        · revert h
          cases m [.ins C xs, y] S with
          | ok d S' =>
            cases d with
            | bl b =>
              intro h f' H' v' u' rs' r'
              exact ⟨⟨b, r'.bl⟩, h f' H' v' u' rs' r'⟩
            | _ => exact fun h => h.elim
          | _ => exact fun h => h.elim
      · exact h.elim
    · exact h.elim
  | _ => exact data _ rx h
/-! ### in, not in: of flat items -/
def flatD : D → Option V
  | .non => some .non
  | .bl b => some (.bl b)
  | .int i => some (.int i)
  | .str x => some (.str x)
  | _ => none
def gIn (neg : Bool) (x y : D) (S : Store) : R D := match listOf S y with
  | some ds => (match flatD x, ds.mapM flatD with
    | some v, some vs => if flatV v = true ∧ vs.all flatV = true then .ok (.bl (if neg then !inV v vs else inV v vs)) S else .bad
    | _, _ => .bad)
  | none => .bad
theorem flatD_ok {x : D} {v w : V} (h : flatD x = some w) (r : Rp Γ f H x v) : v = w := by
  cases x with
  | non => cases h; exact r.non
  | bl b => cases h; exact r.bl
  | int b => cases h; exact r.int
  | str b => cases h; exact r.str
  | _ => cases h
theorem flatL_ok : ∀ {ds : List D} {vs ws : List V}, ds.mapM flatD = some ws → RpL Γ f H ds vs → vs = ws
  | [], vs, ws, h, r => by
    simp only [RpL] at r
    simp only [List.mapM_nil] at h
    cases h
    exact r
  | d :: ds, vs, ws, h, r => by
    simp only [RpL] at r
    obtain ⟨v, vr, e, r1, r2⟩ := r
    rw [List.mapM_cons] at h
    cases q : flatD d with
    | none => rw [q] at h; cases h
    | some w =>
      rw [q] at h
      cases q2 : ds.mapM flatD with
      | none => rw [q2] at h; cases h
      | some ws' =>
        rw [q2] at h
        cases h
        rw [e, flatD_ok q r1, flatL_ok q2 r2]
theorem ok_in {neg : Bool} : OpOk Γ (rIn Γ.K neg) (gIn neg) := fun W σ f S H x y v u Q rs rx ry h => by
  unfold gIn at h
  split at h
  · rename_i ds hds
    split at h
    · rename_i w ws hw hws
      split at h
      · rename_i c
        obtain ⟨a, us, e, r, s⟩ := listOf_ok rs ry hds
        have e1 := flatD_ok hw rx
        have e2 := flatL_ok hws r
        subst e1
        subst e2
        exact ⟨a, us, e, s.symm.imp (fun z => z.1) (fun z => z.1), c.1, c.2, h f H _ .refl rs Rp.ofBl⟩
      · exact h.elim
    · exact h.elim
  · exact h.elim
end
end Lk

set_option Elab.async false
set_option linter.all false
set_option autoImplicit false
set_option maxRecDepth 100000
set_option maxHeartbeats 4000000
/-! An error that a suite holds: its fields, isinstance of it. -/
namespace Lk
open PySem PySem.Spec PyProof.Rows L2
section
variable {K : PySem.W.Frag} {P : Program} {w : World} {A : Around} {E : Value → Shared → Prop} {x Da : Addr} {ox : Obj} {od : Option Obj}
/-- e.__class__, whatever own dict e has -/
theorem cls_attr_err {st : Shared} {Q : Option Value → Shared → Prop} (T : L2.ExcC K Da) (X : K.In st.heap) (I : PySem.W.InstAt st.heap x ox Da od) (h : Q (some (.ref Da)) { st with toks := st.toks + 1 }) : wpAny (model P w) A (getAttr? (.ref x) "__class__") Q E st := by
  have found : PySem.W.findObj K Da od "__class__" = some (.bind (.builtin "getset_descriptor.__get__") (.builtin "object.__class__")) := by
    obtain ⟨cd, hc, _⟩ := PySem.W.any_some T.hd
    unfold PySem.W.findObj
    rw [hc, Option.bind_some, T.ha, Option.bind_some]
    simp [T.hn, T.ht]
  obtain ⟨hp, g, d, t, os⟩ := st
  have kind := I.type (M := model P w)
  have own := PySem.W.looks_findIn (M := model P w) X T.hg
  have fall := PySem.W.looks_findIn (M := model P w) X T.hk
  have look := PySem.W.looks_find (M := model P w) X I found
  have below : PySem.W.Looks (model P w) hp (isInstance (.ref x) (.type "BaseException")) true := kind.andThen (PySem.W.looks_subIn X T.hs)
  have n1 : (Value.builtin "BaseException.__getattribute__" == Value.builtin "object.__getattribute__") = false := by decide +kernel
  have n2 : (onTheHeap (Value.ref Da) && Value.builtin "BaseException.__getattribute__" == Value.builtin "object.__getattribute__") = false := by rw [n1]; rfl
  have n3 : (false && onTheHeap (Value.builtin "BaseException.__getattribute__")) = false := rfl
  unfold getAttr? getAttrBy? getAttrBy
  refine wpAny_bind (wpAny_mkText (wpAny_bind (wpAny_attempt (wpAny_holding (wpAny_bind (kind.at (wpAny_bind (own.at ?_))))))))
  show wpAny _ _ (if (onTheHeap (Value.ref Da) && Value.builtin "BaseException.__getattribute__" == Value.builtin "object.__getattribute__") = true then _ else _) _ _ _
  rw [n2, if_neg Bool.false_ne_true]; unfold getAttrByItsOwn hookBefore
  refine wpAny_bind ?_
  rw [if_pos (show onTheHeap (Value.ref Da) = true from rfl)]
  refine fall.at (wpAny_bind (wpAny_attempt (wpAny_holding ?_)))
  unfold callGetattribute; rw [n3, if_neg Bool.false_ne_true]
  unfold boundAndCalled; rw [PySem.F.excAttr_ValueError.ga.bind (.ref x)]
  refine wpAny_bind (wpAny_pure ?_)
  show wpAny _ _ (call (.builtin "BaseException.__getattribute__") [.ref x, .str "__class__" t]) _ _ _
  refine wpAny_call (codeAny_call_builtin PySem.F.excAttr_ValueError.ga.plain PySem.F.entry_bexc_ga (@PySem.W.check_slot (model P w) _ _ ⟨hp, g, d, t + 1, os⟩ "BaseException.__getattribute__" "BaseException" "__getattribute__" (.ref x) [.str "__class__" t] [] _ (by decide +kernel) (by decide +kernel) below (PySem.F.args_bexc_ga (.ref x) (.str "__class__" t)) ?_))
  unfold Builtin.«object.__getattribute__»
  refine wpAny_bind (wpAny_of_eq (a := ((Value.ref x : Value), [Value.str "__class__" t])) (by first | rfl | (simp only [slotArgs]; rfl)) (wpAny_bind (wpAny_pure (wpAny_bind (kind.at (wpAny_bind (look.at ?_)))))))
  show wpAny _ _ (holding [Value.builtin "object.__class__"] (call (.builtin "getset_descriptor.__get__") [.builtin "object.__class__", .ref x, .ref Da]) >>= ret) _ _ _
  refine wpAny_bind (wpAny_holding (wpAny_call (PySem.W.class_get (s := ⟨hp, g, d, t + 1, os⟩) (ox := ox) (od := od) X I T.hm (wpAny_pure ?_))))
  show wpAny _ _ (handedOut (.ref Da)) _ _ _
  rw [PySem.W.handedOut_of (v := .ref Da) rfl]
  first
    | exact wpAny_pure (wpAny_pure h)
    | exact wpAny_pure h
    | exact wpAny_pure (wpAny_bind (wpAny_pure (wpAny_pure h)))
theorem kit_err (T : L2.ExcC K Da) : PySem.W.KitX K (.ref x) (.ref Da) (fun h => ∃ od, PySem.W.InstAt h x ox Da od) := by
  obtain ⟨cdD, hcD, _⟩ := PySem.W.any_some T.hd
  unfold PySem.W.clsIn at hcD
  split at hcD
  · rename_i c' d' cd' sl' ho
    refine { ty := fun _ _ _ ⟨_, I⟩ => I.type, it := ?_, ne := ?_, ca := ?_ }
    · intro _ _ X _ A' Q' E' s' k q
      unfold isType loadHead
      exact wpAny_bind (wpAny_loadPart (k _ _ (X _ _ ho)) (wpAny_pure q))
    · intro h tp dd its n sl X htp
      refine Bool.eq_false_iff.mpr fun q => ?_
      have e : Da = tp := Value.ref.inj (beq_iff_eq.mp q)
      rw [← e] at htp
      exact nomatch (X _ _ ho).symm.trans htp
    · intro _ _ _ _ _ _ X I k
      obtain ⟨od, I⟩ := I
      exact cls_attr_err T X I k
  · cases hcD
end
/-- isinstance(e, T) of the error that the suite holds -/
def rIsErr (K : PySem.W.Frag) (Da a : Addr) : List V → Hp → VK → Prop := fun xs H Q => ∃ (c : V) (u : Value) (b : Bool), xs = [.ref a, c] ∧ ClsV c u ∧ PySem.W.kitOne K (.ref Da) u = some b ∧ Q (.bl b) H
theorem call_isErr {X : Cx} {a Da : Addr} {oe : Obj} {pn : List (Addr × Obj)} {dd : Option Addr} {fs : List (Str × V)} (T : L2.ExcC X.K Da) (hz : Zc (.ref Da) dd oe) (hf : ∃ vs, oe.data = .fields vs) :
    CallR (X.suite a ((a, oe) :: pn)) (.builtin "isinstance") (fun xs H Q => (dd = none ∨ ∃ d fs, dd = some d ∧ H d = some (.xd fs)) ∧ rIsErr X.K Da a xs H Q) := by
  rintro pins s σ H xs us Q I r ⟨hd, c, u, b, rfl, hc, e, q⟩
  obtain ⟨u1, u2, rfl, r1, r2⟩ := vals2 r
  obtain rfl : u1 = Value.ref a := r1
  have e2 := hc.eq r2
  subst e2
  obtain ⟨hget, _⟩ := I.pin (a, oe) (List.mem_append.mpr (.inl List.mem_cons_self))
  obtain ⟨vs, hv⟩ := hf
  have J : ∃ od, PySem.W.InstAt s.heap a oe Da od := by
    have nc : PySem.W.notCls oe := by unfold PySem.W.notCls; rw [hv] <;> trivial
    rcases hd with hd | ⟨d, fs, hd, hh⟩
    · exact ⟨none, hget, hz.1, nc, by rw [hz.2, hd]; trivial⟩
    · have hx : ObjOk X.prog X.w H s.heap d (.xd fs) := I.hok d _ hh
      obtain ⟨mA, ⟨o, es, ep, ho, _⟩, _⟩ := hx
      exact ⟨some o, hget, hz.1, nc, by rw [hz.2, hd]; exact ho⟩
  exact PySem.W.kia_one (kit_err (x := a) (ox := oe) T) I.kIn J e (fun z => nomatch z) fun tk => ⟨.bl b, H, I.tok tk, rfl, q⟩
/-! ### the rules of such a suite -/
section
variable {Γ : G} {W : WX} {X : Cx} {a : Addr} {oe : Obj} {C n x : Str} {ds : List D} {o : Option Addr} {pn : List (Addr × Obj)} {i : Nat} {p pos : Pos}
theorem PE.absurd {X : Cx} {e : Expr} {t : TE} (h : ∀ σ H Q, ¬ t σ H Q) : PE X e t := ⟨fun pins s σ H Q I q => (h σ H Q q).elim⟩
theorem q_xfld (hK : X.K = Γ.K) (hX : ∀ E, x ∈ Γ.xfl E → XfC Γ.K (Γ.c E) ∧ PySem.W.findIn Γ.K (.ref (Γ.c E)) x = some none) (hz : Zc (.ref (Γ.c C)) o oe) (hf : ∃ vs, oe.data = .fields vs) (hN : X.N[i]? = some n := by rfl) (hv : Vis X.env.scope n := by first | exact Or.inl rfl | exact Or.inr (Or.inl rfl) | exact Or.inr (Or.inr rfl))
    (hd : (n == ("__debug__" : Str)) = false := by decide) (hcd : (n == ("__classdict__" : Str)) = false := by decide) (hb : attributeBase (.Name n p) x X.env (eval (.Name n p) X.env) = eval (.Name n p) X.env := by rfl) :
    PE (X.suite a ((a, oe) :: pn)) (.Attribute (.Name n p) x pos) (tE (Γ.at_ a i C ds o) W (mXfld Γ.xfl i C ds x)) := by
  by_cases hx : x ∈ Γ.xfl C
  · obtain ⟨T, hno⟩ := hX C hx
    refine PE.imp (pe_xf (X := X) (by rw [hK]; exact T) (by rw [hK]; exact hno) hz hf (pe_var (i := i) hN hv hd hcd) hb) fun σ H Q ⟨env, S, f, rs, re, h⟩ => ?_
    unfold mXfld at h
    split at h
    · rename_i hi
      split at h
      · rename_i d hd'
        refine ⟨_, re.2.2 a i C ds o rfl hi, rfl, rfl, ?_⟩
        rcases rs.xc a i C ds o rfl with ⟨e, _⟩ | ⟨dd, fvs, e1, e2, r⟩
        · subst e
          rw [List.zip_nil_right] at hd'
          cases hd'
        · obtain ⟨v, hv', rv⟩ := r.look hd'
          exact ⟨dd, fvs, v, e1, e2, hv', h f H v .refl rs rv⟩
      · exact h.elim
    · exact h.elim
  · refine PE.absurd fun σ H Q ⟨env, S, f, rs, re, h⟩ => ?_
    unfold mXfld at h
    split at h
    · split at h
      · rename_i d hd'
        exact hx (zip_mem hd')
      · exact h
    · exact h
theorem q_xis {c : Expr} {T : CK} {xk : Str → CK → Option Bool} {p2 : Pos} (hK : X.K = Γ.K) (hX : ∀ E b, xk E T = some b → L2.ExcC Γ.K (Γ.c E) ∧ PySem.W.kitOne Γ.K (.ref (Γ.c E)) (T.u Γ) = some b) (hz : Zc (.ref (Γ.c C)) o oe) (hf : ∃ vs, oe.data = .fields vs) (hm : X.mg "isinstance" = none)
    (hc : PE (X.suite a ((a, oe) :: pn)) c (tC (T.v Γ))) (hN : X.N[i]? = some n := by rfl) (hv : Vis X.env.scope n := by first | exact Or.inl rfl | exact Or.inr (Or.inl rfl) | exact Or.inr (Or.inr rfl)) (hd : (n == ("__debug__" : Str)) = false := by decide) (hcd : (n == ("__classdict__" : Str)) = false := by decide) (hg : Gl X "isinstance" := by rfl)
    (hs : starEach (.Name n p2 :: [c]) X.env = (false, eval (.Name n p2) X.env) :: starEach [c] X.env := by rfl) (hs2 : starEach (c :: []) X.env = (false, eval c X.env) :: starEach [] X.env := by rfl) (hpl : (backTo pos (starEach [c] X.env)).any (·.1) = false := by rfl) :
    PE (X.suite a ((a, oe) :: pn)) (.Call (.Name "isinstance" p) [.Name n p2, c] [] pos) (tE (Γ.at_ a i C ds o) W (mXis xk i C T)) := by
  cases q : xk C T with
  | none =>
    refine PE.absurd fun σ H Q ⟨env, S, f, rs, re, h⟩ => ?_
    unfold mXis at h
    split at h
    · rw [q] at h; exact h
    · exact h
  | some b =>
    obtain ⟨T1, hk⟩ := hX C b q
    refine PE.imp (pe_callB (X := X.suite a ((a, oe) :: pn)) (call_isErr (fs := []) (by rw [hK]; exact T1) hz hf) hg hm (by decide +kernel) (pa_cons (pe_var (i := i) hN hv hd hcd) (pa_cons hc pa_nil hs2) hs) (by decide) (by decide) hs hpl) fun σ H Q ⟨env, S, f, rs, re, h⟩ => ?_
    unfold mXis at h
    split at h
    · rename_i hi
      rw [q] at h
      refine ⟨_, re.2.2 a i C ds o rfl hi, ?_, T.v Γ, T.u Γ, b, rfl, T.cls, by rw [hK]; exact hk, h f H _ .refl rs Rp.ofBl⟩
      rcases rs.xc a i C ds o rfl with ⟨_, e⟩ | ⟨dd, fvs, e1, e2, r⟩
      · exact .inl e
      · exact .inr ⟨dd, fvs, e1, e2⟩
    · exact h.elim
end
end Lk

set_option Elab.async false
set_option linter.all false
set_option autoImplicit false
set_option maxRecDepth 100000
set_option maxHeartbeats 4000000
/-! Written dicts, globals' values, the law's own end. -/
namespace Lk
open PySem PySem.Spec PyProof.Rows L2
def mDict0 : ME := fun _ S => .ok (.ref S.length) (S ++ [.dk []])
def keyOf : D → Option Key
  | .int i => some (.inl i)
  | .str x => some (.inr x)
  | _ => none
def mDict1 (mk mv : ME) : ME := fun env S => (mk env (S ++ [.dk []])).bind fun k S1 => (mv env S1).bind fun v S2 => match keyOf k, S2[S.length]? with
  | some key, some (.dk []) => .ok (.ref S.length) (S2.set S.length (.dk [(key, v)]))
  | _, _ => .bad
section
variable {Γ : G} {W : WX} {X : Cx} {f : List Addr} {H : Hp} {S : Store} {pos : Pos}
theorem q_dict0 : PE X (.Dict [] [] pos) (tE Γ W mDict0) := PE.imp pe_dnewK fun σ H Q ⟨env, S, f, rs, re, h⟩ p hp => by
  refine h (f ++ [p]) _ _ (.alloc hp) (rs.alloc (b := .dk []) hp ⟨[], upd_same, rfl, ?_⟩) (Rp.refI (by rw [← rs.len]; simp))
  simp only [List.map_nil, RpL]
theorem keyOf_ok {d : D} {v : V} {k : Key} (h : keyOf d = some k) (r : Rp Γ f H d v) : v = kV k := by
  cases d with
  | int i => cases h; exact r.int
  | str i => cases h; exact r.str
  | _ => cases h
theorem q_dict1 {k v : Expr} {mk mv : ME} (hk : PE X k (tE Γ W mk)) (hv : PE X v (tE Γ W mv)) : PE X (.Dict [some k] [v] pos) (tE Γ W (mDict1 mk mv)) := PE.imp (pe_disp (pps_cons hk hv pps_nil) rfl rfl (fun z => by cases z) (by show 1 ≤ 15; decide)) fun σ H Q ⟨env, S, f, rs, re, h⟩ p hp => by
  have rs0 : RelS Γ (f ++ [p]) (S ++ [.dk []]) (upd H p (.dK [])) := rs.alloc (b := .dk []) hp ⟨[], upd_same, rfl, by simp only [List.map_nil, RpL]⟩
  have u0 : Up Γ f H (f ++ [p]) (upd H p (.dK [])) := .alloc hp
  refine ⟨env, S ++ [.dk []], f ++ [p], rs0, re.up u0, Wp.bindL (Wp.mono u0 h) fun k S1 f1 H1 kv u1 rs1 r1 h1 => ⟨env, S1, f1, rs1, (re.up u0).up u1, Wp.bindL h1 fun d S2 f2 H2 dv u2 rs2 r2 h2 => ?_⟩⟩
  split at h2
  · rename_i key hkey hn
    have hp2 : f2[S.length]? = some p := (u1.trans u2).at (by rw [← rs.len]; simp)
    obtain ⟨b, hb, us, hh, ek, _⟩ := rs2.ob _ _ hn
    rw [hp2] at hb
    cases hb
    have eu : us = [] := by
      have := congrArg List.length ek
      simpa using this
    subst eu
    have uc : Up Γ f2 H2 f2 (upd H2 p (.dK (mergeK [] [(key, dv)]))) := .chg hh trivial
    refine ⟨hh, [(key, dv)], by rw [List.map_cons, List.map_nil, keyOf_ok hkey (r1.up u2)], (by show 1 ≤ 15; decide), h2 f2 _ _ uc (rs2.set hp2 (.chg hh trivial) ⟨[(key, dv)], upd_same, rfl, ?_⟩) (Rp.refI hp2)⟩
    simp only [List.map_cons, List.map_nil, RpL]
    exact ⟨dv, [], rfl, r2.up uc, rfl⟩
  · exact h2.elim
end
/-- the script: ints that are read alone -/
theorem script_rp {Γ : G} {H : Hp} {a : Addr} {ns : List Int} (hO : Only H) (hS : SqL Γ.K H a (ns.map V.int)) : Rp Γ [] H (.rol (ns.map D.int)) (.ref a) := by
  simp only [Rp]
  refine ⟨a, _, rfl, ⟨hS, ?_⟩, ?_⟩
  · rcases hS with (h | ⟨o, h⟩) | h
    · rcases hO a with z | ⟨o, xs, z⟩
      · rw [z] at h; cases h
      · rw [z] at h; cases h
    · exact .inl ⟨o, h⟩
    · exact .inr h
  · have key : ∀ ns : List Int, RpL Γ [] H (ns.map D.int) (ns.map V.int) := by
      intro ns
      induction ns with
      | nil => simp only [List.map_nil, RpL]
      | cons n ns ih =>
        simp only [List.map_cons, RpL]
        exact ⟨_, _, rfl, Rp.ofInt, ih⟩
    exact key ns
/-- the law's promise, from what its mirror says of every script -/
theorem law_sp {Γ : G} {m : List D → Store → R D} {H : Hp} {a : Addr} {ns : List Int} (hx : Γ.xc = none) (hO : Only H) (hS : SqL Γ.K H a (ns.map V.int)) {S' : Store} (hm : m [.rol (ns.map D.int)] [] = .ok (.bl true) S') :
    spOf Γ 1 m [.ref a] H (fun v _ => v = .bl true) (fun _ _ _ => False) := by
  refine ⟨rfl, [], [], [.rol (ns.map D.int)], ⟨rfl, List.nodup_nil, fun n o e => by simp at e, fun a i C ds o e => by rw [hx] at e; cases e⟩, ?_, ?_⟩
  · simp only [RpL]
    exact ⟨_, [], rfl, script_rp hO hS, rfl⟩
  · rw [hm]
    exact fun f' H' b _ _ r => r.bl
theorem cx_none {P : Program} {w : World} (H : Hp) (s : Shared) (e : Value) (s' : Shared) (h : L2.CX P w [] H s (fun _ _ _ => False) e s') : False := by
  obtain ⟨_, _, _, _, _, _, _, _, _, _, _, _, z⟩ := h
  exact z.elim
end Lk

set_option Elab.async false
set_option linter.all false
set_option autoImplicit false
set_option maxRecDepth 100000
set_option maxHeartbeats 4000000
/-! What the head says, as questions that the kernel answers. -/
namespace Lk
open PySem PySem.Spec PyProof.Rows L2
section
variable {K : PySem.W.Frag}
theorem oexB_ok {C : Addr} (h : oexB K C = true) : OexC K C := by
  obtain ⟨h1, h⟩ := b2 h
  obtain ⟨h2, h⟩ := b2 h
  obtain ⟨h3, h⟩ := b2 h
  obtain ⟨h4, h5⟩ := b2 h
  refine ⟨?_, of_decide_eq_true h2, of_decide_eq_true h3, of_decide_eq_true h4, h5⟩
  split at h1
  · rename_i dd cd sl ho
    split at h1
    · rename_i C' bm k0 k1 k2 k3 n k5 hm hs
      simp only [Bool.and_eq_true, beq_iff_eq, Bool.not_eq_true'] at h1
      obtain ⟨e1, e2, e3, e4, e5⟩ := h1
      subst e1
      subst e2
      obtain ⟨nm, bs, mro, ns, qn, hd, sn, sub, ab, col, del⟩ := cd
      dsimp only at hm e3 e5
      subst hm
      subst e3
      subst e5
      obtain ⟨sl⟩ := sl
      dsimp only at hs
      subst hs
      exact ⟨nm, qn, ns, bs, bm, sn, sub, ab, col, dd, k0, k1, k2, k3, k5, ho, e4⟩
    · cases h1
  · cases h1
theorem insB_ok {C : Addr} (h : insB K C = true) : C8.InsC K C := by
  obtain ⟨h1, h⟩ := b2 h
  obtain ⟨h2, h⟩ := b2 h
  obtain ⟨h3, h⟩ := b2 h
  obtain ⟨h4, h⟩ := b2 h
  obtain ⟨h5, h⟩ := b2 h
  obtain ⟨h6, h⟩ := b2 h
  obtain ⟨h7, h⟩ := b2 h
  obtain ⟨h8, h9⟩ := b2 h
  exact ⟨⟨h1, h2, h3, of_decide_eq_true h4⟩, of_decide_eq_true h5, of_decide_eq_true h6, of_decide_eq_true h7, of_decide_eq_true h8, of_decide_eq_true h9⟩
theorem noB_ok {C : Addr} {x : Str} (h : noB K C x = true) : PySem.W.findIn K (.ref C) x = some none := of_decide_eq_true h
theorem isB_ok {Γ : G} {cs : List Str} {T : CK} (h : isB Γ cs T = true) : IsF Γ cs T := by
  obtain ⟨h1, h2⟩ := b2 h
  exact ⟨fun a ha => of_decide_eq_true (List.all_eq_true.mp h1 a ha), fun C hC => of_decide_eq_true (List.all_eq_true.mp h2 C hC)⟩
theorem nfB_ok {Γ : G} {cs : List Str} {C : Str} (h : nfB Γ cs C = true) : ∀ a : CK, okK cs a = true → PySem.W.notFirst Γ.K (Γ.c C) (a.u Γ) = true := by
  obtain ⟨h1, h2⟩ := b2 h
  intro a ha
  cases a with
  | bi n => exact List.all_eq_true.mp h1 n (List.contains_iff_mem.mp ha)
  | own E => exact List.all_eq_true.mp h2 E (List.contains_iff_mem.mp ha)
theorem excB_ok {C : Addr} (h : excB K C = true) : L2.ExcC K C := by
  obtain ⟨h1, h⟩ := b2 h
  obtain ⟨h2, h⟩ := b2 h
  obtain ⟨h3, h⟩ := b2 h
  obtain ⟨h4, h⟩ := b2 h
  obtain ⟨h5, h⟩ := b2 h
  obtain ⟨h6, h⟩ := b2 h
  obtain ⟨h7, h8⟩ := b2 h
  exact ⟨of_decide_eq_true h1, of_decide_eq_true h2, of_decide_eq_true h3, h4, of_decide_eq_true h5, of_decide_eq_true h6, of_decide_eq_true h7, of_decide_eq_true h8⟩
theorem excB_xf {C : Addr} (h : excB K C = true) : XfC K C := by
  have e := excB_ok h
  exact ⟨e.hg, e.hk, e.hs, e.hd⟩
theorem biB_ok {h : Heap} {mg : Str → Option Value} (X : K.In h) (Gs : h.Ns mainGlobals mg) {x : Str} {id : String} (c : biB K x id = true) : mg x = some (.builtin id) := PySem.W.mg_of X Gs (He.eqO_ok c)
end
/-! ### the questions, asked at the head's end -/
theorem obsLG_eq {n : Nat} {fa : Qs} {fn : List He.DefD} {g : Addr → Option Obj} {s : Shared} (h : ∀ a, g a = s.heap.get? a) : obsLG n fa fn g = (hookL n fa fn).obs s := by
  have e : g = s.heap.get? := funext h
  rw [e] <;> rfl
section
variable {fa : Qs} {fn : List He.DefD} {K : PySem.W.Frag}
theorem SaysL.fact (c : SaysL fa fn K) (i : Nat) {q : PySem.W.Frag → Bool} (h : fa[i]? = some q := by rfl) : q K = true := by
  have c1 := (b2 (show ((fa.all fun q => q K) && fn.all fun d => d.ok K) = true from congrArg (fun z : He.AlD => z.1) c)).1
  exact List.all_eq_true.mp c1 q (List.mem_of_getElem? h)
theorem SaysL.def_ (c : SaysL fa fn K) (i : Nat) {d : He.DefD} (h : fn[i]? = some d := by rfl) : ∃ fd, FunD K d.name d.qual d.params d.body d.scope (d.dvs K) (d.kws K) (He.fAd K d.at_) fd := by
  have c2 := (b2 (show ((fa.all fun q => q K) && fn.all fun d => d.ok K) = true from congrArg (fun z : He.AlD => z.1) c)).2
  have e : fn.map (fun d => He.fnW K d.at_) = fn.map He.DefD.val := congrArg (fun z : He.AlD => z.2) c
  have e2 : (fn.map fun d => He.fnW K d.at_)[i]? = (fn.map He.DefD.val)[i]? := by rw [e]
  rw [List.getElem?_map, List.getElem?_map, h] at e2
  exact He.DefD.funD (Option.some.inj e2) (List.all_eq_true.mp c2 d (List.mem_of_getElem? h))
end
end Lk

set_option Elab.async false
set_option linter.all false
set_option autoImplicit false
set_option maxRecDepth 100000
set_option maxHeartbeats 4000000
namespace Lk
open PySem PySem.Spec PyProof.Rows L2
section
variable {Γ : G} {W : WX} {X : Cx} {f : List Addr} {S : Store} {H : Hp} {e : Expr} {es : List Expr} {p pos apos cpos : Pos} {mr : MA} {mo : ME} {o : Expr} {name : Str}
theorem all_cons {α : Type} {p : α → Prop} {a : α} {l : List α} (h : p a) (r : ∀ b ∈ l, p b) : ∀ b ∈ a :: l, p b := fun b hb => by
  rcases List.mem_cons.mp hb with e | e
  · subst e; exact h
  · exact r b e
theorem q_callG {id : String} {x : Str} {r : List V → Hp → VK → Prop} {g : List D → Store → R D} (hc : CallR X (.builtin id) r) (hg' : ArOk Γ r g) (hm : X.mg x = some (.builtin id)) (ha : PA X (e :: es) (tA Γ W mr)) (hg : Gl X x := by rfl) (hdb : (x == ("__debug__" : Str)) = false := by decide)
    (he : starEach (e :: es) X.env = (false, eval e X.env) :: starEach es X.env := by rfl) (hpl : (backTo pos (starEach es X.env)).any (·.1) = false := by rfl) : PE X (.Call (.Name x p) (e :: es) [] pos) (tE Γ W (mB g mr)) := PE.imp (pe_callBfun hc hg hm ha hdb he hpl) fun σ H Q => many hg'
theorem q_bm {id : String} {r : V → List V → Hp → VK → Prop} {g : D → List D → Store → R D} (hK : X.K = Γ.K) (hg : MtOk Γ r g) (pa : PlainAttrs "list") (slot : Slot "list" name id) (hty : typeOf (.builtin id) = pure (.type "method_descriptor")) (hm : MtR X id r) (ho : PE X o (tE Γ W mo)) (ha : PA X (e :: es) (tA Γ W mr))
    (hbase : attributeBase o name X.env (eval o X.env) = eval o X.env := by rfl)
    (hfew : ((backTo cpos (starEach (e :: es) X.env)).all (fun x => !x.1) && (backToKw cpos (keywordEach [] X.env)).all (fun x => x.1.isSome)
      && decide ((e :: es).length + ([] : List Keyword).length + (if ([] : List Keyword).isEmpty then 0 else 1) < 30)) = true := by rfl)
    (hline : (apos.endLine == cpos.line) = true := by rfl) (hs : starEach (e :: es) X.env = (false, eval e X.env) :: starEach es X.env := by rfl) (hplain : (backTo cpos (starEach es X.env)).any (·.1) = false := by rfl) :
    PE X (.Call (.Attribute o name apos) (e :: es) [] cpos) (tE Γ W (mBM g mo mr)) := PE.imp (pe_bm pa slot hty hm ho ha hbase hfew hline hs hplain) fun σ H Q h => bm_imp hK hg h
/-! ### str of an int -/
theorem ns_of {K : PySem.W.Frag} {h : Heap} {N : Addr} {mg : Str → Option Value} {n : Str} {v : Value} (X : K.In h) (G : h.Ns N mg) (e : PySem.W.nsIn K N n = some (some v)) : mg n = some v := by
  obtain ⟨o, es, ep, ho, hd, _, hf⟩ := G
  unfold PySem.W.nsIn at e
  split at e
  · rename_i c d es' n' sl q
    have := X _ _ q
    rw [ho] at this
    cases this
    cases hd
    split at e
    · rename_i en he
      cases e
      rw [← hf]
      unfold nsFind findBy
      rw [← Array.find?_toList, he]
      first | rfl | simp
    · split at e <;> cases e
  · cases e
/-! ### != of two instances of one class with an own == and no own != -/
theorem ownNeB_ok {K : PySem.W.Frag} {C f : Addr} (h : ownNeB K C f = true) : OwnNe K C f := by
  obtain ⟨h1, h2⟩ := b2 h
  refine ⟨?_, by
    split at h2
    · rename_i o ho; exact ⟨o, ho, beq_iff_eq.mp h2⟩
    · cases h2⟩
  split at h1
  · rename_i dd cd sl ho
    split at h1
    · rename_i C' k0 k1 k2 k3 n k5 hm hs
      simp only [Bool.and_eq_true, beq_iff_eq, Bool.not_eq_true'] at h1
      obtain ⟨e1, e2, e3, e4, e5⟩ := h1
      subst e1
      obtain ⟨nm, bs, mro, ns, qn, hd, sn, sub, ab, col, del⟩ := cd
      dsimp only at hm e2 e3 e4 e5
      subst hm
      subst e2
      obtain ⟨sl⟩ := sl
      dsimp only at hs
      subst hs
      exact ⟨nm, qn, ns, bs, hd, sn, sub, ab, col, dd, k0, k1, k2, k3, k5, n, ho, e3, of_decide_eq_true e4, of_decide_eq_true e5⟩
    · cases h1
  · cases h1
def rOwnNe (Γ : G) (oe : Str → Option (List D → Store → R D)) : R2 := fun x y H Q => ∃ C m a b dx fs dy gs, oe C = some m ∧ x = .ref a ∧ H a = some (.ins (Γ.c C) dx fs) ∧ y = .ref b ∧ H b = some (.ins (Γ.c C) dy gs) ∧ spOf Γ 2 m [x, y] H (fun v H' => ∃ b, v = .bl b ∧ Q (.bl (!b)) H') (fun _ _ _ => False)
theorem or_ownNe {k : Nat} {oe : Str → Option (List D → Store → R D)} (hK : X.K = Γ.K) (hr : Room (k + 1) X.A) (ho : ∀ C m, oe C = some m → NeC Γ X.prog X.w X.mg X.base k C m) : OpR X (compareOp .NotEq) (rOwnNe Γ oe) := by
  intro pins s σ H x y v u Q I rx ry h
  obtain ⟨C, m, a, b, dx, fs, dy, gs, hC, ex, hh, ey, hh2, hsp⟩ := h
  subst ex
  subst ey
  obtain rfl : v = Value.ref a := rx
  obtain rfl : u = Value.ref b := ry
  obtain ⟨g, fd, ps, on, F, hb⟩ := (ho C m hC).ne
  obtain ⟨nm, q, N, bs, hd, sn, sub, ab, col, dd, k0, k1, k2, k3, k5, n, hl, n1, n2, n3⟩ := on.cls
  obtain ⟨mA, J, _⟩ := ins_get I.hok hh
  obtain ⟨mB, J2, _⟩ := ins_get I.hok hh2
  have KI : Γ.K.In s.heap := by rw [← hK]; exact I.kIn
  obtain ⟨of, hf1, hf2⟩ := on.fn
  have hns := Heap.Ns.of_isNs (PySem.W.isNs_of_in KI n1)
  have he : s.heap.nsMap N "__eq__" = some (.ref g) := ns_of KI hns n2
  have hne : s.heap.nsMap N "__ne__" = none := PySem.W.nsMap_none_of_in KI n1 n3
  have OE : s.heap.OwnEqNoNe a (Γ.c C) g "object" [.type "object"] :=
    ⟨_, of, nm, q, N, bs, hd, sn, sub, ab, col, dd, k0, k1, k2, k3, k5, n, _, _, J.obj, rfl, KI _ _ hl, hns, he, KI _ _ hf1, hf2, PySem.F.cmp_object.mro, PySem.F.cmp_object.eq.lookup, hne⟩
  have I0 := I
  obtain ⟨hh0, g0, d0, t0, os0⟩ := s
  refine compareOp_ne_ownEq PySem.F.cmp_object OE J2.obj rfl (by have := hr.un; omega) ?_
  have r : Vals [V.ref a, V.ref b] [.ref a, .ref b] := .cons rfl (.cons rfl .nil)
  have hle : ([Value.ref a, .ref b] : List Value).length = ps.length := by
    have := F.len _ _ _ _ hsp
    exact this
  have bb := hb ⟨hh0, g0, d0, t0, os0⟩ [.ref a, .ref b] KI (by rw [List.append_nil]; exact hle)
  rw [List.append_nil] at bb
  have e0 : Env0 X.prog X.w Γ.K X.mg X.base X.A.in1 X.stack ⟨hh0, g0, d0, t0, os0⟩ H := by rw [← hK]; exact I.env0.in1
  refine wpAny_call (codeAny_mono (F.run X.A.in1 X.stack ⟨hh0, g0, d0, t0, os0⟩ H ⟨[.ref a, .ref b], []⟩ [.ref a, .ref b] [V.ref a, V.ref b] (fun v H' => ∃ b, v = .bl b ∧ Q (.bl (!b)) H') (fun _ _ _ => False) hr.in1 e0 bb r hsp) fun r s' hq => ?_)
  cases r with
  | error e =>
    obtain ⟨_, _, _, _, _, _, _, _, _, _, _, _, z⟩ := hq
    exact z.elim
  | ok fl =>
    cases fl with
    | ret u =>
      obtain ⟨v, H', I', rz, c, ec, qz⟩ := I.after hq
      subst ec
      obtain rfl : u = Value.bool c := rz
      exact ⟨c, rfl, .bl (!c), H', I', rfl, qz⟩
    | next => exact False.elim hq
    | brk => exact False.elim hq
    | cont => exact False.elim hq
def rNeX (Γ : G) (oe : Str → Option (List D → Store → R D)) : R2 := fun x y H Q => rNeD Γ.K x y H Q ∨ rOwnNe Γ oe x y H Q
theorem or_ne {k : Nat} {oe : Str → Option (List D → Store → R D)} (hK : X.K = Γ.K) (hr : Room (k + 1) X.A) (ho : ∀ C m, oe C = some m → NeC Γ X.prog X.w X.mg X.base k C m) : OpR X (compareOp .NotEq) (rNeX Γ oe) := OpR.or (by rw [← hK]; exact op_neD hr.units) (or_ownNe hK hr ho)
theorem ok_neX {oe : Str → Option (List D → Store → R D)} : OpOk Γ (rNeX Γ oe) (gNeX oe) := fun W σ f S H x y v u Q rs rx ry h => by
  unfold gNeX at h
  split at h
  · rename_i C xs C' ys
    split at h
    · rename_i ec
      subst ec
      split at h
      · rename_i m hm
        have rx0 := rx
        have ry0 := ry
        simp only [Rp] at rx ry
        obtain ⟨a, dx, fvs, e, hh, _⟩ := rx
        obtain ⟨b, dy, gvs, e2, hh2, _⟩ := ry
        refine .inr ⟨C, m, a, b, dx, fvs, dy, gvs, hm, e, hh, e2, hh2, rfl, f, S, [.ins C xs, .ins C ys], rs, ?_, ?_⟩
        · simp only [RpL]
          exact ⟨v, [u], rfl, rx0, u, [], rfl, ry0, rfl⟩
        · revert h
          cases m [.ins C xs, .ins C ys] S with
          | ok d S' =>
            cases d with
            | bl b =>
              intro h f' H' v' u' rs' r'
              exact ⟨b, r'.bl, h f' H' _ u' rs' Rp.ofBl⟩
            | _ => exact fun h => h.elim
          | _ => exact fun h => h.elim
      · exact h.elim
    · exact h.elim
  · exact .inl (ok_ne W σ f S H x y v u Q rs rx ry h)
end
end Lk

set_option Elab.async false
set_option linter.all false
set_option autoImplicit false
set_option maxRecDepth 100000
set_option maxHeartbeats 4000000
namespace Lk
open PySem PySem.Spec PyProof.Rows L2
/-- the end: from the mirror's answer on every script to the law's walk -/
theorem walk_fin {l : PySem.W.OpenLaw} {n k : Nat} {q : Program} {loose : List Str} {XP : (Str → Option Value) → Heap → Prop} {YP : World → Heap → Prop} {d : DefRec} {x : Str} {m : List D → Store → R D}
    (hn : l.most = some n) (hn2 : n ≤ sizeLine) (hdf : d.params.defaults = []) (hr : Room k callerA)
    (hm : ∀ ns : List Int, ns.length ≤ n → ∃ S', m [.rol (ns.map D.int)] [] = .ok (.bl true) S')
    (F : ∀ (w : World) (mg : Str → Option Value) (fa : Addr) (h : Heap), YP w h → h.Ns mainGlobals mg → mg d.name = some (.ref fa) →
      ∃ (Γ : G) (fd : FuncData), Γ.xc = none ∧ Γ.K.In h ∧ (∀ (s : Shared) (u : Value), BindsTo s fd ⟨[u], []⟩ [(x, u)]) ∧ ∀ base : Heap, Γ.K.In base → base.Ns mainGlobals mg → FnOk l.prog w Γ.K mg base (L2.CX l.prog w) k fa fd [x] (spOf Γ 1 m)) :
    PySem.W.WalkO q loose XP YP l.row.toRowW d [] (fun f vs => PySem.call f vs) := by
  refine Att.attach_call hn hdf fun w s₀ s₁ mg mb fa o pm cd doc a vs ns G Y ho hd hcd hmg hobj hints hlen hg => ?_
  obtain ⟨Γ, fd, hx, KX, hb, hF⟩ := F w mg fa _ Y G.T.g hmg
  refine law_call KX G.T.g G.T.b G.T.builtins G.T.nolimit hg hobj hints (Nat.le_trans hlen hn2) hr hF hb (fun H hO hS => ?_) fun H e s' z => cx_none _ _ _ _ z
  obtain ⟨S', e⟩ := hm ns hlen
  exact law_sp hx hO hS e
end Lk

set_option Elab.async false
set_option linter.all false
set_option autoImplicit false
set_option maxRecDepth 100000
set_option maxHeartbeats 4000000
/-! a dict of at most one entry, compared with itself -/
namespace Lk
open PySem PySem.Spec PyProof.Rows L2
section
variable {K : Type} [DecidableEq K] {prog : Program} {w : World} {knd : KeyKind prog w K} {A : Around} {E : Value → Shared → Prop} {s : Shared}
theorem eqBool_self {v : Value} (hv : (v == v) = true) {Q : Bool → Shared → Prop} (h : Q true s) : wpAny (model prog w) A (eqBool v v) Q E s := by
  unfold eqBool
  try with_reducible refine wpAny_holding ?_
  rw [if_pos hv]
  exact wpAny_bind (wpAny_rule (wpAny_pure h))
theorem samePairs_self {id : String} {a : Addr} {o : Obj} {es : Array DictEntry} {ep : Nat} (ho : s.heap.get? a = some o) (hd : o.data = .dict es ep) (hk : KeysOf knd es) (hs : es.size ≤ 1) (hv : ∀ e ∈ es, (e.val == e.val) = true) (ha : (a == sysModules) = false) {Q : Bool → Shared → Prop} (h : Q true s) :
    wpAny (model prog w) A (Builtin.Dict.samePairs id a a) Q E s := by
  unfold Builtin.Dict.samePairs Builtin.Dict.showsAll
  rw [ha]
  simp only [Bool.false_eq_true, if_false]
  refine wpAny_bind (wpAny_pure ?_)
  refine wpAny_bind (wpAny_pure ?_)
  refine wpAny_bind (wpAny_dictEntries ho hd ?_)
  refine wpAny_bind (wpAny_dictEntries ho hd ?_)
  rw [show (es.size != es.size) = false from by simp]
  simp only [Bool.false_eq_true, if_false]
  try refine wpAny_bind (wpAny_pure ?_)
  refine wpAny_bind (wpAny_dictEpoch ho hd ?_)
  refine wpAny_bind (SeqAt.wpAny_forIn_span 0 es.size _ (fun i c s' => c = (none, ()) ∧ s' = s) _ (fun i c s' _ hi hc => ?_) (fun c s' hc => ?_) _ ⟨rfl, rfl⟩)
  · obtain ⟨rfl, rfl⟩ := hc
    have e0 : i = 0 := by omega
    subst e0
    have hm : es[0] ∈ es := Array.getElem_mem hi
    have hat : es[0]? = some es[0] := Array.getElem?_eq_getElem hi
    obtain ⟨k, hkey, hhash⟩ := hk es[0] hm
    refine wpAny_bind (wpAny_dictEntries ho hd ?_)
    rw [hat]
    refine wpAny_bind (wpAny_holding ?_)
    rw [hhash]
    refine wpAny_bind (wpAny_dictFind_of hkey ho hd hk ?_)
    have hf : (es.findIdx? fun e => knd.is k e.key) = some 0 := by
      obtain ⟨l⟩ := es
      cases l with
      | nil => simp at hi
      | cons x r =>
        rw [Array.findIdx?_eq_some_iff_getElem]
        exact ⟨hi, hkey, fun j hj => absurd hj (by omega)⟩
    rw [hf]
    refine wpAny_bind (wpAny_dictEntries ho hd ?_)
    rw [hat]
    refine wpAny_holding (eqBool_self (hv _ hm) ?_)
    simp only [Bool.not_true, Bool.false_eq_true, if_false]
    refine wpAny_bind (wpAny_dictEpoch ho hd ?_)
    simp only [bne_self_eq_false, Bool.false_eq_true, if_false]
    exact wpAny_pure ⟨rfl, rfl⟩
  · obtain ⟨rfl, rfl⟩ := hc
    exact wpAny_pure h
theorem sub_dict_dict : isSubtype (.type "dict") (.type "dict") = pure true := by rw [isSubtype_type]; kernel_rfl
theorem dictEq_self {a : Addr} {o : Obj} {es : Array DictEntry} {ep : Nat} (ho : s.heap.get? a = some o) (hx : o.ExactDict) (hd : o.data = .dict es ep) (hk : KeysOf knd es) (hs : es.size ≤ 1) (hv : ∀ e ∈ es, (e.val == e.val) = true) (ha : (a == sysModules) = false) {Q : Fin → Shared → Prop} (h : Q (.done (.ret (.bool true))) s) :
    wpAny (model prog w) A (Builtin.«dict.__eq__» ⟨[.ref a, .ref a], []⟩) Q E s := by
  obtain ⟨hp, g, d, tk, os⟩ := s
  have f3 := sub_dict_dict
  have ht : typeOf (.ref a) = typeOf (.ref a) := rfl
  obtain ⟨c, dd, dt, sl⟩ := o
  obtain ⟨h1, h2, h3⟩ := hx
  dsimp only at h1 h2 h3 hd
  subst h1
  wp_walk using (samePairs_self (w := w) (knd := knd) ho hd hk hs hv ha), wpAny_loadPart' ho, wpAny_typeOf_ref ho
  exact h
theorem dictCmp_self {a : Addr} {o : Obj} {es : Array DictEntry} {ep : Nat} (hu : A.units < cLine) (ho : s.heap.get? a = some o) (hx : o.ExactDict) (hd : o.data = .dict es ep) (hk : KeysOf knd es) (hs : es.size ≤ 1) (ha : (a == sysModules) = false) {Q : Value → Shared → Prop} (h : Q (.bool true) s) :
    wpAny (model prog w) A (compareOp .Eq (.ref a) (.ref a)) Q E s := by
  have hT : s.TypeIs (.ref a) "dict" := by
    obtain ⟨c, dd, dt, sl⟩ := o
    obtain ⟨h1, h2, h3⟩ := hx
    dsimp only at h1
    subst h1
    exact ⟨_, ho, rfl⟩
  have hB := dictEq_self (Q := fun fin s' => match fin with | .done f => (wants (fun v s' => v ≠ .notImplemented ∧ Q v s') E) (.ok f) s' | .again c' => c'.quiet = true ∧ codeAny (model prog w) A c' (wants (fun v s' => v ≠ .notImplemented ∧ Q v s') E) s') (A := A.in1) (E := fun e s' => (wants (fun v s' => v ≠ .notImplemented ∧ Q v s') E) (.error e) s') (w := w) (knd := knd) ho hx hd hk hs (fun e _ => by simp) ha ⟨fun z => (nomatch z), h⟩
  show wpAny (model prog w) A (richCompare .Eq (.ref a) (.ref a)) Q E s
  exact wpAny_richCompare_same_room hT hT PySem.F.slot_dict_eq (wpAny_call (codeAny_call_builtin PySem.F.slot_dict_eq.plain PySem.F.entry_dict_eq (PySem.F.slot_dict_eq.check _ _ _ _ _ _ _ _ hT (PySem.F.args_dict_eq_2 _ _) hB))) hu
end
section
variable {Γ : G} {X : Cx}
def rDictSelf : R2 := fun x y H Q => ∃ a kvs, x = .ref a ∧ y = .ref a ∧ H a = some (.dK kvs) ∧ kvs.length ≤ 1 ∧ Q (.bl true) H
theorem or_dictSelf (hu : X.A.units < cLine) : OpR X (compareOp .Eq) rDictSelf := by
  intro pins s σ H x y v u Q I rx ry h
  obtain ⟨a, kvs, ex, ey, hh, hl, q⟩ := h
  subst ex
  subst ey
  obtain rfl : v = Value.ref a := rx
  obtain rfl : u = Value.ref a := ry
  obtain ⟨_, hy, vs, hkv, o, es, ep, ho, hx, hd, hk, hp, _⟩ := (show ObjOk X.prog X.w H s.heap a (.dK kvs) from I.hok a _ hh)
  have hs : es.size ≤ 1 := by
    have h1 := hp.length
    have h2 : vs.length = kvs.length := by first | exact hkv.length.symm | exact hkv.length
    rw [← Array.length_toList]
    omega
  exact dictCmp_self hu ho hx hd hk hs hy ⟨.bl true, H, I, rfl, q⟩
def rEqZ (Γ : G) (cs : List Str) (oe : Str → Option (List D → Store → R D)) : R2 := fun x y H Q => rEqX Γ cs oe x y H Q ∨ rDictSelf x y H Q
theorem or_eqZ {k : Nat} {cs : List Str} {oe : Str → Option (List D → Store → R D)} (hK : X.K = Γ.K) (hr : Room k X.A) (ho : ∀ C m, oe C = some m → EqC Γ X.prog X.w X.mg X.base cs k C m) : OpR X (compareOp .Eq) (rEqZ Γ cs oe) := OpR.or (or_eq hK hr ho) (or_dictSelf hr.units0)
theorem ok_eqZ {cs : List Str} {oe : Str → Option (List D → Store → R D)} (hI : ∀ C ∈ cs, C8.InsC Γ.K (Γ.c C)) : OpOk Γ (rEqZ Γ cs oe) (gEqZ cs oe) := fun W σ f S H x y v u Q rs rx ry h => by
  unfold gEqZ at h
  split at h
  · rename_i n m
    split at h
    · rename_i kvs hn
      split at h
      · rename_i c
        obtain ⟨c1, c2⟩ := c
        subst c1
        obtain ⟨b, hb, us, hh, ek, _⟩ := rs.ob _ _ hn
        have hb2 : v = .ref b := by
          simp only [Rp] at rx
          obtain ⟨a, e1, e2⟩ := rx
          rw [hb] at e1
          cases e1
          exact e2
        have hb3 : u = .ref b := by
          simp only [Rp] at ry
          obtain ⟨a, e1, e2⟩ := ry
          rw [hb] at e1
          cases e1
          exact e2
        refine .inr ⟨b, us, hb2, hb3, hh, ?_, h f H _ .refl rs Rp.ofBl⟩
        have := congrArg List.length ek
        simp only [List.length_map] at this
        omega
      · exact h.elim
    · exact .inl (ok_eq hI W σ f S H _ _ v u Q rs rx ry h)
  · exact .inl (ok_eq hI W σ f S H _ _ v u Q rs rx ry h)
end
end Lk

set_option Elab.async false
set_option linter.all false
set_option autoImplicit false
set_option maxRecDepth 100000
set_option maxHeartbeats 4000000
/-! constants of the module; chains; in, of data; enumerate of a list -/
namespace Lk
open PySem PySem.Spec PyProof.Rows L2
section
variable {Γ : G} {W : WX} {X : Cx} {f : List Addr} {S : Store} {H : Hp} {a b c d e : Expr} {es : List Expr} {p pos : Pos} {ma mb mc md : ME}
theorem q_gint {x : Str} {i : Int} (hm : ∃ t, X.mg x = some (.int i t)) (hg : Gl X x := by rfl) (hd : (x == ("__debug__" : Str)) = false := by decide) : PE X (.Name x pos) (tE Γ W (mC (.int i))) := by
  obtain ⟨t, hm⟩ := hm
  exact PE.imp (pe_glob (v := .int i) hg hm ⟨t, rfl⟩ hd) fun σ H Q ⟨env, S, f, rs, re, h⟩ => h f H _ .refl rs Rp.ofInt
/-! ### chains -/
theorem link_core {r : R2} {g : D → D → Store → R D} (hg : OpOk Γ r g) {σ : L2.St} {env : Env} {x : D} {v : V} {tb : TE} {k : D → ME} {T : V → Hp → Prop} {Q : VK}
    (hb : ∀ {σ : L2.St} {H : Hp} {Q : VK}, tE Γ W mb σ H Q → tb σ H Q) (rs : RelS Γ f S H) (re : RelE Γ f H env σ) (rx : Rp Γ f H x v) (h : Wp Γ W σ f H (Rp Γ) Q (mLink g x mb k env S))
    (hk : ∀ (f1 : List Addr) (S1 : Store) (H1 : Hp) (y : D) (u : V), RelS Γ f1 S1 H1 → RelE Γ f1 H1 env σ → Rp Γ f1 H1 y u → Wp Γ W σ f1 H1 (Rp Γ) Q (k y env S1) → T u H1) :
    tb σ H fun u H1 => r v u H1 fun z H2 => ∃ t, z = .bl t ∧ (if t = true then T u H2 else Q (.bl false) H2) := by
  refine hb ⟨env, S, f, rs, re, Wp.bindL h fun y S1 f1 H1 u u1 rs1 r1 h1 => ?_⟩
  refine hg W σ f1 S1 H1 x y v u _ rs1 (rx.up u1) r1 (Wp.bindL h1 fun z S2 f2 H2 w u2 rs2 r2 h2 => ?_)
  cases z with
  | bl t =>
    refine ⟨t, r2.bl, ?_⟩
    have h2 : Wp Γ W σ f2 H2 (Rp Γ) Q (if t = true then k y env S2 else .ok (.bl false) S2) := h2
    cases t with
    | true => exact hk f2 S2 H2 y u rs2 ((re.up u1).up u2) (r1.up u2) h2
    | false => exact h2 f2 H2 _ .refl rs2 Rp.ofBl
  | _ => exact h2.elim
theorem q_chain {op op' : CmpOp} {r r' : R2} {g g' : D → D → Store → R D} (ho : OpR X (compareOp op) r) (hg : OpOk Γ r g) (ho' : OpR X (compareOp op') r') (hg' : OpOk Γ r' g') (ha : PE X a (tE Γ W ma)) (hb : PE X b (tE Γ W mb)) (hc : PE X c (tE Γ W mc))
    (hm : lastMarks [op, op'] [b, c] = false := by with_unfolding_all rfl) : PE X (.Compare a [op, op'] [b, c] pos) (tE Γ W (mCh2 g g' ma mb mc)) := PE.imp (pe_chain ho ho' ha hb hc hm) fun σ H Q ⟨env, S, f, rs, re, h⟩ => by
  refine ⟨env, S, f, rs, re, Wp.bindL h fun x S1 f1 H1 v u1 rs1 r1 h1 => ?_⟩
  refine link_core (tb := tE Γ W mb) hg (fun z => z) rs1 (re.up u1) r1 h1 fun f2 S2 H2 y u rs2 re2 r2 h2 => ?_
  exact ⟨env, S2, f2, rs2, re2, Wp.bindL h2 fun z S3 f3 H3 w u3 rs3 r3 h3 => hg' W σ f3 S3 H3 y z u w Q rs3 (r2.up u3) r3 h3⟩
/-- a op1 b op2 c op3 d -/
def tChain3 (r r' r'' : R2) (ta tb tc td : TE) : TE := fun σ H Q => ta σ H fun x H1 => tb σ H1 fun y H2 => r x y H2 fun z H3 => ∃ k, z = .bl k ∧
  (if k = true then tc σ H3 fun y' H4 => r' y y' H4 fun z' H5 => ∃ k', z' = .bl k' ∧ (if k' = true then td σ H5 fun w' H6 => r'' y' w' H6 Q else Q (.bl false) H5) else Q (.bl false) H3)
theorem pe_chain3 {op op' op'' : CmpOp} {r r' r'' : R2} {ta tb tc td : TE} (ho : OpR X (compareOp op) r) (ho' : OpR X (compareOp op') r') (ho'' : OpR X (compareOp op'') r'') (ha : PE X a ta) (hb : PE X b tb) (hc : PE X c tc) (hd : PE X d td)
    (hm : lastMarks [op, op', op''] [b, c, d] = false := by with_unfolding_all rfl) : PE X (.Compare a [op, op', op''] [b, c, d] pos) (tChain3 r r' r'' ta tb tc td) := by
  refine ⟨fun pins s σ H Q I h => ?_⟩
  refine Compare_chain (thn (ha.run pins s σ H _ I h) fun v s1 ⟨x, H1, I1, r1, q1⟩ => chain_link (thn (hb.run pins s1 σ H1 _ I1 q1) fun u s2 ⟨y, H2, I2, r2, q2⟩ =>
    thn (ho pins s2 σ H2 x y v u _ I2 r1 r2 q2) fun d s3 ⟨z, H3, I3, r3, k, e, q3⟩ => ?_)) hm
  subst e
  cases r3
  refine wpAny_truthy_bool ?_
  cases k with
  | false => exact ite_ff ⟨.bl false, H3, I3, rfl, q3⟩
  | true =>
    refine ite_tt (chain_link (thn (hc.run pins s3 σ H3 _ I3 q3) fun u' s4 ⟨y', H4, I4, r4, q4⟩ => thn (ho' pins s4 σ H4 y y' u u' _ I4 r2 r4 q4) fun d s5 ⟨z', H5, I5, r5, k', e', q5⟩ => ?_))
    subst e'
    cases r5
    refine wpAny_truthy_bool ?_
    cases k' with
    | false => exact ite_ff ⟨.bl false, H5, I5, rfl, q5⟩
    | true => exact ite_tt (chain_last (thn (hd.run pins s5 σ H5 _ I5 q5) fun w' s6 ⟨z', H6, I6, r6, q6⟩ => ho'' pins s6 σ H6 y' z' u' w' Q I6 r4 r6 q6))
theorem q_chain3 {op op' op'' : CmpOp} {r r' r'' : R2} {g g' g'' : D → D → Store → R D} (ho : OpR X (compareOp op) r) (hg : OpOk Γ r g) (ho' : OpR X (compareOp op') r') (hg' : OpOk Γ r' g') (ho'' : OpR X (compareOp op'') r'') (hg'' : OpOk Γ r'' g'')
    (ha : PE X a (tE Γ W ma)) (hb : PE X b (tE Γ W mb)) (hc : PE X c (tE Γ W mc)) (hd : PE X d (tE Γ W md))
    (hm : lastMarks [op, op', op''] [b, c, d] = false := by with_unfolding_all rfl) : PE X (.Compare a [op, op', op''] [b, c, d] pos) (tE Γ W (mCh3 g g' g'' ma mb mc md)) := PE.imp (pe_chain3 ho ho' ho'' ha hb hc hd hm) fun σ H Q ⟨env, S, f, rs, re, h⟩ => by
  refine ⟨env, S, f, rs, re, Wp.bindL h fun x S1 f1 H1 v u1 rs1 r1 h1 => ?_⟩
  refine link_core (tb := tE Γ W mb) hg (fun z => z) rs1 (re.up u1) r1 h1 fun f2 S2 H2 y u rs2 re2 r2 h2 => ?_
  refine link_core (tb := tE Γ W mc) hg' (fun z => z) rs2 re2 r2 h2 fun f3 S3 H3 y' u' rs3 re3 r3 h3 => ?_
  exact ⟨env, S3, f3, rs3, re3, Wp.bindL h3 fun z S4 f4 H4 w u4 rs4 r4 h4 => hg'' W σ f4 S4 H4 y' z u' w Q rs4 (r3.up u4) r4 h4⟩
theorem PT.ofTest {t : TE} {whole : Expr} {m : ME} (h : PT X whole (tTest t)) (hi : ∀ σ H Q, tE Γ W m σ H Q → t σ H Q) : PT X whole (tT Γ W (mTest m)) := PT.imp h fun σ H Q ⟨env, S, f, rs, re, h⟩ =>
  hi _ _ _ ⟨env, S, f, rs, re, Wp.bindL h fun x S1 f1 H1 v u1 rs1 r1 h1 => asBL rs1 r1 h1⟩
theorem chain_imp {r r' : R2} {g g' : D → D → Store → R D} (hg : OpOk Γ r g) (hg' : OpOk Γ r' g') : ∀ σ H Q, tE Γ W (mCh2 g g' ma mb mc) σ H Q → tChain r r' (tE Γ W ma) (tE Γ W mb) (tE Γ W mc) σ H Q := fun σ H Q ⟨env, S, f, rs, re, h⟩ => by
  refine ⟨env, S, f, rs, re, Wp.bindL h fun x S1 f1 H1 v u1 rs1 r1 h1 => ?_⟩
  refine link_core (tb := tE Γ W mb) hg (fun z => z) rs1 (re.up u1) r1 h1 fun f2 S2 H2 y u rs2 re2 r2 h2 => ?_
  exact ⟨env, S2, f2, rs2, re2, Wp.bindL h2 fun z S3 f3 H3 w u3 rs3 r3 h3 => hg' W σ f3 S3 H3 y z u w Q rs3 (r2.up u3) r3 h3⟩
theorem qt_chain {op op' : CmpOp} {r r' : R2} {g g' : D → D → Store → R D} (ho : OpR X (compareOp op) r) (hg : OpOk Γ r g) (ho' : OpR X (compareOp op') r') (hg' : OpOk Γ r' g') (ha : PE X a (tE Γ W ma)) (hb : PE X b (tE Γ W mb)) (hc : PE X c (tE Γ W mc))
    (hm : lastMarks [op, op'] [b, c] = false := by with_unfolding_all rfl) : PT X (.Compare a [op, op'] [b, c] pos) (tT Γ W (mTest (mCh2 g g' ma mb mc))) := PT.ofTest (pt_chain ho ho' ha hb hc hm) (chain_imp hg hg')
/-! ### in, of data in a list -/
def gInD (neg : Bool) (x y : D) (S : Store) : R D := match pyD S 12 x, pyD S 12 y with
  | some d, some (.list ds) => if SeqAt.shaped d = true ∧ SeqAt.shaped (.list ds) = true then .ok (.bl (if neg then !ds.any fun z => PyData.eqv z d else ds.any fun z => PyData.eqv z d)) S else .bad
  | _, _ => .bad
def rInN (K : PySem.W.Frag) (neg : Bool) : R2 := if neg then rNotInD K else rInD K
theorem ok_inD {neg : Bool} : OpOk Γ (rInN Γ.K neg) (gInD neg) := fun W σ f S H x y v u Q rs rx ry h => by
  unfold gInD at h
  split at h
  · rename_i d ds hd hds
    split at h
    · rename_i c
      have h1 := pyD_ok rs _ _ _ _ hd rx
      have h2 := pyD_ok rs _ _ _ _ hds ry
      cases neg with
      | true => exact ⟨d, ds, h1, h2, c.1, c.2, h f H _ .refl rs Rp.ofBl⟩
      | false => exact ⟨d, ds, h1, h2, c.1, c.2, h f H _ .refl rs Rp.ofBl⟩
    · exact h.elim
  · exact h.elim
def rInT (K : PySem.W.Frag) (neg : Bool) : R2 := fun x y H Q => ∃ d ds, Dp K H x d ∧ Dp K H y (.tuple ds) ∧ SeqAt.shaped d = true ∧ SeqAt.shaped (.tuple ds) = true ∧ Q (.bl (if neg then !ds.any fun z => PyData.eqv z d else ds.any fun z => PyData.eqv z d)) H
theorem op_inT (hu : X.A.units + 65 < cLine) : OpR X (compareOp .In) (rInT X.K false) := fun pins s σ H x y v u Q I rx ry ⟨d, ds, hd, he, sd, se, q⟩ => by
  obtain ⟨a1, r1⟩ := Dp.reads I d x v hd rx
  obtain ⟨a2, r2⟩ := Dp.reads I (.tuple ds) y u he ry
  exact SeqAt.in_tuple_reads r2 r1 (SeqAt.canLay_of_shaped se) (SeqAt.canLay_of_shaped sd) (room_in_shaped sd hu) ⟨.bl _, H, I, rfl, q⟩
theorem op_notInT (hu : X.A.units + 65 < cLine) : OpR X (compareOp .NotIn) (rInT X.K true) := fun pins s σ H x y v u Q I rx ry ⟨d, ds, hd, he, sd, se, q⟩ => by
  obtain ⟨a1, r1⟩ := Dp.reads I d x v hd rx
  obtain ⟨a2, r2⟩ := Dp.reads I (.tuple ds) y u he ry
  exact SeqAt.notIn_tuple_reads r2 r1 (SeqAt.canLay_of_shaped se) (SeqAt.canLay_of_shaped sd) (room_in_shaped sd hu) ⟨.bl _, H, I, rfl, q⟩
def gInT (neg : Bool) (x y : D) (S : Store) : R D := match pyD S 12 x, pyD S 12 y with
  | some d, some (.tuple ds) => if SeqAt.shaped d = true ∧ SeqAt.shaped (.tuple ds) = true then .ok (.bl (if neg then !ds.any fun z => PyData.eqv z d else ds.any fun z => PyData.eqv z d)) S else .bad
  | _, _ => .bad
theorem ok_inT {neg : Bool} : OpOk Γ (rInT Γ.K neg) (gInT neg) := fun W σ f S H x y v u Q rs rx ry h => by
  unfold gInT at h
  split at h
  · rename_i d ds hd hds
    split at h
    · rename_i c
      exact ⟨d, ds, pyD_ok rs _ _ _ _ hd rx, pyD_ok rs _ _ _ _ hds ry, c.1, c.2, h f H _ .refl rs Rp.ofBl⟩
    · exact h.elim
  · exact h.elim
def gInZ (neg : Bool) (x y : D) (S : Store) : R D := match gIn neg x y S with
  | .bad => (match gInD neg x y S with
    | .bad => gInT neg x y S
    | r => r)
  | r => r
def rInZ (K : PySem.W.Frag) (neg : Bool) : R2 := fun x y H Q => rIn K neg x y H Q ∨ (rInN K neg x y H Q ∨ rInT K neg x y H Q)
theorem ok_inZ {neg : Bool} : OpOk Γ (rInZ Γ.K neg) (gInZ neg) := fun W σ f S H x y v u Q rs rx ry h => by
  unfold gInZ at h
  split at h
  · split at h
    · exact .inr (.inr (ok_inT W σ f S H x y v u Q rs rx ry h))
    · exact .inr (.inl (ok_inD W σ f S H x y v u Q rs rx ry h))
  · exact .inl (ok_in W σ f S H x y v u Q rs rx ry h)
theorem or_inZ {k : Nat} (hK : X.K = Γ.K) (hr : Room k X.A) : OpR X (compareOp .In) (rInZ Γ.K false) := by
  rw [← hK]
  exact OpR.or op_in_seq (OpR.or (op_inD (by have := hr.un; omega)) (op_inT (by have := hr.un; omega)))
theorem or_notInZ {k : Nat} (hK : X.K = Γ.K) (hr : Room k X.A) : OpR X (compareOp .NotIn) (rInZ Γ.K true) := by
  rw [← hK]
  exact OpR.or op_notIn_seq (OpR.or (op_notInD (by have := hr.un; omega)) (op_notInT (by have := hr.un; omega)))
/-! ### enumerate of a list -/
theorem enumD_get {xs : List D} {i : Nat} {d : D} (h : (enumD xs)[i]? = some d) : ∃ x, xs[i]? = some x ∧ d = .tup [.int (i : Nat), x] := by
  unfold enumD at h
  rw [List.getElem?_map, List.getElem?_zipIdx] at h
  cases q : xs[i]? with
  | none => rw [q] at h; cases h
  | some x =>
    rw [q] at h
    refine ⟨x, rfl, ?_⟩
    have h : D.tup [.int ((0 + i : Nat) : Int), x] = d := by simpa using h
    rw [← h]
    simp
theorem enumD_len (xs : List D) : (enumD xs).length = xs.length := by simp [enumD]
def iEnu (m : ME) : MI := fun env S => (m env S).bind srcE
theorem pair_rp {i : Nat} {x : D} {v : V} {T : Addr} (hT : H T = none) (r : Rp Γ f H x v) : Rp Γ f (upd H T (.tup [.int (i : Nat), v])) (.tup [.int (i : Nat), x]) (.ref T) := by
  refine Rp.tupI (SqT.of upd_same) ?_
  simp only [RpL]
  exact ⟨_, _, rfl, Rp.ofInt, _, _, rfl, r.up (.new hT), rfl⟩
theorem sv_enuR {a : Addr} {vs : List V} {ds : List D} (h : SqR Γ.K H a vs) (r : RpL Γ f H ds vs) : Sv Γ f H ⟨enumD ds, fun _ => True⟩ (Ite Γ.K a) where
  go := fun f1 S H1 i d rs ok e => by
    obtain ⟨x, hx, ed⟩ := enumD_get e
    subst ed
    obtain ⟨v, h1, h2⟩ := RpL.get (r.up ok.2) hx
    have q := (ok.2.keep.sqR h).1
    refine ⟨⟨vs, v, q, h1⟩, fun y H' hy => ?_⟩
    obtain ⟨T, z, ev, hT, eH, hz⟩ := hy
    subst ev
    subst eH
    have e2 := hz vs q
    rw [h1] at e2
    cases e2
    exact ⟨.new hT, rs.newT hT, pair_rp hT h2⟩
  stop := fun f1 S H1 rs ok => ⟨vs, (ok.2.keep.sqR h).1, by rw [← r.length]; exact Nat.le_of_eq (enumD_len ds).symm⟩
theorem sv_enuL {a : Addr} {n : Nat} {ds : List D} (ha : f[n]? = some a) : Sv Γ f H ⟨enumD ds, fun S => S[n]? = some (.lst ds)⟩ (Ite Γ.K a) where
  go := fun f1 S H1 i d rs ok e => by
    obtain ⟨b, hb, vs, h0, r⟩ := rs.ob n _ ok.1
    rw [ok.2.at ha] at hb
    cases hb
    obtain ⟨x, hx, ed⟩ := enumD_get e
    subst ed
    obtain ⟨v, h1, h2⟩ := RpL.get r hx
    refine ⟨⟨vs, v, SqL.of h0, h1⟩, fun y H' hy => ?_⟩
    obtain ⟨T, z, ev, hT, eH, hz⟩ := hy
    subst ev
    subst eH
    have e2 := hz vs (SqL.of h0)
    rw [h1] at e2
    cases e2
    exact ⟨.new hT, rs.newT hT, pair_rp hT h2⟩
  stop := fun f1 S H1 rs ok => by
    obtain ⟨b, hb, vs, h0, r⟩ := rs.ob n _ ok.1
    rw [ok.2.at ha] at hb
    cases hb
    exact ⟨vs, SqL.of h0, by rw [← r.length]; exact Nat.le_of_eq (enumD_len ds).symm⟩
theorem qi_enu {elts : List Expr} {kk : Nat} {tpos : Pos} {m : ME} (hK : X.K = Γ.K) (hm : X.mg "enumerate" = none) (h : PE X e (tE Γ W m)) (hg : Gl X "enumerate" := by rfl) (hs : starEach [e] X.env = (false, eval e X.env) :: starEach [] X.env := by rfl) :
    PI X (.Tuple elts kk tpos) (.Call (.Name "enumerate" p) [e] [] pos) (tI Γ W (iEnu m)) := PI.imp (pi_enum hg hm (pa_cons h pa_nil hs) hs) fun σ H R ⟨env, S, f, rs, re, h⟩ => by
  show tE Γ W m σ H _
  refine ⟨env, S, f, rs, re, Wp.bindL h fun d S1 f1 H1 v u1 rs1 r1 h1 => ?_⟩
  cases d with
  | rol ds =>
    simp only [Rp] at r1
    obtain ⟨a, vs, ev, hs, r⟩ := r1
    subst ev
    refine ⟨a, vs, rfl, by rw [hK]; exact hs.1, ?_⟩
    rw [hK]
    exact h1 f1 H1 _ .refl rs1 (sv_enuR hs r)
  | ref n =>
    simp only [Rp] at r1
    obtain ⟨a, ha, ev⟩ := r1
    subst ev
    have h1 : Wp Γ W σ f1 H1 (Sv Γ) R (match S1[n]? with
      | some (.lst xs) => .ok ⟨enumD xs, fun S => S[n]? = some (.lst xs)⟩ S1
      | _ => .bad) := h1
    split at h1
    · rename_i xs hn
      obtain ⟨b, hb, vs, hh, r⟩ := rs1.ob n _ hn
      rw [ha] at hb
      cases hb
      refine ⟨a, vs, rfl, by rw [hK]; exact SqL.of hh, ?_⟩
      rw [hK]
      exact h1 f1 H1 _ .refl rs1 (sv_enuL ha)
    · exact h1.elim
  | _ => exact h1.elim
end
end Lk

set_option Elab.async false
set_option linter.all false
set_option autoImplicit false
set_option maxRecDepth 100000
set_option maxHeartbeats 4000000
/-! enumerate of a tuple -/
namespace Lk
open PySem PySem.Spec PyProof.Rows L2
/-- enumerate(v), its class called on v alone -/
theorem new_enum {v : Value} {o : Obj} {Fo : Heap → Prop} (B : Begins v o Fo) : Meets (Builtin.«enumerate.__new__» ⟨[.type "enumerate", v], []⟩) (fun _ R s => Fo s.heap ∧
    R (.ok (.ret (.ref (s.heap.push o).objs.size))) { s with heap := (s.heap.push o).push { cls := .type "enumerate", data := .fields #[.none, .bool false, .ref s.heap.objs.size, rawInt 0, .none, .none] } }) := .of_wp fun prog w A R st hyp => by
  obtain ⟨hp, gs, dr, tk, os⟩ := st
  obtain ⟨f1, out⟩ := hyp
  have sb := sub_enumerate
  have itr : ∀ {A' : Around} {E : Value → Shared → Prop} {Q : Value → Shared → Prop}, Q (.ref hp.objs.size) ⟨hp.push o, gs, dr, tk, os⟩ → wpAny (model prog w) A' (pyIter v) Q E ⟨hp, gs, dr, tk, os⟩ := fun z => B.iter prog w _ _ ⟨hp, gs, dr, tk, os⟩ _ f1 z
  wp_walk using itr
  refine wpAny_stack_any fun stk => wpAny_pure ?_
  split
  · rename_i cv _ _ _ _ _
    cases (cv == Value.type "enumerate") <;> (wp_walk using itr; exact ⟨_, rfl, out⟩)
  · wp_walk using itr
    exact ⟨_, rfl, out⟩
section
variable {prog : Program} {w : World} {A : Around} {E : Value → Shared → Prop} {s : Shared}
theorem call_enum {v : Value} {o : Obj} {Fo : Heap → Prop} {Q : Value → Shared → Prop} (B : Begins v o Fo) (f1 : Fo s.heap)
    (k : ∀ h', IsEnum h' (s.heap.objs.size + 1) s.heap.objs.size 0 .none → h'.get? s.heap.objs.size = some o → (∀ b ob, s.heap.get? b = some ob → h'.get? b = some ob) → Q (.ref (s.heap.objs.size + 1)) { s with heap := h' }) :
    wpAny (model prog w) A (call (.type "enumerate") [v]) Q E s := by
  refine callType_new F.called_enumerate (by decide) (F.typeCall_enumerate_1 _) (F.newCall_enumerate_1 _) (fun ob => F.args_object_init_2 ob _) F.entry_enumerate_new (new_enum B) ⟨f1, ?_⟩
  have z1 : (s.heap.push o).objs.size = s.heap.objs.size + 1 := Heap.size_push ..
  show _ ∧ _
  rw [z1]
  have en : IsEnum ((s.heap.push o).push { cls := .type "enumerate", data := .fields #[.none, .bool false, .ref s.heap.objs.size, rawInt 0, .none, .none] }) (s.heap.objs.size + 1) s.heap.objs.size 0 .none := by
    have z2 := Heap.get?_push_size (s.heap.push o) (o := { cls := .type "enumerate", data := .fields #[.none, .bool false, .ref s.heap.objs.size, rawInt 0, .none, .none] }) rfl
    rw [z1] at z2
    exact z2
  exact ⟨⟨_, en, rfl⟩, k _ en (Heap.get?_push_of_some _ (Heap.get?_push_size _ B.free)) fun b ob x => Heap.get?_push_of_some _ (Heap.get?_push_of_some _ x)⟩
end
/-- the tuple at a, each item in a new pair -/
def ItE (K : PySem.W.Frag) (a : Addr) : It :=
  ⟨fun i H => ∃ (xs : List V) (x : V), SqT K H a xs ∧ xs[i]? = some x, fun i H v H' => ∃ T x, v = .ref T ∧ H T = none ∧ H' = upd H T (.tup [.int (i : Nat), x]) ∧ ∀ xs, SqT K H a xs → xs[i]? = some x, fun i H => ∃ xs : List V, SqT K H a xs ∧ xs.length = i⟩
theorem apart {h : Heap} {e it a : Addr} {its : Array Value} {k : Int} {old : Value} {i : Nat} (he : IsEnum h e it k old) (hi : h.IsTupleIter it a i) (ht : h.IsTuple a its) : a ≠ it ∧ e ∉ [it, a] := by
  obtain ⟨o1, g1, c1, _⟩ := hi
  obtain ⟨o2, g2, c2, _⟩ := ht
  refine ⟨fun z => ?_, fun z => ?_⟩
  · subst z
    rw [g1] at g2
    cases g2
    rw [c1] at c2
    exact absurd c2 (by decide)
  · have z : e = it ∨ e = a := by simpa using z
    rcases z with z | z
    · subst z
      rw [he] at g1
      cases g1
      exact absurd (Value.type.inj c1) (by decide)
    · subst z
      rw [he] at g2
      cases g2
      exact absurd (Value.type.inj c2) (by decide)
theorem turn_enumT {P : Program} {w : World} {K : PySem.W.Frag} {elts : List Expr} {kk : Nat} {tpos : Pos} (a e it : Addr) :
    Turn P w K (.Tuple elts kk tpos) (ItE K a) [e, it] e (fun i h => (∃ old, IsEnum h e it ((i : Nat) : Int) old) ∧ h.IsTupleIter it a i ∧ e ≠ it) where
  mem := List.mem_cons_self
  obj := fun i h st b hb => by
    obtain ⟨⟨old, e1⟩, ⟨o, g1, _, d1⟩, _⟩ := st
    have cs : b = e ∨ b = it := by simpa using hb
    rcases cs with z | z
    · subst z; exact ⟨_, e1, fun v q => nomatch q⟩
    · subst z; exact ⟨o, g1, fun v q => by rw [d1] at q; cases q⟩
  keep := fun i h h' st k => by
    obtain ⟨⟨old, e1⟩, ⟨o, g1, r1⟩, n1⟩ := st
    exact ⟨⟨old, k e (by simp) _ e1⟩, ⟨o, k it (by simp) _ g1, r1⟩, n1⟩
  item := by
    intro X hP hw hK hc i pins s σ H E I hf st hg
    subst hP hw hK
    obtain ⟨⟨old, e1⟩, hit, n1⟩ := st
    obtain ⟨xs, x, hq, hx⟩ := hg
    obtain ⟨its, rv, p, _⟩ := I.tuple hq
    obtain ⟨u, hu, ru⟩ := rv.get hx
    have p : s.heap.IsTuple a its.toArray := p
    obtain ⟨nt, ne⟩ := apart e1 hit p
    have len1 : i < its.toArray.size := by
      rcases Nat.lt_or_ge i its.length with z | z
      · simpa using z
      · rw [List.getElem?_eq_none z] at hu; cases hu
    refine wpAny_pyNext_enum_itemD (Draws.tuple (A := X.A.in1) (I.ok.hd hc) it a nt its.toArray) e1 ⟨hit, p⟩ len1 n1 ne fun y h1 tk hy eo st1 hT _ kp => ?_
    have ey : u = y := by
      have z : its[i]? = some y := by simpa using hy
      rw [hu] at z
      exact Option.some.inj z
    subst ey
    refine ⟨_, rfl, wpAny_letOwnedTupleGo_enum (s := { s with heap := h1, toks := tk + 1 }) eo fun h2 e2 sb => ?_⟩
    have le1 : e < s.heap.objs.size := Heap.lt_size e1
    have li1 : it < s.heap.objs.size := by obtain ⟨_, z, _⟩ := hit; exact Heap.lt_size z
    have hT2 : h2.get? s.heap.objs.size = some { cls := .type "tuple", data := .seq #[.int i tk, u] } := (sb.2 _ (Nat.ne_of_gt le1)).trans hT
    have new : ObjOk X.prog X.w (upd H s.heap.objs.size (.tup [.int (i : Nat), x])) h2 s.heap.objs.size (.tup [.int (i : Nat), x]) :=
      ⟨(by decide : 2 ≤ sizeLine), [.int i tk, u], .cons ⟨_, rfl⟩ (.cons ru .nil), ⟨_, hT2, rfl, _, rfl⟩⟩
    have old1 : ∀ (b : Addr) (ob : Obj), b ∉ [e, it] → s.heap.get? b = some ob → h2.get? b = some ob := fun b ob nb z => (sb.2 b fun q => nb (by simp [q])).trans (kp b ob (fun q => nb (by simp [q])) (fun q => nb (by simp [q])) z)
    have I1 : Inv X pins σ (upd H s.heap.objs.size (.tup [.int (i : Nat), x])) { s with heap := h2, toks := tk + 1 } := I.turnedNew (ch := [e, it]) old1 hf (Nat.le_refl _) new
    have it2 : h2.IsTupleIter it a (i + 1) := by
      obtain ⟨o, z, r⟩ := st1.1
      exact ⟨o, (sb.2 it (Ne.symm n1)).trans z, r⟩
    have ei : ((i + 1 : Nat) : Int) = (i : Int) + 1 := by omega
    refine ⟨.ref s.heap.objs.size, _, I1, rfl, ⟨_, x, rfl, I.hok.fresh (Nat.le_refl _), rfl, fun ys hy => by rw [I.tuple_inj hy hq]; exact hx⟩, ⟨⟨u, by rw [ei]; exact e2⟩, it2, n1⟩, fun b hb => ?_⟩
    have lt : b < s.heap.objs.size := by
      have cs : b = e ∨ b = it := by simpa using hb
      rcases cs with z | z <;> (subst z; assumption)
    rw [upd_ne (Nat.ne_of_lt lt)]
    exact (hf b hb).1
  done := by
    intro X hP hw hK hc i pins s σ H E I hf st hg
    subst hP hw hK
    obtain ⟨⟨old, e1⟩, hit, n1⟩ := st
    obtain ⟨xs, hq, hx⟩ := hg
    obtain ⟨its, rv, p, _⟩ := I.tuple hq
    have p : s.heap.IsTuple a its.toArray := p
    obtain ⟨nt, ne⟩ := apart e1 hit p
    have lv := rv.length
    have ei : i = its.toArray.size := by simp; omega
    subst ei
    obtain ⟨f0, f1, f2, f3, f4, f5⟩ := hf it (by simp)
    exact wpAny_pyNext_enum_endD (Draws.tuple (A := X.A.in1) (I.ok.hd hc) it a nt its.toArray) e1 ⟨hit, p⟩ fun h1 eb => ⟨rfl, I.turned (t' := s.toks) (fun b ob hb z => eb b ob hb z) f0 f1 f3 f4 f5⟩
  self := fun A i s Q E st h => by
    obtain ⟨⟨_, e1⟩, _⟩ := st
    exact wpAny_pyIter_enum e1 h
end Lk

set_option Elab.async false
set_option linter.all false
set_option autoImplicit false
set_option maxRecDepth 100000
set_option maxHeartbeats 4000000
namespace Lk
open PySem PySem.Spec PyProof.Rows L2
section
variable {Γ : G} {W : WX} {X : Cx} {f : List Addr} {S : Store} {H : Hp} {e : Expr} {p pos : Pos}
theorem takes0 : Takes X Wno := fun u s' ⟨_, _, _, _, _, _, _, _, _, _, _, _, _, _, _, _, z⟩ => z.elim
/-! ### tables of classes -/
def tabX (l : List (Str × CK × Bool)) : Str → CK → Option Bool := fun C T => (l.find? fun q => decide (q.1 = C ∧ q.2.1 = T)).map (·.2.2)
theorem tabX_ok {P : Str → CK → Bool → Prop} {l : List (Str × CK × Bool)} (h : ∀ q ∈ l, P q.1 q.2.1 q.2.2) {C : Str} {T : CK} {b : Bool} (e : tabX l C T = some b) : P C T b := by
  unfold tabX at e
  obtain ⟨q, hq, eb⟩ := Option.map_eq_some_iff.mp e
  have m := List.mem_of_find?_eq_some hq
  have c := List.find?_some hq
  obtain ⟨c1, c2⟩ := of_decide_eq_true c
  have := h q m
  rw [c1, c2, eb] at this
  exact this
def tabS (l : List (Str × Str × Bool)) (h : Str) : Str → Option Bool := fun C => (l.find? fun q => decide (q.1 = C ∧ q.2.1 = h)).map (·.2.2)
theorem tabS_ok {P : Str → Str → Bool → Prop} {l : List (Str × Str × Bool)} (h : ∀ q ∈ l, P q.1 q.2.1 q.2.2) {C n : Str} {b : Bool} (e : tabS l n C = some b) : P C n b := by
  unfold tabS at e
  obtain ⟨q, hq, eb⟩ := Option.map_eq_some_iff.mp e
  have m := List.mem_of_find?_eq_some hq
  have c := List.find?_some hq
  obtain ⟨c1, c2⟩ := of_decide_eq_true c
  have := h q m
  rw [c1, c2, eb] at this
  exact this
theorem kitB_ok {Γ : G} {C : Str} {T : CK} {b : Bool} (h : kitB Γ C T b = true) : PySem.W.kitOne Γ.K (.ref (Γ.c C)) (T.u Γ) = some b := of_decide_eq_true h
/-! ### == of data alone -/
def gEqD (x y : D) (S : Store) : R D := match eqData S x y with
  | some b => .ok (.bl b) S
  | none => .bad
theorem ok_eqD : OpOk Γ (rEqD Γ.K) gEqD := fun W σ f S H x y v u Q rs rx ry h => by
  unfold gEqD at h
  split at h
  · rename_i b hb
    obtain ⟨d, e, h1, h2, h3, h4, h5⟩ := eqData_ok rs rx ry hb
    refine ⟨d, e, h1, h2, h3, h4, ?_⟩
    rw [h5]
    exact h f H _ .refl rs Rp.ofBl
  · exact h.elim
/-! ### enumerate of a list or a tuple -/
def iEnT (K : PySem.W.Frag) (ta : TA) : TI := fun σ H Q => ta σ H fun vs H1 => ∃ a xs, vs = [.ref a] ∧ SqT K H1 a xs ∧ Q (ItE K a) H1
theorem pi_enumT {ta : TA} {tpos : Pos} {elts : List Expr} {kk : Nat} (hg : Gl X "enumerate") (hm : X.mg "enumerate" = none) (ha : PA X [e] ta) (hs : starEach [e] X.env = [(false, eval e X.env)] := by rfl) :
    PI X (.Tuple elts kk tpos) (.Call (.Name "enumerate" p) [e] [] pos) (iEnT X.K ta) := by
  refine ⟨fun pins s σ H Q I h => Call_ (ld_blt I hg hm boot_enumerate (PyProof.Rows.callWith_type1 (thn (ha.run pos pins s σ H _ I h) fun us s1 ⟨vs, H1, I1, r1, q1⟩ => ?_) hs rfl))⟩
  obtain ⟨a, xs, ex, hq, q⟩ := q1
  subst ex
  cases r1 with
  | cons r rr =>
    cases rr
    cases r
    obtain ⟨its, rv, tp, _⟩ := I1.tuple hq
    refine call_enum (begins_tuple a its.toArray) tp fun h' en hit old => wpAny_pyIter_enum en ?_
    have I2 : Inv X pins σ H1 { s1 with heap := h' } := I1.kept (t' := s1.toks) old
    have free : ∀ b ∈ [s1.heap.objs.size + 1, s1.heap.objs.size], FpOk X pins H1 b := fun b hb => by
      have le : s1.heap.objs.size ≤ b := by
        have : b = s1.heap.objs.size + 1 ∨ b = s1.heap.objs.size := by simpa using hb
        omega
      exact I1.fpOk le (I1.hok.fresh le)
    exact ⟨s1.heap.objs.size + 1, _, _, _, H1, rfl, I2, turn_enumT a (s1.heap.objs.size + 1) s1.heap.objs.size, ⟨⟨.none, en⟩, ⟨_, hit, rfl, rfl⟩, Nat.succ_ne_self _⟩, free, q⟩
theorem sv_enuT {a : Addr} {vs : List V} {ds : List D} (h : SqT Γ.K H a vs) (r : RpL Γ f H ds vs) : Sv Γ f H ⟨enumD ds, fun _ => True⟩ (ItE Γ.K a) where
  go := fun f1 S H1 i d rs ok e => by
    obtain ⟨x, hx, ed⟩ := enumD_get e
    subst ed
    obtain ⟨v, h1, h2⟩ := RpL.get (r.up ok.2) hx
    have q := ok.2.keep.sqT h
    refine ⟨⟨vs, v, q, h1⟩, fun y H' hy => ?_⟩
    obtain ⟨T, z, ev, hT, eH, hz⟩ := hy
    subst ev
    subst eH
    have e2 := hz vs q
    rw [h1] at e2
    cases e2
    exact ⟨.new hT, rs.newT hT, pair_rp hT h2⟩
  stop := fun f1 S H1 rs ok => ⟨vs, ok.2.keep.sqT h, by rw [← r.length]; exact (enumD_len ds).symm⟩
theorem qi_enuZ {elts : List Expr} {kk : Nat} {tpos : Pos} {m : ME} (hK : X.K = Γ.K) (hm : X.mg "enumerate" = none) (h : PE X e (tE Γ W m)) (hg : Gl X "enumerate" := by rfl) (hs : starEach [e] X.env = (false, eval e X.env) :: starEach [] X.env := by rfl) :
    PI X (.Tuple elts kk tpos) (.Call (.Name "enumerate" p) [e] [] pos) (tI Γ W (iEnuZ m)) := PI.imp (PI.or (qi_enu hK hm h hg hs) (pi_enumT hg hm (pa_cons h pa_nil hs) hs)) fun σ H Q ⟨env, S, f, rs, re, h⟩ => by
  unfold iEnuZ at h
  cases q : m env S with
  | bad => rw [q] at h; exact h.elim
  | ex C ds S1 =>
    rw [q] at h
    refine .inl ⟨env, S, f, rs, re, ?_⟩
    unfold iEnu
    rw [q]
    exact h
  | ok d S1 =>
    rw [q] at h
    cases d with
    | tup ds =>
      refine .inr ?_
      show tE Γ W m σ H _
      refine ⟨env, S, f, rs, re, ?_⟩
      rw [q]
      intro f1 H1 v u1 rs1 r1
      simp only [Rp] at r1
      obtain ⟨a, vs, ev, sq, r⟩ := r1
      subst ev
      refine ⟨a, vs, rfl, by rw [hK]; exact sq, ?_⟩
      rw [hK]
      exact h f1 H1 _ u1 rs1 (sv_enuT sq r)
    | _ =>
      refine .inl ⟨env, S, f, rs, re, ?_⟩
      unfold iEnu
      rw [q]
      exact h
end
end Lk

set_option Elab.async false
set_option linter.all false
set_option autoImplicit false
set_option maxRecDepth 100000
set_option maxHeartbeats 4000000
namespace Lk
open PySem PySem.Spec PyProof.Rows L2
section
variable {Γ : G} {W : WX} {X : Cx} {f : List Addr} {S : Store} {H : Hp} {a b e : Expr} {p p0 p1 p2 p3 pos : Pos} {ma mb me : ME}
/-! ### list(range(..)) -/
def rgD (i j : Int) : List D := (List.range (j - i).toNat).map fun (k : Nat) => D.int (i + (k : Nat))
theorem rgD_rp {i j : Int} : RpL Γ f H (rgD i j) (rgV i j) := by
  unfold rgD rgV
  generalize (List.range (j - i).toNat) = l
  induction l with
  | nil => simp only [List.map_nil, RpL]
  | cons k l ih =>
    simp only [List.map_cons, RpL]
    exact ⟨_, _, rfl, Rp.ofInt, ih⟩
def lstRg (i j : Int) (S : Store) : R D := if okRg i j then .ok (.ref S.length) (S ++ [.lst (rgD i j)]) else .bad
def mListRg1 (m : ME) : ME := fun env S => (m env S).bind fun x S1 => match x with
  | .int j => lstRg 0 j S1
  | _ => .bad
theorem lstRg_ok {σ : L2.St} {i j : Int} {Q : VK} (rs : RelS Γ f S H) (h : Wp Γ W σ f H (Rp Γ) Q (lstRg i j S)) : RgOk i j ∧ ∀ q, H q = none → Q (.ref q) (upd H q (.lst (rgV i j))) := by
  unfold lstRg at h
  split at h
  · rename_i c
    refine ⟨c, fun q hq => h (f ++ [q]) _ _ (.alloc hq) (rs.alloc (b := .lst (rgD i j)) hq ⟨rgV i j, upd_same, rgD_rp⟩) (Rp.refI (by rw [← rs.len]; simp))⟩
  · exact h.elim
theorem q_listRg1 (hc : X.calm = true) (hm : X.mg "list" = none) (hm2 : X.mg "range" = none) (ha : PE X a (tE Γ W ma)) (hg : Gl X "list" := by rfl) (hg2 : Gl X "range" := by rfl) (na : starEach [.Call (.Name "range" p) [a] [] p0] X.env = (false, eval (.Call (.Name "range" p) [a] [] p0) X.env) :: starEach [] X.env := by rfl) (na2 : starEach [a] X.env = (false, eval a X.env) :: starEach [] X.env := by rfl) :
    PE X (.Call (.Name "list" p1) [.Call (.Name "range" p) [a] [] p0] [] pos) (tE Γ W (mListRg1 ma)) := PE.imp (pe_listRg hc hg hm (prg_1 hg2 hm2 ha na2) na) fun σ H Q ⟨env, S, f, rs, re, h⟩ => by
  refine ⟨env, S, f, rs, re, Wp.bindL h fun x S1 f1 H1 v u1 rs1 r1 h1 => ?_⟩
  cases x with
  | int j => exact ⟨j, r1.int, lstRg_ok rs1 h1⟩
  | _ => exact h1.elim
/-! ### xs[::-1] -/
theorem RpL.rev : ∀ {ds : List D} {vs : List V}, RpL Γ f H ds vs → RpL Γ f H ds.reverse vs.reverse := by
  intro ds
  induction ds with
  | nil =>
    intro vs r
    simp only [RpL] at r
    subst r
    simp only [List.reverse_nil, RpL]
  | cons d ds ih =>
    intro vs r
    simp only [RpL] at r
    obtain ⟨v, vr, e, r1, r2⟩ := r
    subst e
    rw [List.reverse_cons, List.reverse_cons]
    exact (ih r2).append (by simp only [RpL]; exact ⟨v, [], rfl, r1, rfl⟩)
def gRev (d : D) (S : Store) : R D := match d with
  | .rol ds => .ok (.ref S.length) (S ++ [.lst ds.reverse])
  | .ref n => (match S[n]? with
    | some (.lst ds) => .ok (.ref S.length) (S ++ [.lst ds.reverse])
    | _ => .bad)
  | _ => .bad
end
end Lk

set_option Elab.async false
set_option linter.all false
set_option autoImplicit false
set_option maxRecDepth 100000
set_option maxHeartbeats 4000000
/-! zip of two, each a list or a tuple -/
namespace Lk
open PySem PySem.Spec PyProof.Rows L2
/-- κ: a tuple -/
def SqK (κ : Bool) (K : PySem.W.Frag) (H : Hp) (a : Addr) (xs : List V) : Prop := if κ then SqT K H a xs else SqL K H a xs
def ItAt (κ : Bool) (h : Heap) (it a : Addr) (i : Nat) : Prop := if κ then h.IsTupleIter it a i else h.IsListIter it a i
def ObAt (κ : Bool) (h : Heap) (a : Addr) (its : Array Value) : Prop := if κ then h.IsTuple a its else h.IsList a its
def itO (κ : Bool) (a : Addr) : Obj := if κ then { cls := .type "tuple_iterator", data := .fields #[.ref a, .int 0 0] } else { cls := .type "list_iterator", data := .fields #[.ref a, .int 0 0] }
section
variable {prog : Program} {w : World} {A : Around} {κ : Bool} {h h' : Heap} {it a : Addr} {i : Nat} {its : Array Value}
theorem drawsK (hh : A.handled = none) (ne : a ≠ it) : Draws prog w A it [it, a] its.size (fun i v => its[i]? = some v) (fun i h => ItAt κ h it a i ∧ ObAt κ h a its) := by
  cases κ with
  | true => exact Draws.tuple hh it a ne its
  | false => exact Draws.list hh it a ne its
theorem beginsK : Begins (.ref a) (itO κ a) (fun h => ObAt κ h a its) := by
  cases κ with
  | true => exact begins_tuple a its
  | false => exact begins_list a its
theorem ItAt.obj (x : ItAt κ h it a i) : ∃ o, h.get? it = some o ∧ ∀ v, o.data ≠ .cell v := by
  cases κ with
  | true =>
    obtain ⟨o, g, _, d⟩ := (show h.IsTupleIter it a i from x)
    exact ⟨o, g, fun v z => by rw [d] at z; cases z⟩
  | false =>
    obtain ⟨o, g, _, d⟩ := (show h.IsListIter it a i from x)
    exact ⟨o, g, fun v z => by rw [d] at z; cases z⟩
theorem ItAt.to (x : ItAt κ h it a i) (k : ∀ o, h.get? it = some o → h'.get? it = some o) : ItAt κ h' it a i := by
  cases κ with
  | true =>
    obtain ⟨o, g, r⟩ := (show h.IsTupleIter it a i from x)
    exact ⟨o, k o g, r⟩
  | false =>
    obtain ⟨o, g, r⟩ := (show h.IsListIter it a i from x)
    exact ⟨o, k o g, r⟩
theorem ItAt.start (e : h.get? it = some (itO κ a)) : ItAt κ h it a 0 := by
  cases κ with
  | true => exact ⟨_, e, rfl, rfl⟩
  | false => exact ⟨_, e, rfl, rfl⟩
end
section
variable {X : Cx} {pins : List (Addr × Obj)} {σ : L2.St} {H : Hp} {s : Shared} {κ : Bool} {a : Addr} {xs ys : List V}
theorem seqK (I : Inv X pins σ H s) (h : SqK κ X.K H a xs) : ∃ its : List Value, Vals xs its ∧ ObAt κ s.heap a its.toArray := by
  cases κ with
  | true =>
    obtain ⟨its, r, p, _⟩ := I.tuple h
    exact ⟨its, r, p⟩
  | false =>
    obtain ⟨its, r, p, _⟩ := I.list h
    exact ⟨its, r, p.isList⟩
theorem injK (I : Inv X pins σ H s) (h : SqK κ X.K H a xs) (h' : SqK κ X.K H a ys) : xs = ys := by
  cases κ with
  | true => exact I.tuple_inj h h'
  | false => exact I.list_inj h h'
theorem ltK (I : Inv X pins σ H s) (h : SqK κ X.K H a xs) : a < s.heap.objs.size := by
  obtain ⟨its, _, p⟩ := seqK I h
  cases κ with
  | true => obtain ⟨_, g, _⟩ := (show s.heap.IsTuple a its.toArray from p); exact Heap.lt_size g
  | false => obtain ⟨_, g, _⟩ := (show s.heap.IsList a its.toArray from p); exact Heap.lt_size g
end
def ItZ (κ μ : Bool) (K : PySem.W.Frag) (a b : Addr) : It :=
  ⟨fun i H => ∃ (xs ys : List V) (x y : V), SqK κ K H a xs ∧ SqK μ K H b ys ∧ xs[i]? = some x ∧ ys[i]? = some y,
    fun i H v H' => ∃ T x y, v = .ref T ∧ H T = none ∧ H' = upd H T (.tup [x, y]) ∧ (∀ xs, SqK κ K H a xs → xs[i]? = some x) ∧ ∀ ys, SqK μ K H b ys → ys[i]? = some y,
    fun i H => ∃ xs ys : List V, SqK κ K H a xs ∧ SqK μ K H b ys ∧ i = min xs.length ys.length⟩
theorem lt_of_get {xs : List V} {its : List Value} {i : Nat} {x : V} (r : Vals xs its) (e : xs[i]? = some x) : i < its.toArray.size := by
  have l := r.length
  rcases Nat.lt_or_ge i xs.length with z | z
  · simp; omega
  · rw [List.getElem?_eq_none z] at e; cases e
theorem turn_zipK {P : Program} {w : World} {K : PySem.W.Frag} {elts : List Expr} {kk : Nat} {tpos : Pos} {κ μ : Bool} {a b z TI TO i1 i2 : Addr} (D : ZipSep2 z TI TO i1 i2 [i1, a] [i2, b]) (n1 : a ≠ i1) (n2 : b ≠ i2) :
    Turn P w K (.Tuple elts kk tpos) (ItZ κ μ K a b) [z, TI, TO, i1, i2] z (fun i h => IsZip h z TI TO .none ∧ IsTupOf2 h TI (.ref i1) (.ref i2) ∧ (∃ x y, IsTupOf2 h TO x y) ∧ ItAt κ h i1 a i ∧ ItAt μ h i2 b i) where
  mem := List.mem_cons_self
  obj := fun i h st c hc => by
    obtain ⟨g1, g2, ⟨x, y, g3⟩, g4, g5⟩ := st
    have cs : c = z ∨ c = TI ∨ c = TO ∨ c = i1 ∨ c = i2 := by simpa using hc
    rcases cs with q | q | q | q | q <;> subst q
    · exact ⟨_, g1, fun v q => nomatch q⟩
    · exact ⟨_, g2, fun v q => nomatch q⟩
    · exact ⟨_, g3, fun v q => nomatch q⟩
    · exact g4.obj
    · exact g5.obj
  keep := fun i h h' st k => by
    obtain ⟨g1, g2, ⟨x, y, g3⟩, g4, g5⟩ := st
    exact ⟨k z (by simp) _ g1, k TI (by simp) _ g2, ⟨x, y, k TO (by simp) _ g3⟩, g4.to fun o q => k i1 (by simp) o q, g5.to fun o q => k i2 (by simp) o q⟩
  item := by
    intro X hP hw hK hc i pins s σ H E I hf st hg
    subst hP hw hK
    obtain ⟨g1, g2, ⟨x0, y0, g3⟩, g4, g5⟩ := st
    obtain ⟨xs, ys, x, y, qx, qy, hx, hy⟩ := hg
    obtain ⟨its, rv, p1⟩ := seqK I qx
    obtain ⟨its2, rv2, p2⟩ := seqK I qy
    obtain ⟨u, hu, ru⟩ := rv.get hx
    obtain ⟨u2, hu2, ru2⟩ := rv2.get hy
    have hd : X.A.in1.handled = none := I.ok.hd hc
    refine wpAny_pyNext_zipD2_item D (drawsK (its := its.toArray) hd n1) (drawsK (its := its2.toArray) hd n2) g1 g2 g3 ⟨g4, p1⟩ ⟨g5, p2⟩ (lt_of_get rv hx) (lt_of_get rv2 hy) fun y1 y2 h1 tk e1 e2 z1 o1 t1 t2 nT _ old => ?_
    have ey1 : u = y1 := by
      have q : its[i]? = some y1 := by simpa using e1
      rw [hu] at q
      exact Option.some.inj q
    have ey2 : u2 = y2 := by
      have q : its2[i]? = some y2 := by simpa using e2
      rw [hu2] at q
      exact Option.some.inj q
    subst ey1
    subst ey2
    refine ⟨_, rfl, wpAny_letOwnedTupleGo_zip (s := { s with heap := h1, toks := tk }) z1 fun h2 z2 sb => ?_⟩
    have lz : z < s.heap.objs.size := Heap.lt_size g1
    have nT2 : h2.get? s.heap.objs.size = some { cls := .type "tuple", data := .seq #[u, u2] } := (sb.2 _ (Nat.ne_of_gt lz)).trans nT
    have new : ObjOk X.prog X.w (upd H s.heap.objs.size (.tup [x, y])) h2 s.heap.objs.size (.tup [x, y]) :=
      ⟨(by decide : 2 ≤ sizeLine), [u, u2], .cons ru (.cons ru2 .nil), ⟨_, nT2, rfl, _, rfl⟩⟩
    have keepAll : ∀ (c : Addr) (o : Obj), c ∉ [z, TI, TO, i1, i2] → s.heap.get? c = some o → h2.get? c = some o := fun c o nc q =>
      (sb.2 c fun e => nc (by simp [e])).trans (old c o (fun e => nc (by simp [e])) (fun e => nc (by simp [e])) (fun e => nc (by simp [e])) (fun e => nc (by simp [e])) q)
    have I1 : Inv X pins σ (upd H s.heap.objs.size (.tup [x, y])) { s with heap := h2, toks := tk } := I.turnedNew (ch := [z, TI, TO, i1, i2]) keepAll hf (Nat.le_refl _) new
    refine ⟨.ref s.heap.objs.size, _, I1, rfl, ⟨_, x, y, rfl, I.hok.fresh (Nat.le_refl _), rfl, fun l hl => by rw [injK I hl qx]; exact hx, fun l hl => by rw [injK I hl qy]; exact hy⟩, ⟨z2, ?_, ⟨u, u2, ?_⟩, ?_, ?_⟩, fun c hcm => ?_⟩
    · exact (sb.2 _ D.TIz).trans (old _ _ D.TIz D.TITO D.TIi1 D.TIi2 g2)
    · exact (sb.2 _ D.TOz).trans o1
    · exact t1.1.to fun o q => (sb.2 _ (Ne.symm D.zi1)).trans q
    · exact t2.1.to fun o q => (sb.2 _ (Ne.symm D.zi2)).trans q
    · have lt : c < s.heap.objs.size := by
        have cs : c = z ∨ c = TI ∨ c = TO ∨ c = i1 ∨ c = i2 := by simpa using hcm
        rcases cs with q | q | q | q | q <;> subst q
        · exact lz
        · exact Heap.lt_size g2
        · exact Heap.lt_size g3
        · obtain ⟨_, q, _⟩ := g4.obj; exact Heap.lt_size q
        · obtain ⟨_, q, _⟩ := g5.obj; exact Heap.lt_size q
      rw [upd_ne (Nat.ne_of_lt lt)]
      exact (hf c hcm).1
  done := by
    intro X hP hw hK hc i pins s σ H E I hf st hg
    subst hP hw hK
    obtain ⟨g1, g2, ⟨x0, y0, g3⟩, g4, g5⟩ := st
    obtain ⟨xs, ys, qx, qy, hend⟩ := hg
    obtain ⟨its, rv, p1⟩ := seqK I qx
    obtain ⟨its2, rv2, p2⟩ := seqK I qy
    have hd : X.A.in1.handled = none := I.ok.hd hc
    have l1 := rv.length
    have l2 := rv2.length
    exact wpAny_pyNext_zipD2_end D (drawsK (its := its.toArray) hd n1) (drawsK (its := its2.toArray) hd n2) g1 g2 g3 ⟨g4, p1⟩ ⟨g5, p2⟩ (by simp; omega) (by simp; omega) (by simp; omega) fun h' tk old => ⟨rfl, I.turnedL (ch := [z, TI, TO, i1, i2]) (fun c o nc q =>
      old c o (fun e => nc (by simp [e])) (fun e => nc (by simp [e])) (fun e => nc (by simp [e])) (fun e => nc (by simp [e])) q) hf⟩
  self := fun A i s Q E st h => wpAny_pyIter_zip st.1 h
section
variable {Γ : G} {W : WX} {X : Cx} {f : List Addr} {S : Store} {H : Hp} {e e2 : Expr} {p pos : Pos}
def iZp (K : PySem.W.Frag) (ta : TA) : TI := fun σ H Q => ta σ H fun vs H1 => ∃ κ μ a b xs ys, vs = [.ref a, .ref b] ∧ SqK κ K H1 a xs ∧ SqK μ K H1 b ys ∧ Q (ItZ κ μ K a b) H1
theorem pi_zipK {ta : TA} {tpos : Pos} {elts : List Expr} {kk : Nat} (hg : Gl X "zip") (hm : X.mg "zip" = none) (ha : PA X [e, e2] ta)
    (hs : starEach [e, e2] X.env = (false, eval e X.env) :: starEach [e2] X.env := by rfl) (hpl : (backTo pos (starEach [e2] X.env)).any (·.1) = false := by rfl) :
    PI X (.Tuple elts kk tpos) (.Call (.Name "zip" p) [e, e2] [] pos) (iZp X.K ta) := by
  refine ⟨fun pins s σ H Q I h => Call_ (ld_blt I hg hm PyProof.Rows.boot_zip (PyProof.Rows.callWith_type1 (thn (ha.run pos pins s σ H _ I h) fun us s1 ⟨vs, H1, I1, r1, q1⟩ => ?_) hs hpl))⟩
  obtain ⟨κ, μ, a, b, xs, ys, ev, qx, qy, q⟩ := q1
  subst ev
  cases r1 with
  | cons r rr =>
    cases rr with
    | cons r2 rr2 =>
      cases rr2
      cases r
      cases r2
      obtain ⟨its, rv, p1⟩ := seqK I1 qx
      obtain ⟨its2, rv2, p2⟩ := seqK I1 qy
      have la := ltK I1 qx
      have lb := ltK I1 qy
      refine zip_begins2 (beginsK (its := its.toArray)) (beginsK (its := its2.toArray)) p1 p2 fun h' gz g2 g3 gi1 gi2 _ old => wpAny_pyIter_zip gz ?_
      have I2 : Inv X pins σ H1 { s1 with heap := h' } := I1.kept (t' := s1.toks) old
      have D : ∀ N : Nat, a < N → b < N → ZipSep2 (N + 4) (N + 2) (N + 3) N (N + 1) [N, a] [N + 1, b] := fun N l1 l2 => by
        have e1 : ¬ N + 4 = a := fun z => Nat.not_lt.mpr (Nat.le_trans (Nat.le_add_right N 4) (Nat.le_of_eq z)) l1
        have e2 : ¬ N + 3 = a := fun z => Nat.not_lt.mpr (Nat.le_trans (Nat.le_add_right N 3) (Nat.le_of_eq z)) l1
        have e3 : ¬ N + 4 = b := fun z => Nat.not_lt.mpr (Nat.le_trans (Nat.le_add_right N 4) (Nat.le_of_eq z)) l2
        have e4 : ¬ N + 3 = b := fun z => Nat.not_lt.mpr (Nat.le_trans (Nat.le_add_right N 3) (Nat.le_of_eq z)) l2
        have e5 : ¬ N = b := fun z => Nat.not_lt.mpr (Nat.le_of_eq z) l2
        have e6 : ¬ N + 1 = a := fun z => Nat.not_lt.mpr (Nat.le_trans (Nat.le_add_right N 1) (Nat.le_of_eq z)) l1
        constructor <;> simp [e1, e2, e3, e4, e5, e6]
      refine ⟨s1.heap.objs.size + 4, _, _, _, H1, rfl, I2, turn_zipK (κ := κ) (μ := μ) (D _ la lb) (Nat.ne_of_lt la) (Nat.ne_of_lt (Nat.lt_succ_of_lt lb)), ⟨gz, g2, ⟨_, _, g3⟩, .start gi1, .start gi2⟩, fun c hc => ?_, q⟩
      have le : s1.heap.objs.size ≤ c := by
        have z : c = s1.heap.objs.size + 4 ∨ c = s1.heap.objs.size + 2 ∨ c = s1.heap.objs.size + 3 ∨ c = s1.heap.objs.size ∨ c = s1.heap.objs.size + 1 := by simpa using hc
        rcases z with z | z | z | z | z <;> (subst z; first | exact Nat.le_refl _ | exact Nat.le_add_right _ _)
      exact I1.fpOk le (I1.hok.fresh le)
/-- a value stands for a sequence whose items are these, as long as g holds -/
def SeqV (Γ : G) (f : List Addr) (H0 : Hp) (v : V) (xs : List D) (g : Store → Prop) : Prop := ∃ κ a, v = .ref a ∧ ∀ (f' : List Addr) (S : Store) (H : Hp), RelS Γ f' S H → g S → Up Γ f H0 f' H → ∃ vs, SqK κ Γ.K H a vs ∧ RpL Γ f' H xs vs
theorem seqV_of {d : D} {v : V} {xs : List D} {g : Store → Prop} (rs : RelS Γ f S H) (r : Rp Γ f H d v) (h : seqOf d S = some (xs, g)) : SeqV Γ f H v xs g ∧ g S := by
  cases d with
  | tup ds =>
    cases h
    obtain ⟨a, vs, ev, sq, rr⟩ := r.tup
    exact ⟨⟨true, a, ev, fun f' S' H' _ _ u => ⟨vs, u.keep.sqT sq, rr.up u⟩⟩, trivial⟩
  | rol ds =>
    cases h
    obtain ⟨a, vs, ev, sq, rr⟩ := r.rol
    exact ⟨⟨false, a, ev, fun f' S' H' _ _ u => ⟨vs, (u.keep.sqR sq).1, rr.up u⟩⟩, trivial⟩
  | ref n =>
    simp only [Rp] at r
    obtain ⟨a, ha, ev⟩ := r
    have h : (match S[n]? with
      | some (.lst xs) => some (xs, fun S : Store => S[n]? = some (Ob.lst xs))
      | _ => none) = some (xs, g) := h
    split at h
    · rename_i ys hn
      cases h
      refine ⟨⟨false, a, ev, fun f' S' H' rs' hg u => ?_⟩, hn⟩
      obtain ⟨b, hb, vs, hh, rr⟩ := rs'.ob n _ hg
      rw [u.at ha] at hb
      cases hb
      exact ⟨vs, SqL.of hh, rr⟩
    · cases h
  | _ => cases h
theorem sv_zip {κ μ : Bool} {a b : Addr} {xs ys : List D} {g g' : Store → Prop} (hx : ∀ (f' : List Addr) (S : Store) (H' : Hp), RelS Γ f' S H' → g S → Up Γ f H f' H' → ∃ vs, SqK κ Γ.K H' a vs ∧ RpL Γ f' H' xs vs)
    (hy : ∀ (f' : List Addr) (S : Store) (H' : Hp), RelS Γ f' S H' → g' S → Up Γ f H f' H' → ∃ vs, SqK μ Γ.K H' b vs ∧ RpL Γ f' H' ys vs) : Sv Γ f H ⟨zipD xs ys, fun S => g S ∧ g' S⟩ (ItZ κ μ Γ.K a b) where
  go := fun f1 S H1 i d rs ok e => by
    obtain ⟨vs, q1, r1⟩ := hx f1 S H1 rs ok.1.1 ok.2
    obtain ⟨us, q2, r2⟩ := hy f1 S H1 rs ok.1.2 ok.2
    have e : (zipD xs ys)[i]? = some d := e
    unfold zipD at e
    rw [List.getElem?_map] at e
    obtain ⟨⟨x, y⟩, ez, ed⟩ := Option.map_eq_some_iff.mp e
    obtain ⟨ex, ey⟩ := List.getElem?_zip_eq_some.mp ez
    subst ed
    obtain ⟨v, hv, rv⟩ := RpL.get r1 ex
    obtain ⟨u, hu, ru⟩ := RpL.get r2 ey
    refine ⟨⟨vs, us, v, u, q1, q2, hv, hu⟩, fun z H' hz => ?_⟩
    obtain ⟨T, v', u', ev, hT, eH, h1, h2⟩ := hz
    subst ev
    subst eH
    have a1 := h1 vs q1
    have a2 := h2 us q2
    rw [hv] at a1
    rw [hu] at a2
    cases a1
    cases a2
    refine ⟨.new hT, rs.newT hT, Rp.tupI (SqT.of upd_same) ?_⟩
    simp only [RpL]
    exact ⟨_, _, rfl, rv.up (.new hT), _, _, rfl, ru.up (.new hT), rfl⟩
  stop := fun f1 S H1 rs ok => by
    obtain ⟨vs, q1, r1⟩ := hx f1 S H1 rs ok.1.1 ok.2
    obtain ⟨us, q2, r2⟩ := hy f1 S H1 rs ok.1.2 ok.2
    exact ⟨vs, us, q1, q2, by rw [← r1.length, ← r2.length]; simp [zipD]⟩
theorem SeqV.up {f' : List Addr} {H' : Hp} {v : V} {xs : List D} {g : Store → Prop} (h : SeqV Γ f H v xs g) (u : Up Γ f H f' H') : SeqV Γ f' H' v xs g := by
  obtain ⟨κ, a, ev, k⟩ := h
  exact ⟨κ, a, ev, fun f2 S2 H2 rs hg u2 => k f2 S2 H2 rs hg (u.trans u2)⟩
theorem qi_zip {elts : List Expr} {kk : Nat} {tpos : Pos} {m n : ME} (hK : X.K = Γ.K) (hm : X.mg "zip" = none) (h : PE X e (tE Γ W m)) (h2 : PE X e2 (tE Γ W n)) (hg : Gl X "zip" := by rfl) (hs : starEach [e, e2] X.env = (false, eval e X.env) :: starEach [e2] X.env := by rfl)
    (hs2 : starEach [e2] X.env = (false, eval e2 X.env) :: starEach [] X.env := by rfl) (hpl : (backTo pos (starEach [e2] X.env)).any (·.1) = false := by rfl) :
    PI X (.Tuple elts kk tpos) (.Call (.Name "zip" p) [e, e2] [] pos) (tI Γ W (iZip' m n)) := PI.imp (pi_zipK hg hm (pa_cons h (pa_cons h2 pa_nil hs2) hs) hs hpl) fun σ H Q ⟨env, S, f, rs, re, h⟩ => by
  show tE Γ W m σ H _
  refine ⟨env, S, f, rs, re, Wp.bindL h fun x S1 f1 H1 v u1 rs1 r1 h1 => ?_⟩
  show tE Γ W n σ H1 _
  refine ⟨env, S1, f1, rs1, re.up u1, Wp.bindL h1 fun y S2 f2 H2 u u2 rs2 r2 h2 => ?_⟩
  unfold srcZ at h2
  split at h2
  · rename_i xs g ys g' hx hy
    obtain ⟨⟨κ, a, ev, k1⟩, g1⟩ := seqV_of rs2 (r1.up u2) hx
    obtain ⟨⟨μ, b, eu, k2⟩, g2⟩ := seqV_of rs2 r2 hy
    subst ev
    subst eu
    obtain ⟨vs, q1, _⟩ := k1 f2 S2 H2 rs2 g1 .refl
    obtain ⟨us, q2, _⟩ := k2 f2 S2 H2 rs2 g2 .refl
    refine ⟨κ, μ, a, b, vs, us, rfl, by rw [hK]; exact q1, by rw [hK]; exact q2, ?_⟩
    rw [hK]
    exact h2 f2 H2 _ .refl rs2 (sv_zip k1 k2)
  · exact h2.elim
end
end Lk

set_option Elab.async false
set_option linter.all false
set_option autoImplicit false
set_option maxRecDepth 100000
set_option maxHeartbeats 4000000
/-! more methods of lists: index, count, pop, extend -/
namespace Lk
open PySem PySem.Spec PyProof.Rows L2
section
variable {Γ : G} {W : WX} {X : Cx} {f : List Addr} {S : Store} {H : Hp} {o : Expr} {apos cpos : Pos} {mo : ME} {name : Str}
/-! ### methods without arguments -/
end
end Lk

set_option Elab.async false
set_option linter.all false
set_option autoImplicit false
set_option maxRecDepth 100000
set_option maxHeartbeats 4000000
/-! + - * and the sign turned, by a class's own methods -/
namespace Lk
open PySem PySem.Spec PyProof.Rows L2
/-- a built-in of ints declines an instance -/
theorem int_declines {f : Int → Int → Sem PySem.Fin} {nm : String} {i : Int} {t : Tok} {x C dx : Addr} :
    GivesAt (fun s => s.heap.get? x = some (PySem.W.instObj C dx)) (Builtin.Int.intBinary nm f false ⟨[.int i t, .ref x], []⟩) (.val .notImplemented) := by
  intro prog w A R s ho hq
  obtain ⟨hp, g, d, tk, os⟩ := s
  unfold Builtin.Int.intBinary
  wp_walk
  exact hq
section
variable {prog : Program} {w : World} {A : Around} {E : Value → Shared → Prop} {s : Shared} {K : PySem.W.Frag} {x C L f f0 dx : Addr} {h₀ : Heap} {m : Str → Option Value} {od : Option Obj}
open PySem.W in
/-- an int on the left, an instance of an own class on the right -/
theorem binop_refl {op : Operator} {i : Int} {t : Tok} {idl : String} {B : Builtin} {Q : Value → Shared → Prop} (F : Fr h₀ L s.heap m) (X₀ : K.In h₀) (I : InstAt s.heap x (instObj C dx) C od) (hc : selfFirst K C = true)
    (hs : findIn K (.ref C) (PySem.dunder op.info.2) = some (some (.ref f0))) (hr : findIn K (.ref C) (dunderR op.info.2) = some (some (.ref f))) (hf : isFn K (.ref f) = true) (hsub : subIn K (.ref C) (.type "int") = some false)
    (fills : fillsNumberSlot (.type "int") op.info.2 = pure true) (slot : Slot "int" (PySem.dunder op.info.2) idl) (entry : entryFor table idl = some B) (args : ∀ b : Value, argsOk idl ⟨[.int i t, b], []⟩)
    (decl : ∀ y C dx : Addr, GivesAt (fun s => s.heap.get? y = some (instObj C dx)) (B ⟨[.int i t, .ref y], []⟩) (.val .notImplemented))
    (h : wpAny (model prog w) A (call (.ref f) [.ref x, .int i t]) (PySem.W.CmpBack Q) E s) : wpAny (model prog w) A (binaryOp op (.int i t) (.ref x)) Q E s := by
  have X := X₀.keeps F.keep
  obtain ⟨cd, rest, hcd, hm⟩ := ksp_first hc
  rcases hi : op.info with ⟨sym, nm'⟩
  rw [hi] at hs hr fills slot
  dsimp only at hs hr fills slot
  have two := ksp_try X I hr hf h
  have ho : s.heap.get? x = some (instObj C dx) := I.at_
  have one : wpAny (model prog w) A (call (.builtin idl) [.int i t, .ref x]) (fun v s' => v = .notImplemented ∧ s' = s) E s := call_givesAt slot (typeIs_int s i t) entry (args _) (decl x C dx) ho ⟨rfl, rfl⟩
  have hT : s.TypeIs (.int i t) "int" := typeIs_int s i t
  have hne : (Value.type "int" == Value.ref C) = false := Bool.eq_false_iff.mpr fun q => by cases beq_iff_eq.mp q
  have L1 : Looks (model prog w) s.heap (typeOf (.ref x)) (.ref C) := I.type
  have L3 : Looks (model prog w) s.heap (fillsNumberSlot (.ref C) nm') true := fills_K X hcd hm hs
  have L5 : Looks (model prog w) s.heap (isSubtype (.ref C) (.type "int")) false := looks_subIn X hsub
  have hpy : numberSlotInPython (.type "int") nm' = pure false := rfl
  simp only [binaryOp, hi]
  refine wpAny_holding (wpAny_bind ?_)
  unfold binaryOp1
  refine wpAny_bind (wpAny_typeOf hT (wpAny_bind (L1.here (wpAny_bind (wpAny_of_eq fills ?_)))))
  simp only [hne, Bool.false_eq_true, if_false]
  refine wpAny_bind (L3.here ?_)
  simp only [Bool.and_self, if_true]
  refine wpAny_bind (L5.here ?_)
  simp only [Bool.false_eq_true, if_false, pure_bind, Bool.not_false, Bool.and_self, if_true, hpy]
  refine wpAny_bind (wpAny_tryMethod_declines hT slot (wpAny_mono one (fun v s' q => ?_) fun _ _ e => e))
  obtain ⟨rfl, rfl⟩ := q
  refine ⟨rfl, ?_⟩
  dsimp only
  refine wpAny_bind (wpAny_mono two (fun r s' hr' => ?_) fun _ _ e => e)
  obtain ⟨v, rfl, hq⟩ := hr'
  exact wpAny_bind (wpAny_rule (wpAny_pure (wpAny_pure hq)))
end
/-! ### the operators of own classes -/
def insR (o : Option (List D → Store → R D)) (l : List D) (S : Store) : R D := match o with
  | some m => (match m l S with
    | .ok d S' => .ok d S'
    | _ => .bad)
  | none => .bad
def gBinX (ot rt : OTab) (g : D → D → Store → R D) (x y : D) (S : Store) : R D := match x, y with
  | .ins C xs, .ins C' ys => if C = C' then insR (ot C) [.ins C xs, .ins C' ys] S else .bad
  | .ins C xs, .int i => insR (ot C) [.ins C xs, .int i] S
  | .int i, .ins C ys => insR (rt C) [.ins C ys, .int i] S
  | x, y => g x y S
def gUnX (nt : OTab) (g : D → Store → R D) (x : D) (S : Store) : R D := match x with
  | .ins C xs => insR (nt C) [.ins C xs] S
  | x => g x S
def NegC (Γ : G) (P : Program) (w : World) (mg : Str → Option Value) (base : Heap) (k : Nat) (nt : OTab) : Prop := ∀ C m, nt C = some m → MeC Γ P w mg base k 1 C "__neg__" m
section
variable {Γ : G} {W : WX} {X : Cx} {f : List Addr} {H : Hp} {S : Store}
/-- a call of such a method, of right values -/
def rMe (Γ : G) (n : Nat) (o : Option (List D → Store → R D)) (l : List V) (H : Hp) (Q : VK) : Prop := ∃ m, o = some m ∧ spOf Γ n m l H Q (fun _ _ _ => False)
def rBinX (Γ : G) (ot rt : OTab) (r : R2) : R2 := fun x y H Q =>
  (∃ C a dx fs b dy gs, x = .ref a ∧ H a = some (.ins (Γ.c C) dx fs) ∧ y = .ref b ∧ H b = some (.ins (Γ.c C) dy gs) ∧ rMe Γ 2 (ot C) [x, y] H Q) ∨
  ((∃ C a dx fs i, x = .ref a ∧ H a = some (.ins (Γ.c C) dx fs) ∧ y = .int i ∧ rMe Γ 2 (ot C) [x, y] H Q) ∨
  ((∃ C a dx fs i, y = .ref a ∧ H a = some (.ins (Γ.c C) dx fs) ∧ x = .int i ∧ rMe Γ 2 (rt C) [y, x] H Q) ∨ r x y H Q))
def rUnX (Γ : G) (nt : OTab) (r : V → Hp → VK → Prop) : V → Hp → VK → Prop := fun x H Q => (∃ C a dx fs, x = .ref a ∧ H a = some (.ins (Γ.c C) dx fs) ∧ rMe Γ 1 (nt C) [x] H Q) ∨ r x H Q
theorem back_of {pins : List (Addr × Obj)} {σ : L2.St} {Q : VK} {v : Value} {s : Shared} (h : EP X pins σ Q v s) : PySem.W.CmpBack (EP X pins σ Q) v s := by
  have h0 := h
  obtain ⟨z, H', I', rz, qz⟩ := h
  cases v <;> first | exact h0 | (exfalso; revert rz; cases z <;> (intro rz; first | (cases rz; done) | (obtain ⟨_, e⟩ := rz; cases e)))
theorem op_of {C : Str} {nm : String} (h : opB Γ C nm = true) : PySem.W.selfFirst Γ.K (Γ.c C) = true ∧ (∃ g, PySem.W.findIn Γ.K (.ref (Γ.c C)) (PySem.dunder nm) = some (some (.ref g))) ∧ (∃ rc, PySem.W.findIn Γ.K (.ref (Γ.c C)) (dunderR nm) = some rc ∧ (rc = none ∨ ∃ g : Addr, rc = some (.ref g))) ∧
    (∃ fo, PySem.W.findIn Γ.K (.type "int") (PySem.dunder nm) = some fo) ∧ (∃ fo, PySem.W.findIn Γ.K (.type "int") (dunderR nm) = some fo) ∧ PySem.W.subIn Γ.K (.type "int") (.ref (Γ.c C)) = some false ∧ PySem.W.subIn Γ.K (.ref (Γ.c C)) (.type "int") = some false := by
  unfold opB at h
  simp only [Bool.and_eq_true] at h
  obtain ⟨h1, h2, h3, h4, h5, h6, h7⟩ := h
  refine ⟨h1, ?_, ?_, Option.isSome_iff_exists.mp h4, Option.isSome_iff_exists.mp h5, of_decide_eq_true h6, of_decide_eq_true h7⟩
  · split at h2
    · rename_i g e
      exact ⟨g, e⟩
    · cases h2
  · split at h3
    · rename_i e
      exact ⟨none, e, .inl rfl⟩
    · rename_i g e
      exact ⟨some (.ref g), e, .inr ⟨g, rfl⟩⟩
    · cases h3
theorem int_add : IntOp .Add := ⟨F.fills_int_add, _, _, F.slot_int_add, F.entry_int_add, fun a b => F.args_int_add_2 a b, fun _ _ _ _ _ => int_declines⟩
theorem int_sub : IntOp .Sub := ⟨F.fills_int_sub, _, _, F.slot_int_sub, F.entry_int_sub, fun a b => F.args_int_sub_2 a b, fun _ _ _ _ _ => int_declines⟩
theorem or_bin {op : Operator} {k : Nat} {ot rt : OTab} {r : R2} (hK : X.K = Γ.K) (hr : Room k X.A) (hi : IntOp op) (ho : OpsC Γ X.prog X.w X.mg X.base k op.info.2 ot rt) (hb : OpR X (binaryOp op) r) : OpR X (binaryOp op) (rBinX Γ ot rt r) := by
  intro pins s σ H x y v u Q I rx ry h
  have noX : PassesAt (L2.CX X.prog X.w) X σ (fun _ _ _ => False) := fun _ _ _ _ _ _ c => by
    obtain ⟨_, _, _, _, _, _, _, _, _, _, _, _, z⟩ := c
    exact z.elim
  have go : ∀ {C nm : Str} {n : Nat} {m : List D → Store → R D} {us : List Value} {vs : List V} {g : Addr}, PySem.W.findIn Γ.K (.ref (Γ.c C)) nm = some (some (.ref g)) → MeC Γ X.prog X.w X.mg X.base k n C nm m → Vals vs us → spOf Γ n m vs H Q (fun _ _ _ => False) → PySem.W.isFn Γ.K (.ref g) = true ∧ wpAny (model X.prog X.w) X.A (call (.ref g) us) (PySem.W.CmpBack (EP X pins σ Q)) X.xe s := by
    intro C nm n m us vs g e me rv hsp
    obtain ⟨g', fd, ps, e1, e2, F, hb⟩ := me.me
    rw [e1] at e
    cases e
    exact ⟨e2, wpAny_mono (run_fnS (us := us) (vs := vs) (E := fun _ _ _ _ => False) (σ := σ) (Q := Q) (by rw [hK]; exact F) hr (by rw [hK]; exact hb) noX I rv hsp) (fun _ _ q => back_of q) fun _ _ z => z⟩
  obtain ⟨mm, hF⟩ := I.fr
  rcases h with ⟨C, a, dx, fs, b, dy, gs, ex, hh, ey, hh2, m, em, hsp⟩ | ⟨C, a, dx, fs, i, ex, hh, ey, m, em, hsp⟩ | ⟨C, a, dx, fs, i, ey, hh, ex, m, em, hsp⟩ | h
  · subst ex
    subst ey
    obtain rfl : v = Value.ref a := rx
    obtain rfl : u = Value.ref b := ry
    obtain ⟨me, q⟩ := ho.fw C m em
    obtain ⟨q1, ⟨g, q2⟩, q3, q4, q5, q6, q7⟩ := op_of q
    obtain ⟨mA, J, _⟩ := ins_get I.hok hh
    obtain ⟨od, J, _⟩ := J.look
    obtain ⟨mB', J2, _⟩ := ins_get I.hok hh2
    obtain ⟨od2, J2, _⟩ := J2.look
    obtain ⟨e2, w⟩ := go q2 me (show Vals [V.ref a, V.ref b] [Value.ref a, Value.ref b] from .cons rfl (.cons rfl .nil)) hsp
    exact PySem.W.binop_K hF I.ok.mod.kin J J2.type (by rw [hK]; exact q1) (by rw [hK]; exact q2) (by rw [hK]; exact e2) w
  · subst ex
    subst ey
    obtain rfl : v = Value.ref a := rx
    obtain ⟨t, rfl⟩ := (show ∃ t, u = Value.int i t from ry)
    obtain ⟨me, q⟩ := ho.fw C m em
    obtain ⟨q1, ⟨g, q2⟩, ⟨rc, q3, q3'⟩, ⟨fo, q4⟩, ⟨ro, q5⟩, q6, q7⟩ := op_of q
    obtain ⟨mA, J, _⟩ := ins_get I.hok hh
    obtain ⟨od, J, _⟩ := J.look
    obtain ⟨e2, w⟩ := go q2 me (show Vals [V.ref a, V.int i] [Value.ref a, Value.int i t] from .cons rfl (.cons ⟨t, rfl⟩ .nil)) hsp
    exact PySem.W.ksp_binT (T := "int") hF I.ok.mod.kin J rfl (by rw [hK]; exact q1) (by rw [hK]; exact q2) (by rw [hK]; exact e2) (by rw [hK]; exact q3) q3' (by rw [hK]; exact q4) (by rw [hK]; exact q5) (by rw [hK]; exact q6) w
  · subst ex
    subst ey
    obtain rfl : u = Value.ref a := ry
    obtain ⟨t, rfl⟩ := (show ∃ t, v = Value.int i t from rx)
    obtain ⟨me, q⟩ := ho.rf C m em
    obtain ⟨q1, ⟨g0, q2⟩, _, _, _, q6, q7⟩ := op_of q
    obtain ⟨g, fd, ps, e1, _⟩ := me.me
    obtain ⟨mA, J, _⟩ := ins_get I.hok hh
    obtain ⟨od, J, _⟩ := J.look
    obtain ⟨e2, w⟩ := go e1 me (show Vals [V.ref a, V.int i] [Value.ref a, Value.int i t] from .cons rfl (.cons ⟨t, rfl⟩ .nil)) hsp
    obtain ⟨idl, B, n1, n2, n3, n4⟩ := hi.in_
    exact binop_refl hF I.ok.mod.kin J (by rw [hK]; exact q1) (by rw [hK]; exact q2) (by rw [hK]; exact e1) (by rw [hK]; exact e2) (by rw [hK]; exact q7) hi.fills n1 n2 (fun b => n3 _ b) (fun y C dx => n4 _ _ y C dx) w
  · exact hb pins s σ H x y v u Q I rx ry h
theorem ur_neg {k : Nat} {nt : OTab} {r : V → Hp → VK → Prop} (hK : X.K = Γ.K) (hr : Room k X.A) (ho : NegC Γ X.prog X.w X.mg X.base k nt) (hb : UnR X (unaryOp .USub) r) : UnR X (unaryOp .USub) (rUnX Γ nt r) := by
  intro pins s σ H x v Q I rx h
  have noX : PassesAt (L2.CX X.prog X.w) X σ (fun _ _ _ => False) := fun _ _ _ _ _ _ c => by
    obtain ⟨_, _, _, _, _, _, _, _, _, _, _, _, z⟩ := c
    exact z.elim
  obtain ⟨mm, hF⟩ := I.fr
  rcases h with ⟨C, a, dx, fs, ex, hh, m, em, hsp⟩ | h
  · subst ex
    obtain rfl : v = Value.ref a := rx
    obtain ⟨g, fd, ps, e1, e2, F, hb2⟩ := (ho C m em).me
    obtain ⟨mA, J, _⟩ := ins_get I.hok hh
    obtain ⟨od, J, _⟩ := J.look
    exact PySem.W.ksp_neg hF I.ok.mod.kin J (by rw [hK]; exact e1) (by rw [hK]; exact e2) (run_fnS (us := [Value.ref a]) (vs := [V.ref a]) (E := fun _ _ _ _ => False) (σ := σ) (Q := Q) (by rw [hK]; exact F) hr (by rw [hK]; exact hb2) noX I (.cons rfl .nil) hsp)
  · exact hb pins s σ H x v Q I rx h
theorem insR_ok {n : Nat} {o : Option (List D → Store → R D)} {l : List D} {vs : List V} {σ : L2.St} {Q : VK} (rs : RelS Γ f S H) (rl : RpL Γ f H l vs) (hn : vs.length = n) (h : Wp Γ W σ f H (Rp Γ) Q (insR o l S)) : rMe Γ n o vs H Q := by
  unfold insR at h
  split at h
  · rename_i m
    refine ⟨m, rfl, hn, f, S, l, rs, rl, ?_⟩
    revert h
    cases m l S with
    | ok d S' => exact fun h => h
    | _ => exact fun h => h.elim
  · exact h.elim
theorem insAt {C : Str} {xs : List D} {v : V} (r : Rp Γ f H (.ins C xs) v) : ∃ a dx fvs, v = .ref a ∧ H a = some (.ins (Γ.c C) dx fvs) := by
  simp only [Rp] at r
  obtain ⟨a, dx, fvs, e, hh, _⟩ := r
  exact ⟨a, dx, fvs, e, hh⟩
theorem two_rp {x y : D} {v u : V} (rx : Rp Γ f H x v) (ry : Rp Γ f H y u) : RpL Γ f H [x, y] [v, u] := by
  simp only [RpL]
  exact ⟨v, [u], rfl, rx, u, [], rfl, ry, rfl⟩
theorem one_rp {x : D} {v : V} (rx : Rp Γ f H x v) : RpL Γ f H [x] [v] := by
  simp only [RpL]
  exact ⟨v, [], rfl, rx, rfl⟩
theorem ok_bin {ot rt : OTab} {r : R2} {g : D → D → Store → R D} (hg : OpOk Γ r g) : OpOk Γ (rBinX Γ ot rt r) (gBinX ot rt g) := fun W σ f S H x y v u Q rs rx ry h => by
  have base : Wp Γ W σ f H (Rp Γ) Q (g x y S) → rBinX Γ ot rt r v u H Q := fun h => .inr (.inr (.inr (hg W σ f S H x y v u Q rs rx ry h)))
  unfold gBinX at h
  split at h
  · rename_i C xs C' ys
    split at h
    · rename_i e
      subst e
      obtain ⟨a, dx, fs, e1, h1⟩ := insAt rx
      obtain ⟨b, dy, gs, e2, h2⟩ := insAt ry
      exact .inl ⟨C, a, dx, fs, b, dy, gs, e1, h1, e2, h2, insR_ok rs (two_rp rx ry) rfl h⟩
    · exact h.elim
  · rename_i C xs i
    obtain ⟨a, dx, fs, e1, h1⟩ := insAt rx
    exact .inr (.inl ⟨C, a, dx, fs, i, e1, h1, ry.int, insR_ok rs (two_rp rx ry) rfl h⟩)
  · rename_i i C ys
    obtain ⟨a, dx, fs, e1, h1⟩ := insAt ry
    exact .inr (.inr (.inl ⟨C, a, dx, fs, i, e1, h1, rx.int, insR_ok rs (two_rp ry rx) rfl h⟩))
  · exact base h
theorem ok_un {nt : OTab} {r : V → Hp → VK → Prop} {g : D → Store → R D} (hg : UnOk Γ r g) : UnOk Γ (rUnX Γ nt r) (gUnX nt g) := fun W σ f S H x v Q rs rx h => by
  unfold gUnX at h
  split at h
  · rename_i C xs
    obtain ⟨a, dx, fs, e1, h1⟩ := insAt rx
    exact .inl ⟨C, a, dx, fs, e1, h1, insR_ok rs (one_rp rx) rfl h⟩
  · exact .inr (hg W σ f S H _ v Q rs rx h)
/-- a row that is never come to -/
def mBadS : MS := fun _ _ => .bad
theorem qs_bad {st : Stmt} : PS X st (tS Γ W mBadS) := ⟨fun pins s σ H D I q => by
  obtain ⟨env, S, f, rs, re, h⟩ := q
  exact h.elim⟩
theorem dun_add : PySem.dunder "add" = ("__add__" : Str) := by decide +kernel
theorem dun_sub : PySem.dunder "sub" = ("__sub__" : Str) := by decide +kernel
theorem dur_add : dunderR "add" = ("__radd__" : Str) := by decide +kernel
theorem dur_sub : dunderR "sub" = ("__rsub__" : Str) := by decide +kernel
end
end Lk

set_option Elab.async false
set_option linter.all false
set_option autoImplicit false
set_option maxRecDepth 100000
set_option maxHeartbeats 4000000
/-! a call in an except suite: the error that is caught stays where it is -/
namespace Lk
open PySem PySem.Spec PyProof.Rows L2
section
variable {Γ : G} {W : WX} {X : Cx} {f : List Addr} {H : Hp} {S : Store} {a : Expr} {es : List Expr} {mr : MA} {p pos : Pos} {x : Str} {fA : Addr} {fd : FuncData} {ps : List Str} {k n : Nat} {m : List D → Store → R D} {e0 : Addr} {i : Nat} {E : Str} {ds : List D} {o : Option Addr}
theorem wp_at_ (hx : Γ.xc = none) {σ σ' : L2.St} {Q : VK} {r : R D} (rs : RelS (Γ.at_ e0 i E ds o) f S H) (h : Wp (Γ.at_ e0 i E ds o) W σ f H (Rp (Γ.at_ e0 i E ds o)) Q r) : Wp Γ (fun c oo _ H => W c oo σ H) σ' f H (Rp Γ) Q r := by
  have key : ∀ {f1 : List Addr} {H1 : Hp} {S1 : Store}, Up Γ f H f1 H1 → RelS Γ f1 S1 H1 → RelS (Γ.at_ e0 i E ds o) f1 S1 H1 := fun u r => r.sim (sim_at ..) fun a' i' C ds' o' e => by
    exact XRep.up (u.sim (sim_at ..)) (rs.xc a' i' C ds' o' e)
  cases r with
  | ok d S1 => exact fun f1 H1 v u r1 p1 => h f1 H1 v (u.sim (sim_at ..)) (key u r1) (p1.sim (sim_at ..))
  | ex C xs S1 => exact fun f1 H1 oo u r1 x1 => h f1 H1 oo (u.sim (sim_at ..)) (key u r1) (x1.sim (sim_at ..))
  | bad => exact h
theorem spOfX (hx : Γ.xc = none) {σ : L2.St} {Q : VK} {xs : List D} {vs : List V} (rs : RelS (Γ.at_ e0 i E ds o) f S H) (r : RpL (Γ.at_ e0 i E ds o) f H xs vs) (h : Wp (Γ.at_ e0 i E ds o) W σ f H (Rp (Γ.at_ e0 i E ds o)) Q (if xs.length = n then m xs S else .bad)) : spOf Γ n m vs H Q (WE W σ) := by
  by_cases hl : xs.length = n
  · rw [if_pos hl] at h
    have rs' : RelS Γ f S H := rs.sim (sim_un ..) fun a i C ds o e => by
      rw [hx] at e
      cases e
    refine ⟨by rw [← r.length]; exact hl, f, S, xs, rs', r.sim (sim_un ..), ?_⟩
    exact wp_at_ hx rs h
  · rw [if_neg hl] at h
    exact h.elim
end
end Lk

set_option Elab.async false
set_option linter.all false
set_option autoImplicit false
set_option maxRecDepth 100000
set_option maxHeartbeats 4000000
/-! x is True, x is not False .., of a flag, an int or None -/
namespace Lk
open PySem PySem.Spec PyProof.Rows L2
section
variable {Γ : G} {W : WX} {X : Cx} {f : List Addr} {H : Hp} {S : Store}
end
end Lk

set_option Elab.async false
set_option linter.all false
set_option autoImplicit false
set_option maxRecDepth 100000
set_option maxHeartbeats 4000000
/-! zip of three, each a list or a tuple -/
namespace Lk
open PySem PySem.Spec PyProof.Rows L2
section
variable {Γ : G} {W : WX} {X : Cx} {f : List Addr} {S : Store} {H : Hp} {e e2 e3 : Expr} {p pos : Pos}
end
end Lk

set_option Elab.async false
set_option linter.all false
set_option autoImplicit false
set_option maxRecDepth 100000
set_option maxHeartbeats 4000000
/-! math.lcm of two -/
namespace Lk
open PySem PySem.Spec PyProof.Rows L2
section
variable {X : Cx} {Γ : G}
end
end Lk

set_option Elab.async false
set_option linter.all false
set_option autoImplicit false
set_option maxRecDepth 100000
set_option maxHeartbeats 4000000
/-! sum of a list whose items have a + of their own -/
namespace Lk
open PySem PySem.Spec PyProof.Rows L2
section
variable {X : Cx} {Γ : G} {pins : List (Addr × Obj)} {σ : L2.St} {H : Hp} {s : Shared} {A1 : Around} {k : Nat} {E : Value → Shared → Prop} {Q : VK}
end
end Lk

set_option Elab.async false
set_option linter.all false
set_option autoImplicit false
set_option maxRecDepth 100000
set_option maxHeartbeats 4000000
/-! the loop of sum -/
namespace Lk
open PySem PySem.Spec PyProof.Rows L2
section
variable {X : Cx} {Γ : G} {pins : List (Addr × Obj)} {σ : L2.St} {H : Hp} {s : Shared} {A1 : Around} {k : Nat} {Q : VK}
end
end Lk

set_option Elab.async false
set_option linter.all false
set_option autoImplicit false
set_option maxRecDepth 100000
set_option maxHeartbeats 4000000
/-! the mirror of such a sum -/
namespace Lk
open PySem PySem.Spec PyProof.Rows L2
section
variable {Γ : G} {W : WX} {σ : L2.St} {Q : VK}
end
end Lk

set_option Elab.async false
set_option linter.all false
set_option autoImplicit false
set_option maxRecDepth 100000
set_option maxHeartbeats 4000000
/-! comprehensions of two fors -/
namespace Lk
open PySem PySem.Spec PyProof.Rows L2
section
variable {Γ : G} {W : WX} {X : Cx} {f : List Addr} {H : Hp} {S : Store}
end
end Lk

set_option Elab.async false
set_option linter.all false
set_option autoImplicit false
set_option maxRecDepth 100000
set_option maxHeartbeats 4000000
/-! dicts: read, in, get, setdefault, written -/
namespace Lk
open PySem PySem.Spec PyProof.Rows L2
section
variable {Γ : G} {W : WX} {X : Cx} {f : List Addr} {H : Hp} {S : Store}
theorem RpL.snoc : ∀ {ds : List D} {vs : List V} {d : D} {v : V}, RpL Γ f H ds vs → Rp Γ f H d v → RpL Γ f H (ds ++ [d]) (vs ++ [v]) := fun r q => r.append (by simp only [RpL]; exact ⟨_, [], rfl, q, rfl⟩)
/-! ### d[k] -/
/-! ### k in d -/
/-! ### d.get, d.setdefault -/
/-! ### d[k] = v -/
end
end Lk

set_option Elab.async false
set_option linter.all false
set_option autoImplicit false
set_option maxRecDepth 100000
set_option maxHeartbeats 4000000
/-! list(d.values()) -/
namespace Lk
open PySem PySem.Spec PyProof.Rows L2
section
variable {Γ : G} {W : WX} {X : Cx} {f : List Addr} {H : Hp} {S : Store} {e : Expr} {te : TE} {p apos cpos pos : Pos}
end
end Lk

set_option Elab.async false
set_option linter.all false
set_option autoImplicit false
set_option maxRecDepth 100000
set_option maxHeartbeats 4000000
/-! a, b = c, d; tuple(range(..)) -/
namespace Lk
open PySem PySem.Spec PyProof.Rows L2
section
variable {Γ : G} {W : WX} {X : Cx} {f : List Addr} {S : Store} {H : Hp} {a b e : Expr} {p p0 p1 p2 p3 pos : Pos} {ma mb me : ME}
end
end Lk

set_option Elab.async false
set_option linter.all false
set_option autoImplicit false
set_option maxRecDepth 100000
set_option maxHeartbeats 4000000
/-! xs.pop(i) -/
namespace Lk
open PySem PySem.Spec PyProof.Rows L2
section
variable {Γ : G} {W : WX} {X : Cx} {f : List Addr} {S : Store} {H : Hp}
theorem RpL.erase : ∀ {ds : List D} {vs : List V} (k : Nat), RpL Γ f H ds vs → RpL Γ f H (ds.eraseIdx k) (vs.eraseIdx k)
  | [], _, k, r => by
    simp only [RpL] at r
    subst r
    simp only [List.eraseIdx_nil, RpL]
  | d :: ds, _, k, r => by
    simp only [RpL] at r
    obtain ⟨v, vr, e, r1, r2⟩ := r
    subst e
    cases k with
    | zero => simpa only [List.eraseIdx_cons_zero] using r2
    | succ k =>
      simp only [List.eraseIdx_cons_succ, RpL]
      exact ⟨v, _, rfl, r1, RpL.erase k r2⟩
end
end Lk

set_option Elab.async false
set_option linter.all false
set_option autoImplicit false
set_option maxRecDepth 100000
set_option maxHeartbeats 4000000
/-! try .. except C, without a name -/
namespace Lk
open PySem PySem.Spec PyProof.Rows L2
section
variable {Γ : G} {W : WX} {X : Cx} {C : Str} {body suite : List Stmt} {b₀ : Stmt} {np pos pos' : Pos} {mb ms : MS} {sb : Str → Option Bool}
end
end Lk

set_option Elab.async false
set_option linter.all false
set_option autoImplicit false
set_option maxRecDepth 100000
set_option maxHeartbeats 4000000
/-! != by an own ==, whatever stands on the right -/
namespace Lk
open PySem PySem.Spec PyProof.Rows L2 PySem.W
section
variable {prog : Program} {w : World} {A : Around} {E : Value → Shared → Prop} {h : Heap} {g : Array GenState} {d : Drawn} {t : Nat} {os : OsState} {C x f : Addr} {B : String} {bm : List Value} {b : Value}
end
section
variable {prog : Program} {w : World} {A : Around} {E : Value → Shared → Prop} {s : Shared} {K : PySem.W.Frag} {C x : Addr} {b : Value} {tb : Value} {ox : Obj} {od : Option Obj}
end
section
variable {Γ : G} {W : WX} {X : Cx} {f : List Addr} {S : Store} {H : Hp} {cs : List Str}
end
end Lk

set_option Elab.async false
set_option linter.all false
set_option autoImplicit false
set_option maxRecDepth 100000
set_option maxHeartbeats 4000000
/-! a def that raises nothing, called where an error is handled -/
namespace Lk
open PySem PySem.Spec PyProof.Rows L2
theorem fnQ_ok {P : Program} {w : World} {K : PySem.W.Frag} {mg : Str → Option Value} {base : Heap} {CX : CXT} {x qual : Str} {params : Arguments} {body : List Stmt} {scope : Scope} {kws : List (Str × V)} {f : Addr} {fd : FuncData} {N ps : List Str} {k : Nat} {sp : Sp} (F : FunD K x qual params body scope [] kws f fd) (Sc : FnScope N ps scope) (many : ∀ vs H Q E, sp vs H Q E → vs.length = ps.length)
    (hb : ∀ (cdv : Value) (A : Around) (out : List PySem.Env) (s : Shared) (H : Hp) (vs : List V) (Q : VK) (E : XK) (p : Addr × Obj), L2H.RoomH k (A.deeper (envOfC qual scope s.heap.objs.size f cdv)) → sp vs H Q E → ∃ t, PSs (L2H.cxH CX P w K mg base N qual scope f cdv A out s H E p) body t ∧ t { nx := fun _ H' => Q .non H', rt := Q } (L2.start N vs) H) : FnQ P w K mg base CX (k + 1) f fd ps sp := by
  obtain ⟨_, _, _, _, _, _, _, cdv, _, _, rfl, look, code, _, _⟩ := F.ex
  constructor
  · exact many
  · intro A out s H as us vs Q E p room pin e0 bind rel spec
    have KI : K.In s.heap := e0.mod.kin.keeps fun c o z => (e0.bs c o z).1
    have nl : s.heap.NoLimit := e0.mod.nolimit.keeps fun c o z => (e0.bs c o z).1
    have kinds : ∀ z ∈ ps.zip us, scope.names.lookup z.1 = some .local ∨ (scope.names.lookup z.1 = some .cell ∧ ((cellsFrom (s.heap.objs.size + 1) scope.names []).lookup z.1).isSome = true) := by
      rintro ⟨nm, u⟩ hz
      rcases Sc.par nm (List.of_mem_zip hz).1 with c | c
      · exact .inl c
      · exact .inr ⟨c, PySem.W.cellsFrom_some _ _ _ (.inl c)⟩
    refine codeAny_call_function room.depth (KI _ _ look) rfl Sc.co Sc.gen rfl (PySem.W.codeRec_of KI code) (bind _ _ _ _ (wpAny_newFunctionEnv_cells Sc.kind kinds fun env ev s1 inC => ?_))
    subst ev
    refine ⟨nl.keeps inC.toInCall.keep, codeAny_func ?_⟩
    obtain ⟨t, pb, ht⟩ := hb cdv A out s H vs Q E p (room.deeper _) spec
    have J : L2.Inv (L2H.cxH CX P w K mg base N qual scope f cdv A out s H E p) [] (L2.start N vs) H s1 := L2H.inv_startH Sc pin e0 (many _ _ _ _ spec) rel inC
    refine wpAny_mono (pb.run [] s1 (L2.start N vs) H _ J ht) ?_ fun _ _ z => z
    intro fl s2 h2
    cases fl with
    | brk => exact h2.elim fun _ ⟨_, _, z⟩ => z.elim
    | cont => exact h2.elim fun _ ⟨_, _, z⟩ => z.elim
    | next => exact h2.elim fun _ ⟨H', J', q⟩ => ⟨V.non, H', J'.os, J'.bare, J'.base, J'.hok, rfl, q⟩
    | ret u => exact h2.elim fun v ⟨_, H', J', rv, q⟩ => ⟨v, H', J'.os, J'.bare, J'.base, J'.hok, rv, q⟩
theorem okQ_def {Γ : G} {P : Program} {w : World} {mg : Str → Option Value} {base : Heap} (hx : Γ.xc = none) {x qual : Str} {params : Arguments} {body : List Stmt} {scope : Scope} {kws : List (Str × V)} {f : Addr} {fd : FuncData} {N ps : List Str} {k n : Nat} {m : MS} (F : FunD Γ.K x qual params body scope [] kws f fd) (Sc : FnScope N ps scope) (hn : N.length = n)
    (hb : ∀ (cdv : Value) (A : Around) (out : List PySem.Env) (s : Shared) (H : Hp) (E : XK) (p : Addr × Obj), L2H.RoomH k (A.deeper (envOfC qual scope s.heap.objs.size f cdv)) → PSs (L2H.cxH (L2.CX P w) P w Γ.K mg base N qual scope f cdv A out s H E p) body (tS Γ (WF E) m)) : FnQ P w Γ.K mg base (L2.CX P w) (k + 1) f fd ps (spOf Γ ps.length (mDef n m)) :=
  fnQ_ok F Sc (fun _ _ _ _ h => h.1) fun cdv A out s H vs Q E p hr h => ⟨_, hb cdv A out s H E p hr, def_core hx hn h⟩
section
variable {Γ : G} {W : WX} {X : Cx} {a : Expr} {es : List Expr} {mr : MA} {p pos : Pos} {x : Str} {fA : Addr} {fd : FuncData} {ps : List Str} {k n : Nat} {m : List D → Store → R D} {e0 : Addr} {i : Nat} {E : Str} {ds : List D} {o : Option Addr}
theorem pe_callQ {CX : CXT} {sp : Sp} {E : L2.St → XK} {t : TA} (F : FnQ X.prog X.w X.K X.mg X.base CX k fA fd ps sp) (hr : L2H.RoomH k X.A) {pp : Addr × Obj} (hp : pp ∈ X.pn) (hg : Gl X x) (hm : X.mg x = some (.ref fA)) (hk : PySem.W.keepIn X.K (.ref fA) = true) (hb : Binds X.K fd ps []) (hx : ∀ σ, PassesAt CX X σ (E σ))
    (ha : PA X (a :: es) t) (hdb : (x == ("__debug__" : Str)) = false := by decide) (he : starEach (a :: es) X.env = (false, eval a X.env) :: starEach es X.env := by rfl) (hpl : (backTo pos (starEach es X.env)).any (·.1) = false := by rfl) : PE X (.Call (.Name x p) (a :: es) [] pos) (tCallS sp E t) := by
  constructor
  intro pins s σ H Q I h
  refine wpAny_Call_Name_kw (ld_glob I hg hm (PySem.W.callWith_K (h₀ := X.base) I.ok.mod.kin hk (thn (ha.run pos pins s σ H _ I h) ?_) he hpl) hdb)
  rintro us s1 ⟨vs, H1, J, rel, spec⟩
  refine ⟨J.kIn, ?_⟩
  have hl : us.length = ps.length := by rw [← rel.length]; exact F.many _ _ _ _ spec
  have bnd := hb s1 us J.kIn (by rw [List.append_nil]; exact hl)
  rw [List.append_nil] at bnd
  have P1 := J.pin pp (List.mem_append_left _ hp)
  have pin : L2H.PinOk X.stack H1 s1 pp := ⟨P1.1, P1.2.1, fun z => (List.mem_cons.mp (J.stkSub pp.1 z)).elim P1.2.2.1 P1.2.2.2.1, P1.2.2.2.2⟩
  refine wpAny_call (codeAny_mono (F.goes X.A X.stack s1 H1 ⟨us, []⟩ us vs Q (E σ) pp hr pin J.env0 bnd rel spec) ?_)
  intro r s2 hq
  cases r with
  | error z => exact hx σ pins H1 s1 z s2 J hq
  | ok fl =>
    cases fl with
    | ret u => exact J.after hq
    | next => exact hq.elim
    | brk => exact hq.elim
    | cont => exact hq.elim
theorem rH {j l : Nat} {A : Around} {h : Option Value} (r : Room j A) (hl : l ≤ j) : L2H.RoomH l (A.mark h) := ⟨by have := r.dp; show A.depth + _ + _ < _; omega, by have := r.un; show A.units + _ + _ < _; omega⟩
theorem q_callQ (hx : Γ.xc = none) (F : FnQ X.prog X.w X.K X.mg X.base (L2.CX X.prog X.w) k fA fd ps (spOf Γ n m)) (hr : L2H.RoomH k X.A) {pp : Addr × Obj} (hp : pp ∈ X.pn) (hm : X.mg x = some (.ref fA)) (hk : PySem.W.keepIn X.K (.ref fA) = true) (hb : Binds X.K fd ps []) (tk : Takes X W) (ha : PA X (a :: es) (tA (Γ.at_ e0 i E ds o) W mr)) (hg : Gl X x := by rfl)
    (hdb : (x == ("__debug__" : Str)) = false := by decide) (he : starEach (a :: es) X.env = (false, eval a X.env) :: starEach es X.env := by rfl) (hpl : (backTo pos (starEach es X.env)).any (·.1) = false := by rfl) :
    PE X (.Call (.Name x p) (a :: es) [] pos) (tE (Γ.at_ e0 i E ds o) W (mCall n m mr)) := PE.imp (pe_callQ F hr hp hg hm hk hb (fun σ => passAt tk σ) ha hdb he hpl) fun σ H Q ⟨env, S, f, rs, re, h⟩ => ⟨env, S, f, rs, re, Wp.bindL h fun xs S1 f1 H1 vs u1 rs1 r1 h1 => spOfX hx rs1 r1 h1⟩
end
end Lk

/-! a comprehension in a comprehension -/
namespace Lk
open PySem PySem.Spec L2
end Lk

set_option Elab.async false
set_option linter.all false
set_option autoImplicit false
set_option maxRecDepth 100000
set_option maxHeartbeats 4000000
/-! facts about mirrors alone, for every law -/
namespace Lk
open PySem L2
theorem lcGo_n {g : Tg} {mt : MT} {me : ME} {env : Lk.Env} {p : Nat} {S : Store} : lcGo (fun _ => True) g mt me env p [] S = .ok (.ref p) S := by unfold lcGo; exact if_pos trivial
/-- a comprehension whose element is a plain function of the item -/
theorem lc_map {i : Nat} {me : ME} {env : Lk.Env} {S : Store} (h : D → D) : ∀ (ds acc : List D), acc.length + ds.length ≤ lim → (∀ d ∈ ds, ∀ a : List D, me (env.set i (some d)) (S ++ [.lst a]) = .ok (h d) (S ++ [.lst a])) →
    lcGo (fun _ => True) (.nm i) mYes me env S.length ds (S ++ [.lst acc]) = .ok (.ref S.length) (S ++ [.lst (acc ++ ds.map h)])
  | [], acc, hl, hm => by rw [lcGo_n]; simp
  | d :: ds, acc, hl, hm => by
    have hl' : acc.length + (ds.length + 1) ≤ lim := by simpa using hl
    rw [lcGo, if_pos trivial]
    simp only [Tg.put, mYes]
    rw [hm d List.mem_cons_self acc]
    have g : (S ++ [Ob.lst acc])[S.length]? = some (.lst acc) := by simp
    have s : (S ++ [Ob.lst acc]).set S.length (.lst (acc ++ [h d])) = S ++ [.lst (acc ++ [h d])] := by simp
    simp only [g]
    rw [if_pos (by omega), s, lc_map h ds (acc ++ [h d]) (by simp; omega) fun d' hd a => hm d' (List.mem_cons_of_mem _ hd) a]
    simp
end Lk

set_option Elab.async false
set_option linter.all false
set_option autoImplicit false
set_option maxRecDepth 100000
set_option maxHeartbeats 4000000
/-! a comprehension with a test, over any source -/
namespace Lk
open PySem L2
end Lk

set_option Elab.async false
set_option linter.all false
set_option autoImplicit false
set_option maxRecDepth 100000
set_option maxHeartbeats 4000000
/-! comprehensions whose items are known but for a relation; loops that end early -/
namespace Lk
open PySem L2
theorem F2.get {P : D → D → Prop} : ∀ {ds rs : List D} {k : Nat} {d r : D}, F2 P ds rs → ds[k]? = some d → rs[k]? = some r → P d r
  | d :: ds, r :: rs, 0, _, _, h, h1, h2 => by
    simp at h1 h2
    rw [← h1, ← h2]; exact h.1
  | d :: ds, r :: rs, k + 1, _, _, h, h1, h2 => F2.get h.2 (by simpa using h1) (by simpa using h2)
  | [], [], _, _, _, _, h1, _ => by simp at h1
  | [], _ :: _, _, _, _, h, _, _ => h.elim
  | _ :: _, [], _, _, _, h, _, _ => h.elim
theorem lc_gen {gd : Store → Prop} {g : Tg} {me : ME} {env : Lk.Env} {S : Store} (P : D → D → Prop) (hgd : ∀ T, gd (S ++ T)) : ∀ (ds acc : List D), acc.length + ds.length ≤ lim →
    (∀ d ∈ ds, ∀ a : List D, ∃ e1 r, g.put d env = some e1 ∧ me e1 (S ++ [.lst a]) = .ok r (S ++ [.lst a]) ∧ P d r) →
    ∃ rs, lcGo gd g mYes me env S.length ds (S ++ [.lst acc]) = .ok (.ref S.length) (S ++ [.lst (acc ++ rs)]) ∧ F2 P ds rs
  | [], acc, hl, hm => ⟨[], by rw [lcGo, if_pos (hgd _)]; simp, trivial⟩
  | d :: ds, acc, hl, hm => by
    have hl' : acc.length + (ds.length + 1) ≤ lim := by simpa using hl
    obtain ⟨e1, r, hp, he, pr⟩ := hm d List.mem_cons_self acc
    obtain ⟨rs, e2, f2⟩ := lc_gen P hgd ds (acc ++ [r]) (by simp; omega) fun d' hd a => hm d' (List.mem_cons_of_mem _ hd) a
    refine ⟨r :: rs, ?_, pr, f2⟩
    rw [lcGo, if_pos (hgd _), hp]
    simp only [mYes]
    rw [he]
    have g : (S ++ [Ob.lst acc])[S.length]? = some (.lst acc) := by simp
    have s : (S ++ [Ob.lst acc]).set S.length (.lst (acc ++ [r])) = S ++ [.lst (acc ++ [r])] := by simp
    simp only [g]
    rw [if_pos (by omega), s, e2]
    simp
end Lk

set_option Elab.async false
set_option linter.all false
set_option autoImplicit false
set_option maxRecDepth 100000
set_option maxHeartbeats 4000000
/-! what a mirror's result is asked: a calculus of weakest demands -/
namespace Lk
open PySem L2
section
variable {α β : Type} {Q : α → Store → Prop} {X : XP} {P : Po}
theorem w_ex {C : Str} {ds : List D} {S : Store} : Wr (.ex C ds S) Q X = X C ds S := wr_def
theorem Wr.mono {Q' : α → Store → Prop} {X' : XP} {r : R α} (h : Wr r Q X) (hq : ∀ a S, Q a S → Q' a S) (hx : ∀ C ds S, X C ds S → X' C ds S) : Wr r Q' X' := by
  cases r with
  | ok a S => exact ⟨hq _ _ h.out⟩
  | ex C ds S => exact ⟨hx _ _ _ h.out⟩
  | bad => exact ⟨h.out⟩
theorem Wr.to {Q' : α → Store → Prop} {X' : XP} {r : R α} (h : Wr r Q noX) (hq : ∀ a S, Q a S → Q' a S) : Wr r Q' X' := h.mono hq fun _ _ _ h => h.elim
theorem Wr.get {r : R α} (h : Wr r Q noX) : ∃ a S, r = .ok a S ∧ Q a S := by
  cases r with
  | ok a S => exact ⟨a, S, rfl, h.out⟩
  | ex C ds S => exact (show False from h.out).elim
  | bad => exact (show False from h.out).elim
theorem Ws.mono {P' : Po} {r : RS} (h : Ws r P) (h1 : ∀ e S, P.nx e S → P'.nx e S) (h2 : ∀ d S, P.rt d S → P'.rt d S) (h3 : ∀ e S, P.bk e S → P'.bk e S) (h4 : ∀ e S, P.ct e S → P'.ct e S) (h5 : ∀ C ds e S, P.ex C ds e S → P'.ex C ds e S) : Ws r P' := by
  cases r with
  | nx e S => exact ⟨h1 _ _ h.out⟩
  | rt d S => exact ⟨h2 _ _ h.out⟩
  | bk e S => exact ⟨h3 _ _ h.out⟩
  | ct e S => exact ⟨h4 _ _ h.out⟩
  | ex C ds e S => exact ⟨h5 _ _ _ _ h.out⟩
  | bad => exact ⟨h.out⟩
theorem ws_seq {a b : MS} {env : Env} {S : Store} (h : Ws (a env S) ⟨fun e S' => Ws (b e S') P, P.rt, P.bk, P.ct, P.ex⟩) : Ws (mSeq a b env S) P := by
  unfold mSeq
  cases q : a env S with
  | nx e S1 => rw [q] at h; exact h.out
  | rt e S1 => rw [q] at h; exact ⟨h.out⟩
  | bk e S1 => rw [q] at h; exact ⟨h.out⟩
  | ct e S1 => rw [q] at h; exact ⟨h.out⟩
  | ex C ds e S1 => rw [q] at h; exact ⟨h.out⟩
  | bad => rw [q] at h; exact ⟨h.out⟩
end
section
variable {Q : D → Store → Prop} {X : XP} {P : Po}
theorem w_def {n : Nat} {m : MS} {ds : List D} {S : Store} (h : Ws (m (ds.map some ++ List.replicate (n - ds.length) none) S) ⟨fun _ S' => Wr (gc S .non S') Q X, fun d S' => Wr (gc S d S') Q X, fun _ _ => False, fun _ _ => False, fun C xs _ S' => Wr (gcX S C xs S') Q X⟩) : Wr (mDef n m ds S) Q X := by
  unfold mDef
  cases q : m (ds.map some ++ List.replicate (n - ds.length) none) S with
  | nx e S1 => rw [q] at h; exact h.out
  | rt e S1 => rw [q] at h; exact h.out
  | bk e S1 => rw [q] at h; exact (show False from h.out).elim
  | ct e S1 => rw [q] at h; exact (show False from h.out).elim
  | ex C ds e S1 => rw [q] at h; exact h.out
  | bad => rw [q] at h; exact (show False from h.out).elim
theorem w_gc_self {d : D} {S : Store} : Wr (gc S d S) Q X = Q d S := by rw [gc_self]; exact wr_def
theorem w_gc {d : D} {S S' : Store} (h1 : Q d S') (h2 : d.cl S.length = true → S'.take S.length = S → Q d S) : Wr (gc S d S') Q X := by
  unfold gc
  split
  · rename_i c
    exact ⟨h2 c.1 c.2⟩
  · exact ⟨h1⟩
theorem w_gc_cl {d : D} {S T : Store} (hc : d.cl S.length = true) (h : Q d S) : Wr (gc S d (S ++ T)) Q X := by rw [gc_ok hc]; exact ⟨h⟩
theorem w_gc_take {d : D} {S S' : Store} (hc : d.cl S.length = true) (ht : S'.take S.length = S) (h : Q d S) : Wr (gc S d S') Q X := by
  unfold gc
  rw [if_pos ⟨hc, ht⟩]
  exact ⟨h⟩
theorem w_gc_new {p : Nat} {S S' : Store} (hp : S.length ≤ p) (h : Q (.ref p) S') : Wr (gc S (.ref p) S') Q X := w_gc h fun hc _ => by
  simp only [D.cl, decide_eq_true_eq] at hc
  omega
theorem w_gcX {C : Str} {ds : List D} {S S' : Store} (hc : clL S.length ds = true) (ht : S'.take S.length = S) (h : X C ds S) : Wr (gcX S C ds S') Q X := by
  unfold gcX
  rw [if_pos ⟨hc, ht⟩]
  exact ⟨h⟩
/-- loops -/
theorem w_forR {gd : Store → Prop} {g : MG} {mb : MS} (I : List D → Env → Store → Prop) (fin : ∀ env S, I [] env S → gd S ∧ P.nx env S) :
    ∀ (ds : List D), (∀ d ds' env S, (∃ pre, ds = pre ++ d :: ds') → I (d :: ds') env S → gd S ∧ Wr (g d env S) (fun e1 S1 => Ws (mb e1 S1) ⟨I ds', P.rt, P.nx, I ds', P.ex⟩) noX) → ∀ (env : Env) (S : Store), I ds env S → Ws (forGo gd g mb ds env S) P
  | [], step, env, S, h => by
    obtain ⟨h1, h2⟩ := fin env S h
    rw [forGo, if_pos h1]
    exact ⟨h2⟩
  | d :: ds, step, env, S, h => by
    obtain ⟨h1, h2⟩ := step d ds env S ⟨[], rfl⟩ h
    rw [forGo, if_pos h1]
    obtain ⟨e1, S1, q, h3⟩ := h2.get
    rw [q]
    dsimp only
    have ih := w_forR I fin ds fun d' ds' env S ⟨pre, e⟩ => step d' ds' env S ⟨d :: pre, by rw [e]; rfl⟩
    cases q2 : mb e1 S1 with
    | nx e2 S2 => rw [q2] at h3; exact ih e2 S2 h3.out
    | ct e2 S2 => rw [q2] at h3; exact ih e2 S2 h3.out
    | bk e2 S2 => rw [q2] at h3; exact ⟨h3.out⟩
    | rt d S2 => rw [q2] at h3; exact ⟨h3.out⟩
    | ex C xs e2 S2 => rw [q2] at h3; exact ⟨h3.out⟩
    | bad => rw [q2] at h3; exact ⟨h3.out⟩
theorem w_for {gd : Store → Prop} {g : MG} {mb : MS} {ds : List D} {env : Env} {S : Store} (I : Nat → Env → Store → Prop) (h0 : I 0 env S)
    (step : ∀ k d env S, ds[k]? = some d → I k env S → gd S ∧ Wr (g d env S) (fun e1 S1 => Ws (mb e1 S1) ⟨I (k + 1), P.rt, P.nx, I (k + 1), P.ex⟩) noX)
    (fin : ∀ env S, I ds.length env S → gd S ∧ P.nx env S) : Ws (forGo gd g mb ds env S) P := by
  have key := w_forR (P := P) (gd := gd) (g := g) (mb := mb) (fun l env S => l.length ≤ ds.length ∧ I (ds.length - l.length) env S) (fun env S h => fin env S (by simpa using h.2)) ds (fun d ds' env S ⟨pre, e⟩ h => by
    have hk : ds[ds.length - (d :: ds').length]? = some d := by
      have : ds.length - (d :: ds').length = pre.length := by rw [e]; simp
      rw [this, e]
      simp
    obtain ⟨h1, h2⟩ := step _ d env S hk h.2
    have e2 : ds.length - (d :: ds').length + 1 = ds.length - ds'.length := by
      rw [e]; simp; omega
    have hl : ds'.length ≤ ds.length := by rw [e]; simp; omega
    refine ⟨h1, h2.to fun e1 S1 h3 => h3.mono (fun e S h => ⟨hl, ?_⟩) (fun _ _ h => h) (fun _ _ h => h) (fun e S h => ⟨hl, ?_⟩) (fun _ _ _ _ h => h)⟩
    · rw [← e2]; exact h
    · rw [← e2]; exact h)
  exact key env S ⟨Nat.le_refl _, by simpa using h0⟩
/-- comprehensions -/
theorem w_lcGo {gd : Store → Prop} {g : Tg} {mt : MT} {me : ME} {env : Env} {p : Nat} (J : List D → List D → Store → Prop)
    (fin : ∀ rs S, J [] rs S → S[p]? = some (.lst rs) → gd S ∧ Q (.ref p) S) : ∀ (ds rs : List D) (S : Store), rs.length + ds.length ≤ lim →
    (∀ d ds' rs S, (∃ pre, ds = pre ++ d :: ds') → J (d :: ds') rs S → S[p]? = some (.lst rs) → gd S ∧ ∃ e1, g.put d env = some e1 ∧ Wr (mt e1 S) (fun c S2 => if c = true then Wr (me e1 S2) (fun y S3 => S3[p]? = some (.lst rs) ∧ J ds' (rs ++ [y]) (S3.set p (.lst (rs ++ [y])))) noX else S2[p]? = some (.lst rs) ∧ J ds' rs S2) noX) →
    J ds rs S → S[p]? = some (.lst rs) → Wr (lcGo gd g mt me env p ds S) Q X
  | [], rs, S, hl, step, h, hp => by
    obtain ⟨h1, h2⟩ := fin rs S h hp
    rw [lcGo, if_pos h1]
    exact ⟨h2⟩
  | d :: ds, rs, S, hl, step, h, hp => by
    obtain ⟨h1, e1, he, h2⟩ := step d ds rs S ⟨[], rfl⟩ h hp
    have hl' : rs.length + (ds.length + 1) ≤ lim := by simpa using hl
    have ih := fun rs S (hl : rs.length + ds.length ≤ lim) => w_lcGo J fin ds rs S hl fun d' ds' rs S ⟨pre, e⟩ => step d' ds' rs S ⟨d :: pre, by rw [e]; rfl⟩
    rw [lcGo, if_pos h1, he]
    dsimp only
    obtain ⟨c, S2, q, h3⟩ := h2.get
    rw [q]
    cases c with
    | true =>
      simp only [if_true] at h3
      obtain ⟨y, S3, q2, h4, h5⟩ := h3.get
      dsimp only
      rw [q2]
      dsimp only
      rw [h4]
      dsimp only
      rw [if_pos (by omega)]
      have hp3 : p < S3.length := by
        rcases Nat.lt_or_ge p S3.length with z | z
        · exact z
        · rw [List.getElem?_eq_none z] at h4; cases h4
      exact ih _ _ (by simp; omega) h5 (by simp [hp3])
    | false =>
      simp only [Bool.false_eq_true, if_false] at h3
      dsimp only
      exact ih _ _ (by omega) h3.2 h3.1
/-- .. whose element leaves the store: the results are in a relation to the items -/
theorem w_lcP {gd : Store → Prop} {g : Tg} {me : ME} {env : Env} {S : Store} {ds : List D} (R : D → D → Prop) (hgd : ∀ T, gd (S ++ T)) (hl : ds.length ≤ lim)
    (hm : ∀ d ∈ ds, ∀ a : List D, ∃ e1, g.put d env = some e1 ∧ Wr (me e1 (S ++ [.lst a])) (fun y S' => R d y ∧ S' = S ++ [.lst a]) noX)
    (h : ∀ rs, F2 R ds rs → Q (.ref S.length) (S ++ [.lst rs])) : Wr (lcGo gd g mYes me env S.length ds (S ++ [.lst []])) Q X := by
  obtain ⟨rs, e, f⟩ := lc_gen (gd := gd) (g := g) (me := me) (env := env) (S := S) R hgd ds [] (by simpa using hl) (fun d hd a => by
    obtain ⟨e1, h1, h2⟩ := hm d hd a
    obtain ⟨y, S', h3, h4, rfl⟩ := h2.get
    exact ⟨e1, y, h1, h3, h4⟩)
  rw [e, List.nil_append]
  exact ⟨h rs f⟩
theorem F2.map_eq {f : D → D} : ∀ {ds rs : List D}, F2 (fun d r => r = f d) ds rs → rs = ds.map f
  | [], [], _ => rfl
  | d :: ds, r :: rs, h => by rw [List.map_cons, h.1, F2.map_eq h.2]
  | [], _ :: _, h => h.elim
  | _ :: _, [], h => h.elim
theorem w_lcM {gd : Store → Prop} {g : Tg} {me : ME} {env : Env} {S : Store} {ds : List D} (f : D → D) (hgd : ∀ T, gd (S ++ T)) (hl : ds.length ≤ lim)
    (hm : ∀ d ∈ ds, ∀ a : List D, ∃ e1, g.put d env = some e1 ∧ Wr (me e1 (S ++ [.lst a])) (fun y S' => y = f d ∧ S' = S ++ [.lst a]) noX)
    (h : Q (.ref S.length) (S ++ [.lst (ds.map f)])) : Wr (lcGo gd g mYes me env S.length ds (S ++ [.lst []])) Q X :=
  w_lcP (fun d r => r = f d) hgd hl hm fun rs f2 => by rw [F2.map_eq f2]; exact h
end
/-- try, except as -/
theorem w_try {sb : Str → Option Bool} {i : Nat} {mb : MS} {ms : Str → List D → MS} {env : Env} {S : Store} {P : Po} (h : Ws (mb env S) ⟨P.nx, P.rt, P.bk, P.ct, fun C ds e S1 => ∃ b, sb C = some b ∧ if b = true then Ws (endAs i (ms C ds (e.set i none) S1)) P else P.ex C ds e S1⟩) : Ws (mTryAs sb i mb ms env S) P := by
  unfold mTryAs
  cases q : mb env S with
  | nx e S1 => rw [q] at h; exact ⟨h.out⟩
  | rt d S1 => rw [q] at h; exact ⟨h.out⟩
  | bk e S1 => rw [q] at h; exact ⟨h.out⟩
  | ct e S1 => rw [q] at h; exact ⟨h.out⟩
  | ex C ds e S1 =>
    rw [q] at h
    obtain ⟨b, hb, h⟩ := h.out
    dsimp only
    rw [hb]
    cases b with
    | true => exact h
    | false => exact ⟨h⟩
  | bad => rw [q] at h; exact (show False from h.out).elim
theorem w_endAs {i : Nat} {r : RS} {P : Po} (h : Ws r ⟨fun e S => P.nx (e.set i none) S, P.rt, fun e S => P.bk (e.set i none) S, fun e S => P.ct (e.set i none) S, fun _ _ _ _ => False⟩) : Ws (endAs i r) P := by
  cases r with
  | nx e S => exact ⟨h.out⟩
  | rt d S => exact ⟨h.out⟩
  | bk e S => exact ⟨h.out⟩
  | ct e S => exact ⟨h.out⟩
  | ex C ds e S => exact (show False from h.out).elim
  | bad => exact (show False from h.out).elim
/-! ints are compared as ints, whatever the classes -/
/-! indices written out -/
/-! each construct's demand, by lemmas (never by unfolding: the kernel would evaluate) -/
section
variable {α β : Type} {Q : D → Store → Prop} {QA : List D → Store → Prop} {QB : Bool → Store → Prop} {QE : Env → Store → Prop} {QS : Src → Store → Prop} {X : XP} {P : Po} {env : Env} {S : Store} {d x y : D}
theorem dBools_map : ∀ {bs : List Bool}, dBools (bs.map D.bl) = some bs
  | [] => rfl
  | b :: bs => by simp [dBools, dBools_map]
/-! ints -/
/-! sources -/
/-! targets -/
/-! statements -/
end
end Lk
local macro_rules | `(tactic| push_cast [$ts,*]) => `(tactic| simp only [Lk.v_0, Lk.v_s, Lk.v_C, Lk.v_nil, Lk.v_cons, Lk.v_m1, Lk.v_m2, Lk.v_mB, Lk.v_if, Lk.v_asB, Lk.v_test, Lk.v_andT, Lk.v_orT, Lk.v_notT, Lk.v_and, Lk.v_or, Lk.v_not, Lk.v_call, Lk.v_make, Lk.v_tup, Lk.v_lst, Lk.v_fld, Lk.v_ch2, Lk.v_ch3, Lk.v_BM, Lk.v_app, Lk.v_o0, Lk.v_o1, Lk.v_sl, Lk.v_slT, Lk.v_slR, Lk.v_ixT, Lk.v_ixL, Lk.v_ixR, Lk.v_lenR, Lk.v_lenT, Lk.v_lenL, Lk.v_tuT, Lk.v_tuL, Lk.v_tuR, Lk.v_liT, Lk.v_liL, Lk.v_liR, Lk.v_all, Lk.v_any, Lk.v_sum, Lk.v_add, Lk.v_addT, Lk.v_addR, Lk.v_sub, Lk.v_mul, Lk.v_div, Lk.v_mod, Lk.v_neg, Lk.v_cmp, Lk.v_eqZ, Lk.v_eqX, Lk.v_neX, Lk.v_isN, Lk.v_notN, Lk.n_non, Lk.n_int, Lk.n_bl, Lk.n_str, Lk.n_tup, Lk.n_rol, Lk.n_ref, Lk.n_ins, Lk.v_int, Lk.v_intB, Lk.v_abs, Lk.v_max2, Lk.v_min2, Lk.v_gcd, Lk.v_seq, Lk.v_srcT, Lk.v_srcL, Lk.v_srcR, Lk.s_vi, Lk.s_vg, Lk.s_li, Lk.s_lg, Lk.v_rng1, Lk.v_enu, Lk.v_enuT, Lk.v_enuL, Lk.v_enuR, Lk.v_zip, Lk.v_lc, Lk.wi_0, Lk.wi_s, Lk.v_gS, Lk.v_gU, Lk.v_gN, Lk.v_gC, Lk.v_gI, Lk.v_st, Lk.v_xis, Lk.v_xfl, List.getElem?_cons_succ, List.getElem?_cons_zero, Lk.u_set, Lk.u_ret, Lk.u_retN, Lk.u_drop, Lk.u_next, Lk.u_brk, Lk.u_cont, Lk.u_asg, Lk.u_for, Lk.u_while, Lk.u_r1, Lk.u_r0, Lk.w_if, Lk.w_ok, Lk.e_s, Lk.e_0, Lk.l_0, Lk.l_1, Lk.l_2, Lk.l_3, Lk.l_4, Lk.l_5, Lk.l_6, List.map_cons, List.map_nil, List.cons_append, List.nil_append, List.length_cons, List.length_nil, List.replicate, Nat.reduceAdd, Nat.reduceSub, Nat.zero_add, reduceIte, Bool.false_eq_true, if_true, if_false, decide_eq_true_eq, Lk.bne_dec, ne_eq, not_false_eq_true, not_true_eq_false, true_and, and_true, Bool.not_true, Bool.not_false, Option.some.injEq, Lk.Ob.lst.injEq, Lk.D.ref.injEq, Lk.D.int.injEq, Lk.l1_eq, exists_eq_left', reduceCtorEq, false_and, exists_false, or_false, false_or, Lk.ati0, Lk.ati1, Lk.ati2, Lk.ati3, Lk.ati4, Int.toNat_natCast, $ts,*])

set_option Elab.async false
set_option linter.all false
set_option autoImplicit false
set_option maxRecDepth 100000
set_option maxHeartbeats 4000000
/-! data by value, compared -/
namespace Lk
open PySem L2
/-- what compares as plain data: a value, or a list in the store -/
def Dat (S : Store) (d : D) (p : PyData) : Prop := (okP 11 d = true ∧ p = toP d) ∨ ∃ n xs, d = .ref n ∧ S[n]? = some (.lst xs) ∧ okPL 10 xs = true ∧ p = .list (toPL xs)
theorem Dat.py {S : Store} {d : D} {p : PyData} (h : Dat S d p) : pyD S 12 d = some p ∧ SeqAt.shaped p = true ∧ (∀ C ds, d ≠ .ins C ds) ∧ ∀ n kvs, d = .ref n → S[n]? ≠ some (.dk kvs) := by
  rcases h with ⟨h, rfl⟩ | ⟨n, xs, rfl, hn, h, rfl⟩
  · obtain ⟨h1, h2, h3⟩ := okP_py (S := S) 11 d h
    have h4 : (toP d).depth ≤ 64 := by omega
    refine ⟨h1, by simp [SeqAt.shaped, h2, h4], fun C ds e => ?_, fun n kvs e => ?_⟩
    · subst e; simp [okP] at h
    · subst e; simp [okP] at h
  · obtain ⟨h1, h2, h3⟩ := okPL_py (S := S) 10 xs h
    have h4 : (PyData.list (toPL xs)).depth ≤ 64 := by simp only [PyData.depth]; omega
    have h5 : (PyData.list (toPL xs)).canLay0 = true := by simpa only [PyData.canLay0] using h2
    refine ⟨by show (match S[n]? with | some (.lst ds) => (ds.mapM (pyD S 11)).map PyData.list | _ => none) = _; rw [hn]; show (xs.mapM (pyD S 11)).map PyData.list = _; rw [h1]; rfl, by simp [SeqAt.shaped, h5, h4], (fun C ds e => by cases e), fun m kvs e => ?_⟩
    cases e
    rw [hn]
    simp
theorem Dat.eqD {S : Store} {x y : D} {p q : PyData} (h : Dat S x p) (h' : Dat S y q) : eqData S x y = some (PyData.eqv p q) := by
  obtain ⟨a1, a2, _, _⟩ := h.py
  obtain ⟨b1, b2, _, _⟩ := h'.py
  unfold eqData
  rw [a1, b1]
  simp [a2, b2]
theorem Dat.eqX {cs : List Str} {oe : Str → Option (List D → Store → R D)} {S : Store} {x y : D} {p q : PyData} (h : Dat S x p) (h' : Dat S y q) : gEqX cs oe x y S = .ok (.bl (PyData.eqv p q)) S := by
  unfold gEqX
  split
  · rename_i C xs
    exact absurd rfl (h.py.2.2.1 C xs)
  · rw [h.eqD h']
theorem Dat.eqZ {cs : List Str} {oe : Str → Option (List D → Store → R D)} {S : Store} {x y : D} {p q : PyData} (h : Dat S x p) (h' : Dat S y q) : gEqZ cs oe x y S = .ok (.bl (PyData.eqv p q)) S := by
  unfold gEqZ
  split
  · rename_i n m
    split
    · rename_i kvs hk
      exact absurd hk (h.py.2.2.2 _ _ rfl)
    · exact h.eqX h'
  · exact h.eqX h'
theorem Dat.ne {oe : Str → Option (List D → Store → R D)} {S : Store} {x y : D} {p q : PyData} (h : Dat S x p) (h' : Dat S y q) : gNeX oe x y S = .ok (.bl (!PyData.eqv p q)) S := by
  have e : gNe x y S = .ok (.bl (!PyData.eqv p q)) S := by
    unfold gNe
    rw [h.eqD h']
  unfold gNeX
  split
  · rename_i C xs C' ys
    exact absurd rfl (h.py.2.2.1 C xs)
  · exact e
theorem Dat.val {S : Store} {d : D} (h : okP 11 d = true) : Dat S d (toP d) := .inl ⟨h, rfl⟩
theorem Dat.lst {S : Store} {n : Nat} {xs : List D} (hn : S[n]? = some (.lst xs)) (h : okPL 10 xs = true) : Dat S (.ref n) (.list (toPL xs)) := .inr ⟨n, xs, rfl, hn, h, rfl⟩
/-! without flags: equal as data, equal -/
theorem eqv_dec {x y : D} {p : Prop} [Decidable p] (hx : okC x = true) (hy : okC y = true) (h : x = y ↔ p) : PyData.eqv (toP x) (toP y) = decide p := by
  by_cases c : p
  · rw [decide_eq_true c]
    exact (eqv_c x y hx hy).mpr (h.mpr c)
  · rw [decide_eq_false c]
    exact eq_false_of_ne_true fun z => c (h.mp ((eqv_c x y hx hy).mp z))
theorem cut_take {xs : List D} {i : Int} (h : 0 ≤ i) : cutD xs none (some i) = xs.take i.toNat := by
  obtain ⟨k, rfl⟩ : ∃ k : Nat, i = (k : Nat) := ⟨i.toNat, by omega⟩
  unfold cutD
  rw [HT.sIx_nat, HT.sIx_none, Int.toNat_natCast, List.drop_zero, Nat.sub_zero]
  rcases Nat.le_total k xs.length with z | z
  · rw [Nat.min_eq_left z]
  · rw [Nat.min_eq_right z, List.take_length, List.take_of_length_le z]
theorem cut_drop {xs : List D} {i : Int} (h : 0 ≤ i) : cutD xs (some i) none = xs.drop i.toNat := by
  obtain ⟨k, rfl⟩ : ∃ k : Nat, i = (k : Nat) := ⟨i.toNat, by omega⟩
  unfold cutD
  rw [HT.sIx_nat, HT.sIx_none, Int.toNat_natCast]
  rcases Nat.le_total k xs.length with z | z
  · rw [Nat.min_eq_left z]
    exact List.take_of_length_le (by simp)
  · rw [Nat.min_eq_right z, List.drop_length, List.drop_of_length_le z, List.take_nil]
end Lk

set_option Elab.async false
set_option linter.all false
set_option autoImplicit false
set_option maxRecDepth 100000
set_option maxHeartbeats 4000000
/-! a result told outright; loops written out; lcm, min, max of lists -/
namespace Lk
open PySem L2
theorem Wr.eq {r : R D} {d : D} {S : Store} (h : Wr r (fun d' S' => d' = d ∧ S' = S) noX) : r = .ok d S := by
  obtain ⟨d', S', e, rfl, rfl⟩ := h.get
  exact e
section
variable {Q : D → Store → Prop} {X : XP} {P : Po} {S : Store} {env : Env}
end
end Lk
namespace Lk
open PySem L2
section
variable {QS : Src → Store → Prop} {X : XP} {S : Store} {env : Env}
theorem v_rng2 {a b : ME} : Wr (iRng2' (mCons a (mCons b mNil)) env S) QS X = Wr (a env S) (fun x S1 => Wr (b env S1) (fun y S2 => ∃ i, x = .int i ∧ ∃ j, y = .int j ∧ bd i ∧ bd j ∧ QS (vals (rngI i (j - i).toNat)) S2) X) X := by
  show Wr (R.bind _ _) _ _ = _
  rw [w_bind, v_cons]
  congr 1
  funext x S1
  rw [v_cons]
  congr 1
  funext y S2
  rw [v_nil]
  cases x with
  | int i => cases y with
    | int j => by_cases h1 : bd i <;> by_cases h2 : bd j <;> simp [h1, h2, wr_def, WrD]
    | _ => simp [wr_def, WrD]
  | _ => cases y <;> simp [wr_def, WrD]
theorem v_srcZ {x y : D} {xs ys : List D} {g g' : Store → Prop} (hx : seqOf x S = some (xs, g)) (hy : seqOf y S = some (ys, g')) : Wr (srcZ x y S) QS X = QS ⟨zipD xs ys, fun S => g S ∧ g' S⟩ S := by
  unfold srcZ
  rw [hx, hy]
  exact w_ok
end
theorem seq_tup {S : Store} {xs : List D} : seqOf (.tup xs) S = some (xs, fun _ => True) := rfl
end Lk

set_option Elab.async false
set_option linter.all false
set_option autoImplicit false
set_option maxRecDepth 100000
set_option maxHeartbeats 4000000
/-! the calculus: comprehensions of two fors, dicts, parallel assignment, tuple(range), pop(i), except without a name -/
namespace Lk
open PySem L2
section
variable {env : Env} {S : Store} {Q : D → Store → Prop} {QE : Env → Store → Prop} {X : XP} {P : Po} {d : D}
/-! dicts -/
/-! what a dict holds -/
/-! the rest -/
end
end Lk

set_option Elab.async false
set_option linter.all false
set_option autoImplicit false
set_option maxRecDepth 100000
set_option maxHeartbeats 4000000
/-! a value's truth; min and max over lists and tuples of plain data -/
namespace Lk
open PySem PySem.Spec PyProof.Rows L2
open PySem.W (dataLt AlikeAll minD maxD alike dataLt_int min_list_data max_list_data min_tuple_data max_tuple_data readsAll_at)
section
variable {Γ : G} {W : WX} {X : Cx} {f : List Addr} {H : Hp} {S : Store} {a : Expr} {ma : ME}
/-! ### min, max of plain data -/
theorem RpL.at' : ∀ {ds : List D} {vs : List V} {i : Nat} {v : V}, RpL Γ f H ds vs → vs[i]? = some v → ∃ d, ds[i]? = some d ∧ Rp Γ f H d v
  | [], _, i, v, h, e => by
    simp only [RpL] at h
    subst h
    simp at e
  | d :: ds, _, i, v, h, e => by
    simp only [RpL] at h
    obtain ⟨w, r, rfl, h1, h2⟩ := h
    cases i with
    | zero => simp at e; subst e; exact ⟨d, by simp, h1⟩
    | succ i => simpa using RpL.at' h2 (by simpa using e)
end
end Lk

set_option Elab.async false
set_option linter.all false
set_option autoImplicit false
set_option maxRecDepth 100000
set_option maxHeartbeats 4000000
/-! list(range), in over ints, what stays of a store -/
namespace Lk
open PySem L2
section
variable {env : Env} {S : Store} {Q : D → Store → Prop} {X : XP}
theorem v_lstRg1 {m : ME} : Wr (mListRg1 m env S) Q X = Wr (m env S) (fun x S1 => ∃ j, x = .int j ∧ okRg 0 j ∧ Q (.ref S1.length) (S1 ++ [.lst (rgD 0 j)])) X := by
  show Wr (R.bind _ _) _ _ = _
  rw [w_bind]
  congr 1
  funext x S1
  cases x with
  | int j =>
    show Wr (lstRg 0 j S1) Q X = _
    unfold lstRg
    by_cases c : okRg 0 j <;> simp [wr_def, WrD, c]
  | _ => simp [wr_def, WrD]
theorem okRg_small {j : Int} (h0 : 0 ≤ j) (h : j ≤ 100000) : okRg 0 j := by
  have e62 : (2 : Int) ^ 62 = 4611686018427387904 := by decide
  have e24 : (2 : Nat) ^ 24 = 16777216 := by decide
  unfold okRg
  rw [e62, e24]
  omega
theorem rgD_nat {n : Nat} : rgD 0 (n : Int) = ((List.range n).map fun i => ((i : Nat) : Int)).map D.int := by
  unfold rgD
  simp
theorem gInZ_ints {neg : Bool} {x : Int} {y : D} {ys : List Int} (h : listOf S y = some (ys.map D.int)) : gInZ neg (.int x) y S = .ok (.bl (if neg then !decide (x ∈ ys) else decide (x ∈ ys))) S := by
  have m : ∀ ys : List Int, (ys.map D.int).mapM flatD = some (ys.map V.int) := fun ys => by
    induction ys with
    | nil => rfl
    | cons z ys ih => rw [List.map_cons, List.mapM_cons, ih]; rfl
  have i : ∀ ys : List Int, L2.inV (.int x) (ys.map V.int) = decide (x ∈ ys) := fun ys => by
    unfold L2.inV
    induction ys with
    | nil => simp
    | cons z ys ih =>
      rw [List.map_cons, List.any_cons, ih]
      have : L2.eqV (V.int z) (V.int x) = decide (x = z) := by
        simp only [L2.eqV]
        by_cases c : x = z
        · simp [c]
        · have : ¬ z = x := fun e => c e.symm
          simp [c, this]
      rw [this]
      by_cases c : x = z <;> simp [c]
  have fl : ∀ ys : List Int, (ys.map V.int).all L2.flatV = true := fun ys => by
    induction ys with
    | nil => rfl
    | cons z ys ih => rw [List.map_cons, List.all_cons, ih]; rfl
  have e : gIn neg (.int x) y S = .ok (.bl (if neg then !decide (x ∈ ys) else decide (x ∈ ys))) S := by
    unfold gIn
    rw [h]
    dsimp only
    rw [show flatD (.int x) = some (.int x) from rfl, m ys]
    dsimp only
    rw [if_pos ⟨rfl, fl ys⟩, i ys]
  unfold gInZ
  rw [e]
end
/-- what stood stays -/
def Od (S S' : Store) : Prop := S.length ≤ S'.length ∧ ∀ m, m < S.length → S'[m]? = S[m]?
section
variable {S S' S'' : Store}
theorem Od.refl : Od S S := ⟨Nat.le_refl _, fun _ _ => rfl⟩
theorem Od.trans (h : Od S S') (h' : Od S' S'') : Od S S'' := ⟨Nat.le_trans h.1 h'.1, fun m hm => by rw [h'.2 m (Nat.lt_of_lt_of_le hm h.1), h.2 m hm]⟩
theorem Od.app {T : Store} : Od S (S ++ T) := ⟨by simp, fun m hm => by rw [List.getElem?_append_left hm]⟩
theorem Od.set {p : Nat} {o : Ob} (h : Od S S') (hp : S.length ≤ p) : Od S (S'.set p o) := ⟨by rw [List.length_set]; exact h.1, fun m hm => by rw [List.getElem?_set_ne (by omega)]; exact h.2 m hm⟩
theorem Od.snoc {T : Store} (h : Od S S') : Od S (S' ++ T) := h.trans .app
theorem Od.get {m : Nat} {o : Ob} (h : Od S S') (e : S[m]? = some o) : S'[m]? = some o := by
  have hm : m < S.length := (List.getElem?_eq_some_iff.mp e).1
  rw [h.2 m hm]
  exact e
theorem Od.take (h : Od S S') : S'.take S.length = S := by
  apply List.ext_getElem?
  intro m
  rcases Nat.lt_or_ge m S.length with c | c
  · rw [List.getElem?_take_of_lt c, h.2 m c]
  · rw [List.getElem?_eq_none c, List.getElem?_eq_none (by rw [List.length_take]; omega)]
end
theorem app_get {S T : Store} {m : Nat} {o : Ob} (h : S[m]? = some o) : (S ++ T)[m]? = some o := Od.get .app h
theorem lim_16 : lim = 16777216 := rfl
end Lk

set_option Elab.async false
set_option linter.all false
set_option autoImplicit false
set_option maxRecDepth 100000
set_option maxHeartbeats 4000000
/-! t[::-1] of a tuple -/
namespace Lk
open PySem PySem.Spec PyProof.Rows L2 HT
section
variable {prog : Program} {w : World} {A : Around} {E : Value → Shared → Prop} {s : Shared}
theorem adjust_rev (n : Nat) : Builtin.Slice.sliceAdjust none none (-1) (n : Int) = ((n : Int) - 1, -1) := by
  unfold Builtin.Slice.sliceAdjust
  rfl
theorem places_rev (n : Nat) : Builtin.Slice.slicePlaces ((n : Int) - 1) (-1) (-1) = n := by
  unfold Builtin.Slice.slicePlaces
  have h1 : ¬ (-1 : Int) > 0 := by omega
  simp only [h1, if_false]
  have e : (-(-1) : Int) = 1 := by decide
  rw [e, Int.ediv_one]
  split <;> omega
theorem sliceApplied_rev {sl : Addr} {vs : Value} {n : Nat} {Q : Int × Int × Nat → Shared → Prop} (hs : s.heap.IsSliceOf sl .none .none vs) (ps : IsPart vs (some (-1)))
    (h : Q ((n : Int) - 1, -1, n) s) : wpAny (model prog w) A (Builtin.Slice.sliceApplied (.ref sl) (pure (n : Int))) Q E s := by
  obtain ⟨os, hos, hcs, hds⟩ := id hs
  unfold Builtin.Slice.sliceApplied Builtin.Slice.sliceFields
  refine wpAny_bind (wpAny_bind (wpAny_field hos hds (x := .none) rfl (wpAny_bind (wpAny_field hos hds (x := .none) rfl (wpAny_bind (wpAny_field hos hds (x := vs) rfl (wpAny_pure ?_)))))))
  refine wpAny_bind (slicePart_ ps ?_)
  show wpAny _ _ (if ((-1 : Int) == 0) = true then _ else _) _ _ s
  rw [if_neg (by decide)]
  refine wpAny_bind (slicePart_none (wpAny_bind (slicePart_none (wpAny_bind (wpAny_pure ?_)))))
  show wpAny _ _ (match Builtin.Slice.sliceAdjust none none (-1) (n : Int) with | (lo, hi) => pure (lo, (-1 : Int), Builtin.Slice.slicePlaces lo hi (-1))) _ _ s
  rw [adjust_rev]
  show wpAny _ _ (pure ((n : Int) - 1, (-1 : Int), Builtin.Slice.slicePlaces ((n : Int) - 1) (-1) (-1))) _ _ s
  rw [places_rev]
  exact wpAny_pure h
theorem pick_rev (xs : Array Value) : ((List.range xs.size).filterMap fun (m : Nat) => xs[((xs.size : Int) - 1 + (m : Int) * (-1)).toNat]?).toArray = xs.toList.reverse.toArray := by
  have e : ∀ l : List Nat, (l.filterMap fun (m : Nat) => xs[((xs.size : Int) - 1 + (m : Int) * (-1)).toNat]?) = (l.map fun k => xs.size - 1 - k).filterMap (xs[·]?) := fun l => by
    rw [List.filterMap_map]
    congr 1
    funext m
    have : ((xs.size : Int) - 1 + (m : Int) * (-1)).toNat = xs.size - 1 - m := by omega
    simp only [Function.comp, this]
  rw [e, PySem.W.krv_range, List.filterMap_reverse, PySem.W.krv_all]
theorem getItem_tuple_rev {t sl : Addr} {items : Array Value} {vs : Value} {Q : Value → Shared → Prop} (ht : IsTup s.heap t items) (hs : s.heap.IsSliceOf sl .none .none vs) (ps : IsPart vs (some (-1)))
    (h : Q (.ref s.heap.objs.size) { s with heap := s.heap.push { cls := .type "tuple", data := .seq items.toList.reverse.toArray } })
    (hsz : items.size ≤ sizeLine) : wpAny (model prog w) A (getItem (.ref t) (.ref sl)) Q E s := by
  have htake : sizeOk (.seq items.toList.reverse.toArray) := by
    show items.toList.reverse.toArray.size ≤ sizeLine
    rw [List.size_toArray, List.length_reverse, Array.length_toList]
    exact hsz
  obtain ⟨os, hos, hcs, hds⟩ := id hs
  have hTs : s.TypeIs (.ref sl) "slice" := ⟨os, hos, hcs⟩
  unfold getItem
  try with_reducible refine wpAny_holding ?_
  first | refine wpAny_bind (wpAny_pure ?_) | skip
  refine wpAny_bind (wpAny_sequenceKey ht.typeIs (by decide) ?_)
  refine wpAny_bind (wpAny_callSpecial?_slot (name := Str.ofString "__getitem__") ht.typeIs PyProof.Rows.slot_tuple_getitem
    (wpAny_call_entry PyProof.Rows.slot_tuple_getitem ht.typeIs entry_tuple_getitem ?_ (args_tuple_getitem _ _)))
  show wpAny _ _ (Builtin.Tuple.tupleItemsOf (.ref t) >>= _) _ _ s
  refine wpAny_bind (tupleItemsOf_ ht ?_)
  refine wpAny_bind (wpAny_typeOf hTs ?_)
  rw [if_pos (by decide)]
  refine wpAny_bind (sliceApplied_rev hs ps ?_)
  have hno : ¬ (((items.size : Int) - 1 == 0 && (-1 : Int) == 1 && items.size == items.size) = true) := by
    intro q
    rw [Bool.and_eq_true, Bool.and_eq_true] at q
    exact absurd q.1.2 (by decide)
  show wpAny _ _ (if ((items.size : Int) - 1 == 0 && (-1 : Int) == 1 && items.size == items.size) = true then _ else _) _ _ s
  rw [if_neg hno, pick_rev]
  first
    | exact wpAny_bind (m := Builtin.Tuple.tupleExact _) (wpAny_newObj_type (wpAny_pure ⟨_, rfl, wpAny_pure h⟩) htake)
    | exact wpAny_bind (m := Builtin.Tuple.tupleExact _) (wpAny_newObj_type (wpAny_bind (wpAny_pure (wpAny_pure ⟨_, rfl, wpAny_pure h⟩))) htake)
    | exact wpAny_bind (wpAny_bind (m := Builtin.Tuple.tupleExact _) (wpAny_newObj_type (wpAny_pure (wpAny_pure ⟨_, rfl, wpAny_pure h⟩)) htake))
    | exact wpAny_bind (wpAny_bind (m := Builtin.Tuple.tupleExact _) (wpAny_newObj_type (wpAny_pure ⟨_, rfl, wpAny_pure h⟩) htake))
end
def tRevA (K : PySem.W.Frag) (te : TE) : TE := fun σ H Q => te σ H fun x H1 => ∃ a xs, x = .ref a ∧ ((SqL K H1 a xs ∧ ∀ p, H1 p = none → Q (.ref p) (upd H1 p (.lst xs.reverse))) ∨ (SqT K H1 a xs ∧ ∀ p, H1 p = none → Q (.ref p) (upd H1 p (.tup xs.reverse))))
theorem pe_revA {X : Cx} {e : Expr} {te : TE} {k : Nat} {p1 p2 p3 pos : Pos} (he : PE X e te) : PE X (.Subscript e (.Slice none none (some (.UnaryOp .USub (.Constant (.int 1) k p1) p2)) p3) pos) (tRevA X.K te) := by
  refine ⟨fun pins s σ H Q I h => ?_⟩
  refine Subscript_ (thn (he.run pins s σ H _ I h) fun v s1 ⟨x, H1, I1, r1, q1⟩ => ?_)
  obtain ⟨a, xs, ex, q⟩ := q1
  subst ex
  cases r1
  have hst : PO X (some (.UnaryOp .USub (.Constant (.int 1) k p1) p2)) (tPart (tUn (rU fun i => .int (-i)) (tC (.int 1)))) := po_some (pe_un un_neg pe_int)
  refine wpAny_Slice (thn (po_none.run pins s1 σ H1 (fun o H2 => o = none ∧ H2 = H1) I1 ⟨rfl, rfl⟩) fun vl s2 ⟨l, H2, I2, pl, el, e2⟩ => ?_)
  subst el e2
  refine thn (po_none.run pins s2 σ H2 (fun o H3 => o = none ∧ H3 = H2) I2 ⟨rfl, rfl⟩) fun vu s3 ⟨u, H3, I3, pu, eu, e3⟩ => ?_
  subst eu e3
  refine thn (hst.run pins s3 σ H3 (fun o H4 => o = some (-1) ∧ H4 = H3) I3 ⟨1, rfl, -1, rfl, rfl, rfl⟩) fun vs s4 ⟨o, H4, I4, ps, eo, e4⟩ => ?_
  subst eo e4
  have I5 : Inv X pins σ H4 { s4 with heap := s4.heap.push { cls := .type "slice", data := .fields #[vl, vu, vs] } } := I4.kept (t' := s4.toks) fun b ob q => Heap.get?_push_of_some _ q
  show wpAny (model X.prog X.w) X.A (subscriptTail e (.Slice none none (some (.UnaryOp .USub (.Constant (.int 1) k p1) p2)) p3) (.ref a) (.ref s4.heap.objs.size)) (EP X pins σ Q) X.xe { s4 with heap := s4.heap.push { cls := .type "slice", data := .fields #[vl, vu, vs] } }
  rcases q with ⟨hx, q⟩ | ⟨hx, q⟩
  · obtain ⟨its, r, ht, hz⟩ := I5.list hx
    have hlen := r.length
    refine tail_any (ops := [.ref a, .ref s4.heap.objs.size]) ht.isList.typeIs (PySem.slot_list_getitem.lookup) ?_ (by with_unfolding_all rfl)
    refine wpAny_getItem_list_slice ht.isList (Heap.IsSliceOf.new _ vl vu vs) pl pu ps (by decide) ?_ (by rw [List.size_toArray]; omega)
    rw [PySem.W.krv_pick]
    refine ⟨.ref _, _, I5.laid (t' := s4.toks) (o := .lst xs.reverse) (fun b ob q => Heap.get?_push_of_some _ q) (Nat.le_refl _) ?_, rfl, q _ (I5.hok.fresh (Nat.le_refl _))⟩
    exact ⟨by rw [List.length_reverse]; exact hz, _, 0, r.reverse, Heap.get?_push_size _ rfl⟩
  · obtain ⟨its, r, ht, hz⟩ := I5.tuple hx
    have hlen := r.length
    cases pl
    cases pu
    refine tail_any (ops := [.ref a, .ref s4.heap.objs.size]) ht.typeIs (PyProof.Rows.slot_tuple_getitem.lookup) ?_ (by with_unfolding_all rfl)
    refine getItem_tuple_rev ht (Heap.IsSliceOf.new _ _ _ vs) ps ?_ (by rw [List.size_toArray]; omega)
    refine ⟨.ref _, _, I5.laid (t' := s4.toks) (o := .tup xs.reverse) (fun b ob q => Heap.get?_push_of_some _ q) (Nat.le_refl _) ?_, rfl, q _ (I5.hok.fresh (Nat.le_refl _))⟩
    exact ⟨by rw [List.length_reverse]; exact hz, _, r.reverse, IsTup.new _ _⟩
def gRevA (d : D) (S : Store) : R D := match d with
  | .tup ds => .ok (.tup ds.reverse) S
  | d => gRev d S
section
variable {Γ : G} {W : WX} {X : Cx} {f : List Addr} {S : Store} {H : Hp} {e : Expr} {p1 p2 p3 pos : Pos} {me : ME}
theorem q_revA {k : Nat} (hK : X.K = Γ.K) (he : PE X e (tE Γ W me)) : PE X (.Subscript e (.Slice none none (some (.UnaryOp .USub (.Constant (.int 1) k p1) p2)) p3) pos) (tE Γ W (m1 gRevA me)) := PE.imp (pe_revA he) fun σ H Q ⟨env, S, f, rs, re, h⟩ => by
  refine ⟨env, S, f, rs, re, Wp.bindL h fun d S1 f1 H1 v u1 rs1 r1 h1 => ?_⟩
  cases d with
  | tup ds =>
    obtain ⟨a, vs, ev, sq, r⟩ := r1.tup
    refine ⟨a, vs, ev, .inr ⟨by rw [hK]; exact sq, fun q hq => ?_⟩⟩
    exact h1 f1 _ (.ref q) (.new hq) (rs1.newT hq) (Rp.tupI (SqT.of upd_same) (r.rev.up (.new hq)))
  | rol ds =>
    simp only [Rp] at r1
    obtain ⟨a, vs, ev, sq, r⟩ := r1
    refine ⟨a, vs, ev, .inl ⟨by rw [hK]; exact sq.1, fun q hq => ?_⟩⟩
    exact h1 (f1 ++ [q]) _ _ (.alloc hq) (rs1.alloc (b := .lst ds.reverse) hq ⟨vs.reverse, upd_same, (r.up (.alloc hq)).rev⟩) (Rp.refI (by rw [← rs1.len]; simp))
  | ref n =>
    simp only [Rp] at r1
    obtain ⟨a, ha, ev⟩ := r1
    have h1 : Wp Γ W σ f1 H1 (Rp Γ) Q (match S1[n]? with
      | some (.lst ds) => .ok (.ref S1.length) (S1 ++ [.lst ds.reverse])
      | _ => .bad) := h1
    split at h1
    · rename_i ds hn
      obtain ⟨b, hb, vs, hh, r⟩ := rs1.ob n _ hn
      rw [ha] at hb
      cases hb
      refine ⟨a, vs, ev, .inl ⟨by rw [hK]; exact SqL.of hh, fun q hq => ?_⟩⟩
      exact h1 (f1 ++ [q]) _ _ (.alloc hq) (rs1.alloc (b := .lst ds.reverse) hq ⟨vs.reverse, upd_same, (r.up (.alloc hq)).rev⟩) (Rp.refI (by rw [← rs1.len]; simp))
    · exact h1.elim
  | _ => exact h1.elim
end
section
variable {env : Env} {S : Store} {Q : D → Store → Prop} {X : XP}
theorem v_revT {ds : List D} : Wr (gRevA (.tup ds) S) Q X = Q (.tup ds.reverse) S := wr_def
end
end Lk

set_option Elab.async false
set_option linter.all false
set_option autoImplicit false
set_option maxRecDepth 100000
set_option maxHeartbeats 4000000
/-! not x, by the truth of any value *)
-/
namespace Lk
open PySem PySem.Spec PyProof.Rows L2
section
variable {Γ : G} {W : WX} {X : Cx} {f : List Addr} {H : Hp} {S : Store} {a : Expr} {ma : ME} {pos : Pos} {ta : TE}
end
end Lk

/-! The mirror of law_k20_moves_kept_or_broken, by gen.py. -/
set_option linter.all false
set_option autoImplicit false
set_option maxRecDepth 1000000
set_option maxHeartbeats 40000000
set_option Elab.async false
namespace Mi_k20
open PySem PySem.Spec PyProof.Rows L2 Lk
def sb (h : Str) : Str → Option Bool := tabS [("BadBeat", "SpansError", true), ("BadEvents", "SpansError", true), ("BadSpan", "SpansError", true), ("BadNumber", "SpansError", true), ("BadTimetable", "SpansError", true), ("BadMove", "SpansError", true), ("Broken", "SpansError", true)] h
def xk : Str → CK → Option Bool := tabX [("BadBeat", .own "BadMove", false), ("BadBeat", .own "BadTimetable", false), ("BadBeat", .own "Broken", false), ("BadEvents", .own "BadMove", false), ("BadEvents", .own "BadTimetable", false), ("BadEvents", .own "Broken", false), ("BadSpan", .own "BadMove", false), ("BadSpan", .own "BadTimetable", false), ("BadSpan", .own "Broken", false), ("BadNumber", .own "BadMove", false), ("BadNumber", .own "BadTimetable", false), ("BadNumber", .own "Broken", false), ("BadTimetable", .own "BadMove", false), ("BadTimetable", .own "BadTimetable", true), ("BadTimetable", .own "Broken", false), ("BadMove", .own "BadMove", true), ("BadMove", .own "BadTimetable", false), ("BadMove", .own "Broken", false), ("Broken", .own "BadMove", false), ("Broken", .own "BadTimetable", false), ("Broken", .own "Broken", true)]
abbrev oe0 : Str → Option (List D → Store → R D) := fun _ => none
theorem oe0_no {Γ : G} {P : Program} {w : World} {mg : Str → Option Value} {base : Heap} {cs : List Str} {k : Nat} : ∀ C m, oe0 C = some m → EqC Γ P w mg base cs k C m := fun _ _ h => by cases h
noncomputable def b__law_source : MS := (mSeq (mIfS (mTest (m2 (gCmp fun i j => decide (i < j)) (mVar 1) (mB gLen (mCons (mVar 0) mNil)))) (mRet (mLst (mCons (m2 gIx (mVar 0) (mVar 1)) (mCons (mB gInt (mCons (m2 (gCmp fun i j => decide (j ≤ i)) (m2 gIx (mVar 0) (mVar 1)) (m2 Lk.gPow (mC (.int 10)) (mC (.int 18)))) mNil)) (mCons (mC (.int 0)) (mCons (m2 Lk.gMod (mB gInt (mCons (m2 gIx (mVar 0) (mVar 1)) mNil)) (mC (.int 2147483629))) mNil)))))) mNext)
  (mSeq (mSet 2 (mC (.int 0)))
  (mSeq (mIfS (mTest (m2 (gCmp fun i j => decide (j < i)) (mB gLen (mCons (mVar 0) mNil)) (mC (.int 0)))) (mSet 2 (m2 Lk.gMod (mB gInt (mCons (m2 gIx (mVar 0) (mC (.int 0))) mNil)) (mC (.int 2147483629)))) mNext)
  (mRet (mLst (mCons (mC (.int 0)) (mCons (mC (.int 0)) (mCons (mC (.int 0)) (mCons (m2 Lk.gAdd (m2 Lk.gAdd (mVar 2) (m2 Lk.gMul (mC (.int 104729)) (mVar 1))) (mB gLen (mCons (mVar 0) mNil))) mNil)))))))))
noncomputable def f__law_source : List D → Store → R D := mDef 3 b__law_source
noncomputable def b_is_integer : MS := (mRet (mAnd (m1 (gIsi cs [(.bi "int")]) (mVar 0)) (mNot (m1 (gIsi cs [(.bi "bool")]) (mVar 0)))))
noncomputable def f_is_integer : List D → Store → R D := mDef 1 b_is_integer
noncomputable def b_is_number : MS := (mRet (mOr (mCall 1 f_is_integer (mCons (mVar 0) mNil)) (m1 (gIsi cs [(.own "Ratio")]) (mVar 0))))
noncomputable def f_is_number : List D → Store → R D := mDef 1 b_is_number
noncomputable def b_top_of : MS := (mRet (mIf (mTest (m1 (gIsi cs [(.own "Ratio")]) (mVar 0))) (mFld flds "top" (mVar 0)) (mVar 0)))
noncomputable def f_top_of : List D → Store → R D := mDef 1 b_top_of
noncomputable def b_bottom_of : MS := (mRet (mIf (mTest (m1 (gIsi cs [(.own "Ratio")]) (mVar 0))) (mFld flds "bottom" (mVar 0)) (mC (.int 1))))
noncomputable def f_bottom_of : List D → Store → R D := mDef 1 b_bottom_of
noncomputable def b_Ratio___eq__ : MS := (mSeq (mIfS (mNotT (mTest (mCall 1 f_is_number (mCons (mVar 1) mNil)))) (mRet (mC (.bl false))) mNext)
  (mRet (mAnd (m2 (gEqX cs oe0) (mFld flds "top" (mVar 0)) (mCall 1 f_top_of (mCons (mVar 1) mNil))) (m2 (gEqX cs oe0) (mFld flds "bottom" (mVar 0)) (mCall 1 f_bottom_of (mCons (mVar 1) mNil))))))
noncomputable def f_Ratio___eq__ : List D → Store → R D := mDef 2 b_Ratio___eq__
noncomputable def b_Net___eq__ : MS := (mSeq (mIfS (mNotT (mTest (m1 (gIsi cs [(.own "Net")]) (mVar 1)))) (mRet (mC (.bl false))) mNext)
  (mRet (mAnd (m2 (gEqX cs oe0) (mFld flds "beat" (mVar 0)) (mFld flds "beat" (mVar 1))) (mAnd (m2 (gEqX cs oe0) (mFld flds "events" (mVar 0)) (mFld flds "events" (mVar 1))) (m2 (gEqX cs oe0) (mFld flds "spans" (mVar 0)) (mFld flds "spans" (mVar 1)))))))
noncomputable def f_Net___eq__ : List D → Store → R D := mDef 2 b_Net___eq__
noncomputable def oe : Str → Option (List D → Store → R D) := fun C => if C = "Ratio" then some f_Ratio___eq__ else if C = "Net" then some f_Net___eq__ else none
noncomputable def b__law_draw : MS := (mSeq (mSet 2 (m2 gIx (mVar 0) (mC (.int 0))))
  (mSeq (mIfS (mAndT (mTest (m2 (gEqZ cs oe) (m2 gIx (mVar 0) (mC (.int 1))) (mC (.int 1)))) (mTest (m2 (gCmp fun i j => decide (j < i)) (mVar 2) (mC (.int 0))))) (mSeq (mAsg (m2 Lk.gDiv (mVar 2) (mVar 1)) (gSub' (mVar 0) (mC (.int 0))))
  (mRet (m2 Lk.gMod (mB gInt (mCons (mVar 2) mNil)) (mVar 1)))) mNext)
  (mSeq (mAsg (m2 Lk.gAdd (m2 gIx (mVar 0) (mC (.int 2))) (mC (.int 1))) (gSub' (mVar 0) (mC (.int 2))))
  (mSeq (mSet 3 (m2 Lk.gMod (mB gInt (mCons (m2 Lk.gMul (m2 Lk.gAdd (m2 Lk.gAdd (m2 gIx (mVar 0) (mC (.int 3))) (m2 Lk.gMul (mC (.int 7919)) (m2 gIx (mVar 0) (mC (.int 2))))) (mC (.int 1))) (mC (.int 48271))) mNil)) (mC (.int 2147483647))))
  (mSeq (mSet 3 (m2 Lk.gMod (mB gInt (mCons (m2 Lk.gMul (mVar 3) (m2 Lk.gAdd (m2 Lk.gDiv (mVar 3) (mC (.int 1009))) (mC (.int 69621)))) mNil)) (mC (.int 2147483647))))
  (mSeq (mSet 3 (m2 Lk.gMod (mB gInt (mCons (m2 Lk.gMul (mVar 3) (m2 Lk.gAdd (m2 Lk.gDiv (mVar 3) (mC (.int 2003))) (mC (.int 40692)))) mNil)) (mC (.int 2147483399))))
  (mRet (m2 Lk.gMod (mB gInt (mCons (mVar 3) mNil)) (mVar 1)))))))))
noncomputable def f__law_draw : List D → Store → R D := mDef 4 b__law_draw
noncomputable def b__law_beat : MS := (mSeq (mSet 1 (mCall 2 f__law_draw (mCons (mVar 0) (mCons (mC (.int 5)) mNil))))
  (mSeq (mIfS (mTest (m2 (gEqZ cs oe) (mVar 1) (mC (.int 0)))) (mRet (m2 Lk.gAdd (mC (.int 3)) (mCall 2 f__law_draw (mCons (mVar 0) (mCons (mC (.int 1438)) mNil))))) mNext)
  (mSeq (mIfS (mTest (m2 (gEqZ cs oe) (mVar 1) (mC (.int 1)))) (mRet (m2 gIx (mLst (mCons (mC (.int 3)) (mCons (mC (.int 4)) (mCons (mC (.int 60)) (mCons (mC (.int 1440)) mNil))))) (mCall 2 f__law_draw (mCons (mVar 0) (mCons (mC (.int 4)) mNil))))) mNext)
  (mRet (m2 Lk.gAdd (mC (.int 3)) (mCall 2 f__law_draw (mCons (mVar 0) (mCons (mC (.int 10)) mNil))))))))
noncomputable def f__law_beat : List D → Store → R D := mDef 2 b__law_beat
noncomputable def b__law_parts : MS := (mRet (m2 gIx (mLst (mCons (mC (.int 1)) (mCons (m2 Lk.gAdd (mC (.int 1)) (mCall 2 f__law_draw (mCons (mVar 0) (mCons (mC (.int 6)) mNil)))) (mCons (m2 Lk.gAdd (mC (.int 1)) (mCall 2 f__law_draw (mCons (mVar 0) (mCons (m2 Lk.gPow (mC (.int 10)) (mC (.int 9))) mNil)))) mNil)))) (mCall 2 f__law_draw (mCons (mVar 0) (mCons (mC (.int 3)) mNil)))))
noncomputable def f__law_parts : List D → Store → R D := mDef 1 b__law_parts
noncomputable def b__law_order : MS := (mSeq (mSet 2 (mLst mNil))
  (mSeq (mFor (iRng1' (mCons (mVar 1) mNil)) (gSet 3) (mDrop (mBM gInsert (mVar 2) (mCons (mCall 2 f__law_draw (mCons (mVar 0) (mCons (m2 Lk.gAdd (mVar 3) (mC (.int 1))) mNil))) (mCons (mVar 3) mNil)))))
  (mRet (mVar 2))))
noncomputable def f__law_order : List D → Store → R D := mDef 4 b__law_order
noncomputable def b__law_span : MS := (mSeq (mSet 7 (m2 Lk.gMod (mB gInt (mCons (m2 Lk.gSub (m2 gIx (mVar 3) (mVar 5)) (m2 gIx (mVar 3) (mVar 4))) mNil)) (m2 Lk.gMul (mVar 1) (mVar 2))))
  (mSeq (mSet 7 (m2 Lk.gAdd (mVar 7) (m2 Lk.gMul (m2 Lk.gMul (mVar 1) (mVar 2)) (mCall 2 f__law_draw (mCons (mVar 0) (mCons (mB gMin2 (mCons (mC (.int 3)) (mCons (m2 Lk.gDiv (mC (.int 2880)) (mVar 1)) mNil))) mNil))))))
  (mSeq (mSet 8 (m2 Lk.gDiv (mVar 7) (mVar 2)))
  (mSeq (mSet 9 (m1 gNeg (m2 Lk.gDiv (m1 gNeg (mVar 7)) (mVar 2))))
  (mSeq (mSet 10 (mCall 2 f__law_draw (mCons (mVar 0) (mCons (m2 Lk.gAdd (mB gMin2 (mCons (mVar 6) (mCons (m2 Lk.gSub (m2 Lk.gSub (mVar 1) (mC (.int 2))) (m2 Lk.gSub (mVar 9) (mVar 8))) mNil))) (mC (.int 1))) mNil))))
  (mSeq (mSet 11 (mCall 2 f__law_draw (mCons (mVar 0) (mCons (m2 Lk.gAdd (mVar 10) (mC (.int 1))) mNil))))
  (mRet (mTup (mCons (mVar 4) (mCons (mVar 5) (mCons (mB gMax2 (mCons (mC (.int 0)) (mCons (m2 Lk.gSub (mVar 8) (mVar 11)) mNil))) (mCons (mB gMin2 (mCons (mC (.int 2880)) (mCons (m2 Lk.gSub (m2 Lk.gAdd (mVar 9) (mVar 10)) (mVar 11)) mNil))) mNil))))))))))))
noncomputable def f__law_span : List D → Store → R D := mDef 12 b__law_span
noncomputable def b__law_spans : MS := (mSeq (mSet 6 (mB gLen (mCons (mVar 3) mNil)))
  (mSeq (mSet 7 (mCall 2 f__law_order (mCons (mVar 0) (mCons (mVar 6) mNil))))
  (mSeq (mSet 8 (mLst mNil))
  (mSeq (mFor (iRng2' (mCons (mC (.int 1)) (mCons (m2 Lk.gAdd (mVar 6) (mVar 4)) mNil))) (gSet 9) (mSeq (mSet 10 (m2 Lk.gMod (mB gInt (mCons (mVar 9) mNil)) (mVar 6)))
  (mSeq (mSet 11 (mCall 2 f__law_draw (mCons (mVar 0) (mCons (mB gMax2 (mCons (mC (.int 1)) (mCons (mVar 10) mNil))) mNil))))
  (mSeq (mIfS (mTest (m2 (gCmp fun i j => decide (j ≤ i)) (mVar 9) (mVar 6))) (mSeq (mSet 10 (mCall 2 f__law_draw (mCons (mVar 0) (mCons (mVar 6) mNil))))
  (mSet 11 (m2 Lk.gMod (mB gInt (mCons (m2 Lk.gAdd (m2 Lk.gAdd (mVar 10) (mC (.int 1))) (mCall 2 f__law_draw (mCons (mVar 0) (mCons (mB gMax2 (mCons (mC (.int 1)) (mCons (m2 Lk.gSub (mVar 6) (mC (.int 1))) mNil))) mNil)))) mNil)) (mVar 6)))) mNext)
  (mSeq (mSet 12 (mCall 2 f__law_draw (mCons (mVar 0) (mCons (mC (.int 2)) mNil))))
  (mSeq (mSet 13 (mLst (mCons (m2 gIx (mVar 7) (mVar 10)) (mCons (m2 gIx (mVar 7) (mVar 11)) mNil))))
  (mSeq (mSet 14 (mOr (m2 (gCmp fun i j => decide (j ≤ i)) (mVar 9) (mVar 6)) (m2 (gCmp fun i j => decide (j < i)) (mCall 2 f__law_draw (mCons (mVar 0) (mCons (mC (.int 7)) mNil))) (mC (.int 0)))))
  (mIfS (mAndT (mTest (mVar 14)) (mTest (m2 (gNeX oe) (mVar 10) (mVar 11)))) (mSeq (mSet 15 (mCall 7 f__law_span (mCons (mVar 0) (mCons (mVar 1) (mCons (mVar 2) (mCons (mVar 3) (mCons (m2 gIx (mVar 13) (mVar 12)) (mCons (m2 gIx (mVar 13) (m2 Lk.gSub (mC (.int 1)) (mVar 12))) (mCons (mVar 5) mNil)))))))))
  (mIfS (mTest (m2 (gInZ true) (mVar 15) (mVar 8))) (mDrop (mBM gInsert (mVar 8) (mCons (mCall 2 f__law_draw (mCons (mVar 0) (mCons (m2 Lk.gAdd (mB gLen (mCons (mVar 8) mNil)) (mC (.int 1))) mNil))) (mCons (mVar 15) mNil)))) mNext)) mNext))))))))
  (mRet (mVar 8))))))
noncomputable def f__law_spans : List D → Store → R D := mDef 16 b__law_spans
noncomputable def b_is_below : MS := (mRet (mAnd (mCall 1 f_is_integer (mCons (mVar 1) mNil)) (mCh2 (gCmp (fun i j => decide (i ≤ j))) (gCmp (fun i j => decide (i < j))) (mC (.int 0)) (mVar 1) (mVar 0))))
noncomputable def f_is_below : List D → Store → R D := mDef 2 b_is_below
noncomputable def b_is_span : MS := (mSeq (mIfS (mOrT (mNotT (mTest (m1 (gIsi cs [(.bi "tuple")]) (mVar 2)))) (mTest (m2 (gNeX oe) (mB gLen (mCons (mVar 2) mNil)) (mC (.int 4))))) (mRet (mC (.bl false))) mNext)
  (mSeq (mIfS (mNotT (mTest (mB gAll (mCons (mLc (iSeq (mVar 2)) (.nm 3) mYes (mCall 1 f_is_integer (mCons (mVar 3) mNil)) [3]) mNil)))) (mRet (mC (.bl false))) mNext)
  (mSeq (mAsg (mVar 2) (gUnpack 4 (gCons' (gSet 4) (gCons' (gSet 5) (gCons' (gSet 6) (gCons' (gSet 7) gNil'))))))
  (mSeq (mIfS (mOrT (mNotT (mTest (mCall 2 f_is_below (mCons (mVar 1) (mCons (mVar 4) mNil))))) (mOrT (mNotT (mTest (mCall 2 f_is_below (mCons (mVar 1) (mCons (mVar 5) mNil))))) (mTest (m2 (gEqZ cs oe) (mVar 4) (mVar 5))))) (mRet (mC (.bl false))) mNext)
  (mRet (mAnd (mCh3 (gCmp (fun i j => decide (i ≤ j))) (gCmp (fun i j => decide (i ≤ j))) (gCmp (fun i j => decide (i ≤ j))) (mC (.int 0)) (mVar 6) (mVar 7) (mC (.int 2880))) (m2 (gCmp fun i j => decide (i ≤ j)) (m2 Lk.gSub (mVar 7) (mVar 6)) (m2 Lk.gSub (mVar 0) (mC (.int 2))))))))))
noncomputable def f_is_span : List D → Store → R D := mDef 8 b_is_span
noncomputable def b_spans_fault : MS := (mSeq (mIfS (mOrT (mNotT (mTest (m1 (gIsi cs [(.bi "list"), (.bi "tuple")]) (mVar 2)))) (mTest (m2 (gCmp fun i j => decide (j < i)) (mB gLen (mCons (mVar 2) mNil)) (mC (.int 60))))) (mRet (m1 gNeg (mC (.int 1)))) mNext)
  (mSeq (mFor (iEnuZ (mVar 2)) (gUnpack 2 (gCons' (gSet 3) (gCons' (gSet 4) gNil'))) (mIfS (mOrT (mNotT (mTest (mCall 3 f_is_span (mCons (mVar 0) (mCons (mVar 1) (mCons (mVar 4) mNil)))))) (mTest (m2 (gInZ false) (mVar 4) (mSl (mVar 2) none (some (mVar 3)))))) (mRet (mVar 3)) mNext))
  (mRet (mC .non))))
noncomputable def f_spans_fault : List D → Store → R D := mDef 5 b_spans_fault
noncomputable def b_are_events : MS := (mRet (mAnd (mCall 1 f_is_integer (mCons (mVar 0) mNil)) (mCh2 (gCmp (fun i j => decide (i ≤ j))) (gCmp (fun i j => decide (i ≤ j))) (mC (.int 1)) (mVar 0) (mC (.int 24)))))
noncomputable def f_are_events : List D → Store → R D := mDef 1 b_are_events
noncomputable def b_Net___init__ : MS := (mSeq (mIfS (mOrT (mNotT (mTest (mCall 1 f_is_integer (mCons (mVar 1) mNil)))) (mNotT (mTest (mCh2 (gCmp (fun i j => decide (i ≤ j))) (gCmp (fun i j => decide (i ≤ j))) (mC (.int 3)) (mVar 1) (mC (.int 1440)))))) (mRaise1 "BadBeat" (mVar 1)) mNext)
  (mSeq (mIfS (mNotT (mTest (mCall 1 f_are_events (mCons (mVar 2) mNil)))) (mRaise1 "BadEvents" (mVar 2)) mNext)
  (mSeq (mSet 4 (mCall 3 f_spans_fault (mCons (mVar 1) (mCons (mVar 2) (mCons (mVar 3) mNil)))))
  (mSeq (mIfS (mTest (m2 gNotN (mVar 4) (mC .non))) (mRaise1 "BadSpan" (mVar 4)) mNext)
  (mSeq (mSetF flds 0 "beat" (mVar 1))
  (mSeq (mSetF flds 0 "events" (mVar 2))
  (mSetF flds 0 "spans" (mB gTuple (mCons (mVar 3) mNil)))))))))
noncomputable def f_Net___init__ : List D → Store → R D := mDef 5 b_Net___init__
noncomputable def b_Ratio___init__ : MS := (mSeq (mFor (iSeq (mTup (mCons (mVar 1) (mCons (mVar 2) mNil)))) (gSet 3) (mIfS (mNotT (mTest (mCall 1 f_is_integer (mCons (mVar 3) mNil)))) (mRaise1 "BadNumber" (mVar 3)) mNext))
  (mSeq (mIfS (mTest (m2 (gEqZ cs oe) (mVar 2) (mC (.int 0)))) (mRaise1 "BadNumber" (mVar 2)) mNext)
  (mSeq (mSet 4 (mIf (mTest (m2 (gCmp fun i j => decide (j < i)) (mVar 2) (mC (.int 0)))) (mB gGcd (mCons (mVar 1) (mCons (mVar 2) mNil))) (m1 gNeg (mB gGcd (mCons (mVar 1) (mCons (mVar 2) mNil))))))
  (mSeq (mSetF flds 0 "top" (m2 Lk.gDiv (mVar 1) (mVar 4)))
  (mSetF flds 0 "bottom" (m2 Lk.gDiv (mVar 2) (mVar 4)))))))
noncomputable def f_Ratio___init__ : List D → Store → R D := mDef 5 b_Ratio___init__
noncomputable def b__law_odd : MS := (mSeq (mSet 1 (mLst (mCons (mC .non) (mCons (mC (.bl true)) (mCons (mC (.bl false)) (mCons (mC (.str (Str.ofString "7"))) (mCons (mC (.str (Str.ofString ""))) (mCons (mTup mNil) (mCons (mTup (mCons (mC (.int 3)) mNil)) (mCons (mLst mNil) (mCons (mLst (mCons (mC (.int 5)) mNil)) (mCons mDict0 (mCons (mDict1 (mC (.int 1)) (mC (.int 2))) (mCons (mC (.str (Str.ofString "ab"))) (mCons (mMake "Ratio" 3 f_Ratio___init__ (mCons (mC (.int 1)) (mCons (mC (.int 1)) mNil))) (mCons (mMake "Ratio" 3 f_Ratio___init__ (mCons (mC (.int 5)) (mCons (mC (.int 1)) mNil))) mNil))))))))))))))))
  (mRet (m2 gIx (mVar 1) (mCall 2 f__law_draw (mCons (mVar 0) (mCons (mC (.int 14)) mNil))))))
noncomputable def f__law_odd : List D → Store → R D := mDef 2 b__law_odd
noncomputable def b__law_moment : MS := (mSeq (mSet 3 (m2 Lk.gMul (mCall 2 f__law_draw (mCons (mVar 0) (mCons (mVar 1) mNil))) (mVar 2)))
  (mSeq (mIfS (mTest (m2 (gEqZ cs oe) (mCall 2 f__law_draw (mCons (mVar 0) (mCons (mC (.int 3)) mNil))) (mC (.int 0)))) (mRet (mVar 3)) mNext)
  (mRet (m2 Lk.gAdd (mVar 3) (mCall 2 f__law_draw (mCons (mVar 0) (mCons (mVar 2) mNil)))))))
noncomputable def f__law_moment : List D → Store → R D := mDef 4 b__law_moment
noncomputable def b_plain : MS := (mRet (mIf (mTest (m2 (gEqZ cs oe) (mCall 1 f_bottom_of (mCons (mVar 0) mNil)) (mC (.int 1)))) (mCall 1 f_top_of (mCons (mVar 0) mNil)) (mVar 0)))
noncomputable def f_plain : List D → Store → R D := mDef 1 b_plain
noncomputable def b_Ratio_rest : MS := (mRet (mMake "Ratio" 3 f_Ratio___init__ (mCons (m2 Lk.gMod (mFld flds "top" (mVar 0)) (m2 Lk.gMul (mFld flds "bottom" (mVar 0)) (mVar 1))) (mCons (mFld flds "bottom" (mVar 0)) mNil))))
noncomputable def f_Ratio_rest : List D → Store → R D := mDef 2 b_Ratio_rest
noncomputable def b_rest_of : MS := (mRet (mIf (mTest (m1 (gIsi cs [(.own "Ratio")]) (mVar 0))) (mCall 1 f_plain (mCons (mMeth "Ratio" 2 f_Ratio_rest (mVar 0) (mCons (mVar 1) mNil)) mNil)) (m2 Lk.gMod (mVar 0) (mVar 1))))
noncomputable def f_rest_of : List D → Store → R D := mDef 2 b_rest_of
noncomputable def b_Ratio___add__ : MS := (mSeq (mIfS (mNotT (mTest (mCall 1 f_is_number (mCons (mVar 1) mNil)))) mBadS mNext)
  (mSeq (mSet 2 (m2 Lk.gAdd (m2 Lk.gMul (mFld flds "top" (mVar 0)) (mCall 1 f_bottom_of (mCons (mVar 1) mNil))) (m2 Lk.gMul (mCall 1 f_top_of (mCons (mVar 1) mNil)) (mFld flds "bottom" (mVar 0)))))
  (mRet (mMake "Ratio" 3 f_Ratio___init__ (mCons (mVar 2) (mCons (m2 Lk.gMul (mFld flds "bottom" (mVar 0)) (mCall 1 f_bottom_of (mCons (mVar 1) mNil))) mNil))))))
noncomputable def f_Ratio___add__ : List D → Store → R D := mDef 3 b_Ratio___add__
noncomputable def b_Ratio___sub__ : MS := (mSeq (mIfS (mNotT (mTest (mCall 1 f_is_number (mCons (mVar 1) mNil)))) mBadS mNext)
  (mSeq (mSet 2 (m2 Lk.gSub (m2 Lk.gMul (mFld flds "top" (mVar 0)) (mCall 1 f_bottom_of (mCons (mVar 1) mNil))) (m2 Lk.gMul (mCall 1 f_top_of (mCons (mVar 1) mNil)) (mFld flds "bottom" (mVar 0)))))
  (mRet (mMake "Ratio" 3 f_Ratio___init__ (mCons (mVar 2) (mCons (m2 Lk.gMul (mFld flds "bottom" (mVar 0)) (mCall 1 f_bottom_of (mCons (mVar 1) mNil))) mNil))))))
noncomputable def f_Ratio___sub__ : List D → Store → R D := mDef 3 b_Ratio___sub__
noncomputable def b_Ratio___neg__ : MS := (mRet (mMake "Ratio" 3 f_Ratio___init__ (mCons (m1 gNeg (mFld flds "top" (mVar 0))) (mCons (mFld flds "bottom" (mVar 0)) mNil))))
noncomputable def f_Ratio___neg__ : List D → Store → R D := mDef 1 b_Ratio___neg__
abbrev t0 : OTab := fun _ => none
noncomputable def tAdd : OTab := fun C => if C = "Ratio" then some f_Ratio___add__ else none
noncomputable def tSub : OTab := fun C => if C = "Ratio" then some f_Ratio___sub__ else none
noncomputable def tNeg : OTab := fun C => if C = "Ratio" then some f_Ratio___neg__ else none
noncomputable def b_Ratio___radd__ : MS := (mRet (m2 (gBinX tAdd t0 Lk.gAdd) (mVar 0) (mVar 1)))
noncomputable def f_Ratio___radd__ : List D → Store → R D := mDef 2 b_Ratio___radd__
noncomputable def b_Ratio___rsub__ : MS := (mRet (m2 (gBinX tAdd t0 Lk.gAdd) (m1 (gUnX tNeg gNeg) (mVar 0)) (mVar 1)))
noncomputable def f_Ratio___rsub__ : List D → Store → R D := mDef 2 b_Ratio___rsub__
noncomputable def rAdd : OTab := fun C => if C = "Ratio" then some f_Ratio___radd__ else none
noncomputable def rSub : OTab := fun C => if C = "Ratio" then some f_Ratio___rsub__ else none
noncomputable def b_stepped : MS := (mSeq (mAsg (mVar 2) (gUnpack 2 (gCons' (gSet 3) (gCons' (gSet 4) gNil'))))
  (mSeq (mSet 5 (mB gList (mCons (mVar 1) mNil)))
  (mSeq (mFor (iSeq (mVar 3)) (gSet 6) (mAsg (mCall 2 f_rest_of (mCons (m2 (gBinX tAdd rAdd Lk.gAdd) (m2 gIx (mVar 5) (mVar 6)) (mVar 4)) (mCons (mFld flds "beat" (mVar 0)) mNil))) (gSub' (mVar 5) (mVar 6))))
  (mRet (mB gTuple (mCons (mVar 5) mNil))))))
noncomputable def f_stepped : List D → Store → R D := mDef 7 b_stepped
noncomputable def b_reached : MS := (mRet (mLc (iSeq (mFld flds "spans" (mVar 0))) (.tp [2, 3, 4, 5]) mYes (m2 (gBinX tAdd rAdd Lk.gAdd) (mVar 4) (mCall 2 f_rest_of (mCons (m2 (gBinX tSub rSub Lk.gSub) (m2 (gBinX tSub rSub Lk.gSub) (m2 gIx (mVar 1) (mVar 3)) (m2 gIx (mVar 1) (mVar 2))) (mVar 4)) (mCons (mFld flds "beat" (mVar 0)) mNil)))) [2, 3, 4, 5]))
noncomputable def f_reached : List D → Store → R D := mDef 6 b_reached
noncomputable def b_below : MS := (mRet (m2 (gCmp fun i j => decide (i < j)) (m2 Lk.gMul (mCall 1 f_top_of (mCons (mVar 0) mNil)) (mCall 1 f_bottom_of (mCons (mVar 1) mNil))) (m2 Lk.gMul (mCall 1 f_top_of (mCons (mVar 1) mNil)) (mCall 1 f_bottom_of (mCons (mVar 0) mNil)))))
noncomputable def f_below : List D → Store → R D := mDef 2 b_below
noncomputable def b_first_broken : MS := (mSeq (mFor (iEnuZ (mCall 2 f_reached (mCons (mVar 0) (mCons (mVar 1) mNil)))) (gUnpack 2 (gCons' (gSet 2) (gCons' (gSet 3) gNil'))) (mIfS (mTest (mCall 2 f_below (mCons (m2 gIx (m2 gIx (mFld flds "spans" (mVar 0)) (mVar 2)) (mC (.int 3))) (mCons (mVar 3) mNil)))) (mRet (mVar 2)) mNext))
  (mRet (mC .non)))
noncomputable def f_first_broken : List D → Store → R D := mDef 4 b_first_broken
noncomputable def b_is_moment : MS := (mRet (mAnd (mCall 1 f_is_number (mCons (mVar 1) mNil)) (mAnd (mNot (mCall 2 f_below (mCons (mVar 1) (mCons (mC (.int 0)) mNil)))) (mCall 2 f_below (mCons (mVar 1) (mCons (mVar 0) mNil))))))
noncomputable def f_is_moment : List D → Store → R D := mDef 2 b_is_moment
noncomputable def b_moments_fault : MS := (mSeq (mIfS (mOrT (mNotT (mTest (m1 (gIsi cs [(.bi "tuple")]) (mVar 1)))) (mTest (m2 (gNeX oe) (mB gLen (mCons (mVar 1) mNil)) (mFld flds "events" (mVar 0))))) (mRet (mTup (mCons (mC (.str (Str.ofString "moments"))) (mCons (m1 gNeg (mC (.int 1))) mNil)))) mNext)
  (mSeq (mFor (iEnuZ (mVar 1)) (gUnpack 2 (gCons' (gSet 2) (gCons' (gSet 3) gNil'))) (mIfS (mNotT (mTest (mCall 2 f_is_moment (mCons (mFld flds "beat" (mVar 0)) (mCons (mVar 3) mNil))))) (mRet (mTup (mCons (mC (.str (Str.ofString "moments"))) (mCons (mVar 2) mNil)))) mNext))
  (mSeq (mSet 2 (mCall 2 f_first_broken (mCons (mVar 0) (mCons (mVar 1) mNil))))
  (mRet (mIf (mTest (m2 gIsN (mVar 2) (mC .non))) (mC .non) (mTup (mCons (mC (.str (Str.ofString "span"))) (mCons (mVar 2) mNil))))))))
noncomputable def f_moments_fault : List D → Store → R D := mDef 4 b_moments_fault
noncomputable def b_is_timetable : MS := (mRet (m2 gIsN (mCall 2 f_moments_fault (mCons (mVar 0) (mCons (mVar 1) mNil))) (mC .non)))
noncomputable def f_is_timetable : List D → Store → R D := mDef 2 b_is_timetable
noncomputable def b_is_event : MS := (mRet (mCall 2 f_is_below (mCons (mFld flds "events" (mVar 0)) (mCons (mVar 1) mNil))))
noncomputable def f_is_event : List D → Store → R D := mDef 2 b_is_event
noncomputable def b_is_block : MS := (mSeq (mIfS (mOrT (mNotT (mTest (m1 (gIsi cs [(.bi "tuple")]) (mVar 1)))) (mTest (m2 (gEqZ cs oe) (mB gLen (mCons (mVar 1) mNil)) (mC (.int 0))))) (mRet (mC (.bl false))) mNext)
  (mSeq (mIfS (mNotT (mTest (mB gAll (mCons (mLc (iSeq (mVar 1)) (.nm 2) mYes (mCall 2 f_is_event (mCons (mVar 0) (mCons (mVar 2) mNil))) [2]) mNil)))) (mRet (mC (.bl false))) mNext)
  (mRet (mB gAll (mCons (mLc (iZip' (mVar 1) (mSl (mVar 1) (some (mC (.int 1))) none)) (.tp [3, 4]) mYes (m2 (gCmp fun i j => decide (i < j)) (mVar 3) (mVar 4)) [3, 4]) mNil)))))
noncomputable def f_is_block : List D → Store → R D := mDef 5 b_is_block
noncomputable def b_is_move : MS := (mSeq (mIfS (mOrT (mNotT (mTest (m1 (gIsi cs [(.bi "tuple")]) (mVar 1)))) (mTest (m2 (gNeX oe) (mB gLen (mCons (mVar 1) mNil)) (mC (.int 2))))) (mRet (mC (.bl false))) mNext)
  (mRet (mAnd (mCall 2 f_is_block (mCons (mVar 0) (mCons (m2 gIx (mVar 1) (mC (.int 0))) mNil))) (mAnd (mCall 1 f_is_integer (mCons (m2 gIx (mVar 1) (mC (.int 1))) mNil)) (m2 (gInZ false) (m2 gIx (mVar 1) (mC (.int 1))) (mTup (mCons (mC (.int 1)) (mCons (m1 gNeg (mC (.int 1))) mNil))))))))
noncomputable def f_is_move : List D → Store → R D := mDef 2 b_is_move
noncomputable def b_as_plain : MS := (mRet (mB gTuple (mCons (mLc (iSeq (mVar 0)) (.nm 1) mYes (mCall 1 f_plain (mCons (mVar 1) mNil)) [1]) mNil)))
noncomputable def f_as_plain : List D → Store → R D := mDef 2 b_as_plain
noncomputable def b_moved : MS := (mSeq (mIfS (mNotT (mTest (mCall 2 f_is_timetable (mCons (mVar 0) (mCons (mVar 1) mNil))))) (mRaise0 "BadTimetable") mNext)
  (mSeq (mIfS (mNotT (mTest (mCall 2 f_is_move (mCons (mVar 0) (mCons (mVar 2) mNil))))) (mRaise0 "BadMove") mNext)
  (mSeq (mSet 3 (mCall 3 f_stepped (mCons (mVar 0) (mCons (mCall 1 f_as_plain (mCons (mVar 1) mNil)) (mCons (mVar 2) mNil)))))
  (mSeq (mSet 4 (mCall 2 f_first_broken (mCons (mVar 0) (mCons (mVar 3) mNil))))
  (mSeq (mIfS (mTest (m2 gNotN (mVar 4) (mC .non))) (mRaise1 "Broken" (mVar 4)) mNext)
  (mRet (mVar 3)))))))
noncomputable def f_moved : List D → Store → R D := mDef 5 b_moved
noncomputable def b__law_integer : MS := (mRet (mAnd (m1 (gIsi cs [(.bi "int")]) (mVar 0)) (mNot (m1 (gIsi cs [(.bi "bool")]) (mVar 0)))))
noncomputable def f__law_integer : List D → Store → R D := mDef 1 b__law_integer
noncomputable def b__law_told : MS := (mSeq (mTryAs (sb "SpansError") 4 (mSet 3 (mCall 3 f_moved (mCons (mVar 0) (mCons (mVar 1) (mCons (mVar 2) mNil))))) (fun E xs => (mSeq (mSet 5 (mTup (mCons (mXis xk 4 E (.own "BadTimetable")) (mCons (mXis xk 4 E (.own "BadMove")) (mCons (mXis xk 4 E (.own "Broken")) mNil)))))
  (mSeq (mIfS (mAndT (mTest (m2 gEqD (mVar 5) (mTup (mCons (mC (.bl false)) (mCons (mC (.bl false)) (mCons (mC (.bl true)) mNil)))))) (mTest (mCall 1 f__law_integer (mCons (mXfld xfl 4 E xs "index") mNil)))) (mRet (mTup (mCons (mC (.str (Str.ofString "broken"))) (mCons (mXfld xfl 4 E xs "index") mNil)))) mNext)
  (mRet (mTup (mCons (mC (.str (Str.ofString "refused"))) (mCons (mVar 5) mNil))))))))
  (mRet (mTup (mCons (mC (.str (Str.ofString "told"))) (mCons (mVar 3) mNil)))))
noncomputable def f__law_told : List D → Store → R D := mDef 6 b__law_told
noncomputable def b__law_block : MS := (mSeq (mSet 2 (mCall 2 f__law_draw (mCons (mVar 0) (mCons (mC (.int 4)) mNil))))
  (mSeq (mIfS (mTest (m2 (gEqZ cs oe) (mVar 2) (mC (.int 0)))) (mRet (mTup (mCons (mCall 2 f__law_draw (mCons (mVar 0) (mCons (mVar 1) mNil))) mNil))) mNext)
  (mSeq (mIfS (mTest (m2 (gEqZ cs oe) (mVar 2) (mC (.int 1)))) (mRet (mB gTuple (mCons (mListRg1 (mVar 1)) mNil))) mNext)
  (mRet (mB gTuple (mCons (mLc (iRng1' (mCons (mVar 1) mNil)) (.nm 3) (mTest (m2 (gEqZ cs oe) (mCall 2 f__law_draw (mCons (mVar 0) (mCons (mC (.int 2)) mNil))) (mC (.int 0)))) (mVar 3) [3]) mNil))))))
noncomputable def f__law_block : List D → Store → R D := mDef 4 b__law_block
noncomputable def b__law_changed : MS := (mSeq (mAsg (mVar 1) (gUnpack 2 (gCons' (gSet 3) (gCons' (gSet 4) gNil'))))
  (mSeq (mSet 5 (mCall 2 f__law_draw (mCons (mVar 0) (mCons (mC (.int 9)) mNil))))
  (mSeq (mSet 6 (mCall 2 f__law_draw (mCons (mVar 0) (mCons (m2 Lk.gAdd (mB gLen (mCons (mVar 3) mNil)) (mC (.int 1))) mNil))))
  (mSeq (mIfS (mTest (m2 (gCmp fun i j => decide (i < j)) (mVar 5) (mC (.int 4)))) (mSeq (mSet 7 (m2 gIx (mLst (mCons (mVar 2) (mCons (m1 gNeg (mC (.int 1))) (mCons (mCall 1 f__law_odd (mCons (mVar 0) mNil)) (mCons (mCall 2 f__law_draw (mCons (mVar 0) (mCons (mVar 2) mNil))) mNil))))) (mVar 5)))
  (mRet (mTup (mCons (m2 Lk.gAdd (m2 Lk.gAdd (mSl (mVar 3) none (some (mVar 6))) (mTup (mCons (mVar 7) mNil))) (mSl (mVar 3) (some (mVar 6)) none)) (mCons (mVar 4) mNil))))) mNext)
  (mSeq (mIfS (mTest (m2 (gEqZ cs oe) (mVar 5) (mC (.int 4)))) (mRet (mTup (mCons (m1 gRevA (mVar 3)) (mCons (mVar 4) mNil)))) mNext)
  (mSeq (mSet 8 (mLst (mCons (mTup (mCons (mB gList (mCons (mVar 3) mNil)) (mCons (mVar 4) mNil))) (mCons (mTup (mCons (mVar 3) (mCons (m2 gIx (mLst (mCons (mC (.int 0)) (mCons (mC (.int 2)) (mCons (m1 gNeg (mC (.int 2))) (mCons (m2 Lk.gPow (mC (.int 10)) (mC (.int 20))) mNil))))) (mCall 2 f__law_draw (mCons (mVar 0) (mCons (mC (.int 4)) mNil)))) mNil))) (mCons (mTup (mCons (mVar 3) (mCons (mCall 1 f__law_odd (mCons (mVar 0) mNil)) mNil))) (mCons (mLst (mCons (mVar 3) (mCons (mVar 4) mNil))) mNil))))))
  (mRet (m2 gIx (mVar 8) (m2 Lk.gSub (mVar 5) (mC (.int 5)))))))))))
noncomputable def f__law_changed : List D → Store → R D := mDef 9 b__law_changed
noncomputable def b__law_first_broken : MS := (mSeq (mFor (iRng1' (mCons (mB gLen (mCons (mVar 2) mNil)) mNil)) (gSet 4) (mSeq (mAsg (m2 gIx (mVar 2) (mVar 4)) (gUnpack 4 (gCons' (gSet 5) (gCons' (gSet 6) (gCons' (gSet 7) (gCons' (gSet 8) gNil'))))))
  (mSeq (mSet 9 (m2 Lk.gAdd (m2 Lk.gMod (mB gInt (mCons (m2 Lk.gSub (m2 Lk.gSub (m2 gIx (mVar 3) (mVar 6)) (m2 gIx (mVar 3) (mVar 5))) (m2 Lk.gMul (mVar 7) (mVar 1))) mNil)) (m2 Lk.gMul (mVar 0) (mVar 1))) (m2 Lk.gMul (mVar 7) (mVar 1))))
  (mIfS (mTest (m2 (gCmp fun i j => decide (j < i)) (mVar 9) (m2 Lk.gMul (mVar 8) (mVar 1)))) (mRet (mVar 4)) mNext))))
  (mRet (mC .non)))
noncomputable def f__law_first_broken : List D → Store → R D := mDef 10 b__law_first_broken
noncomputable def b__law_is_move : MS := (mSeq (mIfS (mOrT (mNotT (mTest (m1 (gIsi cs [(.bi "tuple")]) (mVar 1)))) (mOrT (mTest (m2 (gNeX oe) (mB gLen (mCons (mVar 1) mNil)) (mC (.int 2)))) (mOrT (mNotT (mTest (m1 (gIsi cs [(.bi "tuple")]) (m2 gIx (mVar 1) (mC (.int 0)))))) (mTest (m2 (gEqZ cs oe) (mB gLen (mCons (m2 gIx (mVar 1) (mC (.int 0))) mNil)) (mC (.int 0))))))) (mRet (mC (.bl false))) mNext)
  (mSeq (mIfS (mOrT (mNotT (mTest (mCall 1 f__law_integer (mCons (m2 gIx (mVar 1) (mC (.int 1))) mNil)))) (mTest (m2 (gInZ true) (m2 gIx (mVar 1) (mC (.int 1))) (mTup (mCons (mC (.int 1)) (mCons (m1 gNeg (mC (.int 1))) mNil)))))) (mRet (mC (.bl false))) mNext)
  (mSeq (mIfS (mNotT (mTest (mB gAll (mCons (mLc (iSeq (m2 gIx (mVar 1) (mC (.int 0)))) (.nm 2) mYes (mAnd (mCall 1 f__law_integer (mCons (mVar 2) mNil)) (mAnd (m2 (gCmp fun i j => decide (i ≤ j)) (mC (.int 0)) (mVar 2)) (m2 (gCmp fun i j => decide (i < j)) (mVar 2) (mVar 0)))) [2]) mNil)))) (mRet (mC (.bl false))) mNext)
  (mRet (mB gAll (mCons (mLc (iRng2' (mCons (mC (.int 1)) (mCons (mB gLen (mCons (m2 gIx (mVar 1) (mC (.int 0))) mNil)) mNil))) (.nm 3) mYes (m2 (gCmp fun i j => decide (i < j)) (m2 gIx (m2 gIx (mVar 1) (mC (.int 0))) (m2 Lk.gSub (mVar 3) (mC (.int 1)))) (m2 gIx (m2 gIx (mVar 1) (mC (.int 0))) (mVar 3))) [3]) mNil))))))
noncomputable def f__law_is_move : List D → Store → R D := mDef 4 b__law_is_move
noncomputable def b__law_scaled : MS := (mSeq (mIfS (mTest (mCall 1 f__law_integer (mCons (mVar 0) mNil))) (mRet (m2 Lk.gMul (mVar 0) (mVar 1))) mNext)
  (mSeq (mIfS (mOrT (mNotT (mTest (m1 (gIsi cs [(.own "Ratio")]) (mVar 0)))) (mOrT (mNotT (mTest (mCall 1 f__law_integer (mCons (mFld flds "top" (mVar 0)) mNil)))) (mNotT (mTest (mCall 1 f__law_integer (mCons (mFld flds "bottom" (mVar 0)) mNil)))))) (mRet (mC .non)) mNext)
  (mSeq (mIfS (mOrT (mTest (m2 (gCmp fun i j => decide (i < j)) (mFld flds "bottom" (mVar 0)) (mC (.int 2)))) (mOrT (mTest (m2 (gEqZ cs oe) (m2 Lk.gMod (mB gInt (mCons (mFld flds "top" (mVar 0)) mNil)) (mFld flds "bottom" (mVar 0))) (mC (.int 0)))) (mTest (m2 (gNeX oe) (m2 Lk.gMod (mB gInt (mCons (m2 Lk.gMul (mFld flds "top" (mVar 0)) (mVar 1)) mNil)) (mFld flds "bottom" (mVar 0))) (mC (.int 0)))))) (mRet (mC .non)) mNext)
  (mRet (m2 Lk.gDiv (m2 Lk.gMul (mFld flds "top" (mVar 0)) (mVar 1)) (mFld flds "bottom" (mVar 0)))))))
noncomputable def f__law_scaled : List D → Store → R D := mDef 2 b__law_scaled
noncomputable def b__law_all_scaled : MS := (mSeq (mIfS (mOrT (mNotT (mTest (m1 (gIsi cs [(.bi "tuple")]) (mVar 0)))) (mTest (m2 (gNeX oe) (mB gLen (mCons (mVar 0) mNil)) (mVar 1)))) (mRet (mC .non)) mNext)
  (mSeq (mSet 3 (mLc (iSeq (mVar 0)) (.nm 4) mYes (mCall 2 f__law_scaled (mCons (mVar 4) (mCons (mVar 2) mNil))) [4]))
  (mSeq (mIfS (mTest (m2 (gInZ false) (mC .non) (mVar 3))) (mRet (mC .non)) mNext)
  (mRet (mVar 3)))))
noncomputable def f__law_all_scaled : List D → Store → R D := mDef 5 b__law_all_scaled
noncomputable def b__law_right : MS := (mSeq (mSet 6 (mCall 3 f__law_told (mCons (mVar 0) (mCons (mVar 4) (mCons (mVar 5) mNil)))))
  (mSeq (mIfS (mTest (m2 gNotN (mCall 4 f__law_first_broken (mCons (mFld flds "beat" (mVar 0)) (mCons (mVar 1) (mCons (mVar 2) (mCons (mVar 3) mNil))))) (mC .non))) (mRet (m2 (gEqZ cs oe) (mVar 6) (mTup (mCons (mC (.str (Str.ofString "refused"))) (mCons (mTup (mCons (mC (.bl true)) (mCons (mC (.bl false)) (mCons (mC (.bl false)) mNil)))) mNil))))) mNext)
  (mSeq (mIfS (mNotT (mTest (mCall 2 f__law_is_move (mCons (mFld flds "events" (mVar 0)) (mCons (mVar 5) mNil))))) (mRet (m2 (gEqZ cs oe) (mVar 6) (mTup (mCons (mC (.str (Str.ofString "refused"))) (mCons (mTup (mCons (mC (.bl false)) (mCons (mC (.bl true)) (mCons (mC (.bl false)) mNil)))) mNil))))) mNext)
  (mSeq (mSet 7 (mB gList (mCons (mVar 3) mNil)))
  (mSeq (mFor (iSeq (m2 gIx (mVar 5) (mC (.int 0)))) (gSet 8) (mAsg (m2 Lk.gMod (mB gInt (mCons (m2 Lk.gAdd (m2 gIx (mVar 7) (mVar 8)) (m2 Lk.gMul (m2 gIx (mVar 5) (mC (.int 1))) (mVar 1))) mNil)) (m2 Lk.gMul (mFld flds "beat" (mVar 0)) (mVar 1))) (gSub' (mVar 7) (mVar 8))))
  (mSeq (mSet 9 (mCall 4 f__law_first_broken (mCons (mFld flds "beat" (mVar 0)) (mCons (mVar 1) (mCons (mVar 2) (mCons (mVar 7) mNil))))))
  (mSeq (mIfS (mTest (m2 gNotN (mVar 9) (mC .non))) (mRet (m2 (gEqZ cs oe) (mVar 6) (mTup (mCons (mC (.str (Str.ofString "broken"))) (mCons (mVar 9) mNil))))) mNext)
  (mRet (mAnd (m2 (gEqZ cs oe) (m2 gIx (mVar 6) (mC (.int 0))) (mC (.str (Str.ofString "told")))) (m2 (gEqZ cs oe) (mCall 3 f__law_all_scaled (mCons (m2 gIx (mVar 6) (mC (.int 1))) (mCons (mFld flds "events" (mVar 0)) (mCons (mVar 1) mNil)))) (mVar 7)))))))))))
noncomputable def f__law_right : List D → Store → R D := mDef 10 b__law_right
noncomputable def b__law_handed : MS := (mSeq (mIfS (mAndT (mTest (m2 (gEqZ cs oe) (m2 Lk.gMod (mB gInt (mCons (mVar 1) mNil)) (mVar 2)) (mC (.int 0)))) (mTest (m2 (gCmp fun i j => decide (j < i)) (mCall 2 f__law_draw (mCons (mVar 0) (mCons (mC (.int 4)) mNil))) (mC (.int 0))))) (mRet (m2 Lk.gDiv (mVar 1) (mVar 2))) mNext)
  (mRet (mMake "Ratio" 3 f_Ratio___init__ (mCons (mVar 1) (mCons (mVar 2) mNil)))))
noncomputable def f__law_handed : List D → Store → R D := mDef 3 b__law_handed
noncomputable def b_law_t11 : MS := (mRet (m2 (gEqZ cs oe) (mCall 3 f__law_told (mCons (mVar 9) (mCons (mVar 15) (mCons (mVar 15) mNil)))) (mTup (mCons (mC (.str (Str.ofString "refused"))) (mCons (mTup (mCons (mC (.bl true)) (mCons (mC (.bl false)) (mCons (mC (.bl false)) mNil)))) mNil)))))
noncomputable def b_law_t10 : MS := (mSeq (mIfS (mTest (m1 (gIsi cs [(.bi "tuple")]) (mVar 15))) (mSet 15 (mC .non)) mNext) b_law_t11)
noncomputable def b_law_t9 : MS := (mSeq (mSet 15 (mCall 1 f__law_odd (mCons (mVar 1) mNil))) b_law_t10)
noncomputable def b_law_t8 : MS := (mSeq (mFor (iRng2' (mCons (mC (.int 14)) (mCons (mB gMax2 (mCons (mC (.int 20)) (mCons (mB gMin2 (mCons (mB gLen (mCons (mVar 0) mNil)) (mCons (mC (.int 44)) mNil))) mNil))) mNil))) (gSet 6) (mSeq (mSet 1 (mCall 2 f__law_source (mCons (mVar 0) (mCons (mVar 6) mNil))))
  (mSeq (mSet 10 (mTup (mCons (mCall 2 f__law_block (mCons (mVar 1) (mCons (mVar 4) mNil))) (mCons (m2 Lk.gSub (mC (.int 1)) (m2 Lk.gMul (mC (.int 2)) (mCall 2 f__law_draw (mCons (mVar 1) (mCons (mC (.int 2)) mNil))))) mNil))))
  (mSeq (mIfS (mTest (m2 (gEqZ cs oe) (mCall 2 f__law_draw (mCons (mVar 1) (mCons (mC (.int 3)) mNil))) (mC (.int 0)))) (mSet 10 (mCall 3 f__law_changed (mCons (mVar 1) (mCons (mVar 10) (mCons (mVar 4) mNil))))) mNext)
  (mSeq (mSet 11 (mB gList (mCons (mVar 5) mNil)))
  (mSeq (mIfS (mTest (m2 (gEqZ cs oe) (mCall 2 f__law_draw (mCons (mVar 1) (mCons (mC (.int 9)) mNil))) (mC (.int 0)))) (mSeq (mSet 12 (mCall 2 f__law_draw (mCons (mVar 1) (mCons (mVar 4) mNil))))
  (mAsg (m2 Lk.gMod (mB gInt (mCons (m2 Lk.gAdd (m2 gIx (mVar 11) (mVar 12)) (m2 Lk.gMul (mVar 3) (mCall 2 f__law_draw (mCons (mVar 1) (mCons (mVar 2) mNil))))) mNil)) (m2 Lk.gMul (mVar 2) (mVar 3))) (gSub' (mVar 11) (mVar 12)))) mNext)
  (mSeq (mSet 13 (mB gTuple (mCons (mLc (iSeq (mVar 11)) (.nm 14) mYes (mCall 3 f__law_handed (mCons (mVar 1) (mCons (mVar 14) (mCons (mVar 3) mNil)))) [14]) mNil)))
  (mIfS (mNotT (mTest (mCall 6 f__law_right (mCons (mVar 9) (mCons (mVar 3) (mCons (mVar 8) (mCons (mVar 11) (mCons (mVar 13) (mCons (mVar 10) mNil))))))))) (mRet (mC (.bl false))) mNext)))))))) b_law_t9)
noncomputable def b_law_t7 : MS := (mSeq (mSet 9 (mMake "Net" 4 f_Net___init__ (mCons (mVar 2) (mCons (mVar 4) (mCons (mVar 8) mNil))))) b_law_t8)
noncomputable def b_law_t6 : MS := (mSeq (mSet 8 (mCall 6 f__law_spans (mCons (mCall 2 f__law_source (mCons (mVar 0) (mCons (mC (.int 1)) mNil))) (mCons (mVar 2) (mCons (mVar 3) (mCons (mVar 5) (mCons (mCall 2 f__law_draw (mCons (mVar 1) (mCons (mC (.int 9)) mNil))) (mCons (mVar 7) mNil)))))))) b_law_t7)
noncomputable def b_law_t5 : MS := (mSeq (mSet 7 (m2 gIx (mLst (mCons (mC (.int 1)) (mCons (mC (.int 2)) (mCons (mVar 2) mNil)))) (mCall 2 f__law_draw (mCons (mVar 1) (mCons (mC (.int 3)) mNil))))) b_law_t6)
noncomputable def b_law_t4 : MS := (mSeq (mSet 5 (mLc (iRng1' (mCons (mVar 4) mNil)) (.nm 6) mYes (mCall 3 f__law_moment (mCons (mCall 2 f__law_source (mCons (mVar 0) (mCons (m2 Lk.gAdd (mC (.int 2)) (mVar 6)) mNil))) (mCons (mVar 2) (mCons (mVar 3) mNil)))) [6])) b_law_t5)
noncomputable def b_law_t3 : MS := (mSeq (mSet 4 (m2 Lk.gAdd (mC (.int 1)) (mCall 2 f__law_draw (mCons (mVar 1) (mCons (m2 gIx (mLst (mCons (mC (.int 12)) (mCons (mC (.int 4)) mNil))) (mCall 2 f__law_draw (mCons (mVar 1) (mCons (mC (.int 2)) mNil)))) mNil))))) b_law_t4)
noncomputable def b_law_t2 : MS := (mSeq (mSet 3 (mCall 1 f__law_parts (mCons (mVar 1) mNil))) b_law_t3)
noncomputable def b_law_t1 : MS := (mSeq (mSet 2 (mCall 1 f__law_beat (mCons (mVar 1) mNil))) b_law_t2)
noncomputable def b_law : MS := (mSeq (mSet 1 (mCall 2 f__law_source (mCons (mVar 0) (mCons (mC (.int 0)) mNil)))) b_law_t1)
noncomputable def f_law : List D → Store → R D := mDef 16 b_law
/-! ### what the head is asked -/
section
variable {P : Program} {w : World} {K : PySem.W.Frag} {mg : Str → Option Value} {base : Heap}
theorem Txt.fact (T : Txt K mg) (i : Nat) {q : PySem.W.Frag → Bool} (h : fa[i]? = some q := by rfl) : q K = true := T.says.fact i h
theorem Txt.free (T : Txt K mg) (i : Nat) {x : Str} (h : fa[i]? = some (fun K => (He.Fa.free x).ok K) := by rfl) : mg x = none := by
  obtain ⟨h0, X, Gs⟩ := T.hp
  exact He.free_ok X Gs (T.says.fact i h)
theorem Txt.glo (T : Txt K mg) (i : Nat) {x : Str} (h : fa[i]? = some (fun K => (He.Fa.glo x).ok K) := by rfl) : mg x = some (.ref (He.ga K x)) := by
  obtain ⟨h0, X, Gs⟩ := T.hp
  exact He.glo_ok X Gs (T.says.fact i h)
theorem Txt.bi (T : Txt K mg) (i : Nat) {x : Str} {id : String} (h : fa[i]? = some (fun K => biB K x id) := by rfl) : mg x = some (.builtin id) := by
  obtain ⟨h0, X, Gs⟩ := T.hp
  exact biB_ok X Gs (T.says.fact i h)
theorem Txt.cint (T : Txt K mg) {x : Str} {v : Int} (i : Nat) (h : fa[i]? = some (fun K => (He.Fa.int x v).ok K) := by rfl) : ∃ t, mg x = some (.int v t) := by
  obtain ⟨h0, X, Gs⟩ := T.hp
  exact He.int_ok X Gs (T.says.fact i h)
theorem Txt.mkr (T : Txt K mg) (i : Nat) {x : Str} (h : fa[i]? = some (fun K => (He.Fa.mkr x).ok K) := by rfl) : Mk K (He.ga K x) (He.ma K (He.ga K x) "__init__") := He.mkr_ok (T.says.fact i h)
theorem Txt.is_ (T : Txt K mg) (i : Nat) {U : CK} (h : fa[i]? = some (fun K => isB (Gm K) cs U) := by rfl) : IsF (Gm K) cs U := isB_ok (T.says.fact i h)
theorem Txt.ins (T : Txt K mg) : ∀ C ∈ cs, C8.InsC (Gm K).K ((Gm K).c C) := by
  intro C hC
  simp only [cs, List.mem_cons, List.not_mem_nil, or_false] at hC
  rcases hC with rfl | rfl
  · exact insB_ok (T.says.fact 133 (q := fun K => insB K (He.ga K "Ratio")))
  · exact insB_ok (T.says.fact 136 (q := fun K => insB K (He.ga K "Net")))
theorem Txt.pl (T : Txt K mg) : PlAll (Gm K) cs := by
  refine ⟨fun C hC => ⟨(T.ins C hC).cl, ?_, ?_⟩, fun C hC => ?_⟩
  · simp only [cs, List.mem_cons, List.not_mem_nil, or_false] at hC
    have af_ : ∀ C ∈ cs, ∀ x ∈ flds C, x ∈ af := by decide +kernel
    exact af_ C (by simp only [cs, List.mem_cons, List.not_mem_nil, or_false]; exact hC)
  · simp only [cs, List.mem_cons, List.not_mem_nil, or_false] at hC
    rcases hC with rfl | rfl
    · intro x hx
      have hx : x ∈ (["top", "bottom"] : List Str) := hx
      simp only [List.mem_cons, List.not_mem_nil, or_false] at hx
      rcases hx with rfl | rfl
      · exact noB_ok (T.says.fact 134 (q := fun K => noB K (He.ga K "Ratio") "top"))
      · exact noB_ok (T.says.fact 135 (q := fun K => noB K (He.ga K "Ratio") "bottom"))
    · intro x hx
      have hx : x ∈ (["beat", "events", "spans"] : List Str) := hx
      simp only [List.mem_cons, List.not_mem_nil, or_false] at hx
      rcases hx with rfl | rfl | rfl
      · exact noB_ok (T.says.fact 137 (q := fun K => noB K (He.ga K "Net") "beat"))
      · exact noB_ok (T.says.fact 138 (q := fun K => noB K (He.ga K "Net") "events"))
      · exact noB_ok (T.says.fact 139 (q := fun K => noB K (He.ga K "Net") "spans"))
  · simp only [cs, List.mem_cons, List.not_mem_nil, or_false, not_or] at hC
    simp only [flds]
    simp [hC]
theorem x1_BadBeat (T : Txt K mg) : X1 (Gm K) P w mg base "BadBeat" "beat" := by
  obtain ⟨fd, Fd⟩ := T.says.def_ 54
  have oe := oexB_ok (T.says.fact 76 (q := fun K => oexB K (He.ga K "BadBeat")))
  have me := He.meth_ok (x := "BadBeat") (m := "__init__") (T.says.fact 77)
  have Sc : FnScope ["self", "beat"] ["self", "beat"] (defScope (inClass (top 5) 0)) := ⟨rfl, rfl, rfl, by decide +kernel, rfl, by decide +kernel, by decide +kernel⟩
  have b : Binds K fd ["self", "beat"] [] := Fd.bindsN fun _ _ _ _ _ _ us hl => match us, hl with | [_, _], _ => rfl
  refine ⟨oe, (show xfl "BadBeat" = (["beat"] : List Str) by decide +kernel), (T.glo 75), _, fd, "self", "beat", me.at_, beq_iff_eq.mp me.fn, ?_, b⟩
  exact ok_x1 Fd Sc oe (noB_ok (T.says.fact 78 (q := fun K => noB K (He.ga K "BadBeat") "beat"))) (by first | exact Or.inl rfl | exact Or.inr (Or.inl rfl)) (by first | exact Or.inl rfl | exact Or.inr (Or.inl rfl))
theorem x1_BadEvents (T : Txt K mg) : X1 (Gm K) P w mg base "BadEvents" "events" := by
  obtain ⟨fd, Fd⟩ := T.says.def_ 55
  have oe := oexB_ok (T.says.fact 80 (q := fun K => oexB K (He.ga K "BadEvents")))
  have me := He.meth_ok (x := "BadEvents") (m := "__init__") (T.says.fact 81)
  have Sc : FnScope ["self", "events"] ["self", "events"] (defScope (inClass (top 6) 0)) := ⟨rfl, rfl, rfl, by decide +kernel, rfl, by decide +kernel, by decide +kernel⟩
  have b : Binds K fd ["self", "events"] [] := Fd.bindsN fun _ _ _ _ _ _ us hl => match us, hl with | [_, _], _ => rfl
  refine ⟨oe, (show xfl "BadEvents" = (["events"] : List Str) by decide +kernel), (T.glo 79), _, fd, "self", "events", me.at_, beq_iff_eq.mp me.fn, ?_, b⟩
  exact ok_x1 Fd Sc oe (noB_ok (T.says.fact 82 (q := fun K => noB K (He.ga K "BadEvents") "events"))) (by first | exact Or.inl rfl | exact Or.inr (Or.inl rfl)) (by first | exact Or.inl rfl | exact Or.inr (Or.inl rfl))
theorem x1_BadSpan (T : Txt K mg) : X1 (Gm K) P w mg base "BadSpan" "index" := by
  obtain ⟨fd, Fd⟩ := T.says.def_ 56
  have oe := oexB_ok (T.says.fact 84 (q := fun K => oexB K (He.ga K "BadSpan")))
  have me := He.meth_ok (x := "BadSpan") (m := "__init__") (T.says.fact 85)
  have Sc : FnScope ["self", "index"] ["self", "index"] (defScope (inClass (top 7) 0)) := ⟨rfl, rfl, rfl, by decide +kernel, rfl, by decide +kernel, by decide +kernel⟩
  have b : Binds K fd ["self", "index"] [] := Fd.bindsN fun _ _ _ _ _ _ us hl => match us, hl with | [_, _], _ => rfl
  refine ⟨oe, (show xfl "BadSpan" = (["index"] : List Str) by decide +kernel), (T.glo 83), _, fd, "self", "index", me.at_, beq_iff_eq.mp me.fn, ?_, b⟩
  exact ok_x1 Fd Sc oe (noB_ok (T.says.fact 86 (q := fun K => noB K (He.ga K "BadSpan") "index"))) (by first | exact Or.inl rfl | exact Or.inr (Or.inl rfl)) (by first | exact Or.inl rfl | exact Or.inr (Or.inl rfl))
theorem x1_BadNumber (T : Txt K mg) : X1 (Gm K) P w mg base "BadNumber" "value" := by
  obtain ⟨fd, Fd⟩ := T.says.def_ 57
  have oe := oexB_ok (T.says.fact 88 (q := fun K => oexB K (He.ga K "BadNumber")))
  have me := He.meth_ok (x := "BadNumber") (m := "__init__") (T.says.fact 89)
  have Sc : FnScope ["self", "value"] ["self", "value"] (defScope (inClass (top 4) 0)) := ⟨rfl, rfl, rfl, by decide +kernel, rfl, by decide +kernel, by decide +kernel⟩
  have b : Binds K fd ["self", "value"] [] := Fd.bindsN fun _ _ _ _ _ _ us hl => match us, hl with | [_, _], _ => rfl
  refine ⟨oe, (show xfl "BadNumber" = (["value"] : List Str) by decide +kernel), (T.glo 87), _, fd, "self", "value", me.at_, beq_iff_eq.mp me.fn, ?_, b⟩
  exact ok_x1 Fd Sc oe (noB_ok (T.says.fact 90 (q := fun K => noB K (He.ga K "BadNumber") "value"))) (by first | exact Or.inl rfl | exact Or.inr (Or.inl rfl)) (by first | exact Or.inl rfl | exact Or.inr (Or.inl rfl))
theorem x0_BadTimetable (T : Txt K mg) : X0 (Gm K) P w mg base "BadTimetable" := by
  obtain ⟨fd, Fd⟩ := T.says.def_ 58
  have oe := oexB_ok (T.says.fact 91 (q := fun K => oexB K (He.ga K "BadTimetable")))
  have me := He.meth_ok (x := "BadTimetable") (m := "__init__") (T.says.fact 92)
  have Sc : FnScope ["self"] ["self"] (defScope (inClass (top 8) 0)) := ⟨rfl, rfl, rfl, by decide +kernel, rfl, by decide +kernel, by decide +kernel⟩
  have b : Binds K fd ["self"] [] := Fd.bindsN fun _ _ _ _ _ _ us hl => match us, hl with | [_], _ => rfl
  refine ⟨oe, (T.glo 53), _, fd, "self", me.at_, beq_iff_eq.mp me.fn, ?_, b⟩
  exact ok_x0 Fd Sc
theorem x0_BadMove (T : Txt K mg) : X0 (Gm K) P w mg base "BadMove" := by
  obtain ⟨fd, Fd⟩ := T.says.def_ 59
  have oe := oexB_ok (T.says.fact 93 (q := fun K => oexB K (He.ga K "BadMove")))
  have me := He.meth_ok (x := "BadMove") (m := "__init__") (T.says.fact 94)
  have Sc : FnScope ["self"] ["self"] (defScope (inClass (top 9) 0)) := ⟨rfl, rfl, rfl, by decide +kernel, rfl, by decide +kernel, by decide +kernel⟩
  have b : Binds K fd ["self"] [] := Fd.bindsN fun _ _ _ _ _ _ us hl => match us, hl with | [_], _ => rfl
  refine ⟨oe, (T.glo 54), _, fd, "self", me.at_, beq_iff_eq.mp me.fn, ?_, b⟩
  exact ok_x0 Fd Sc
theorem x1_Broken (T : Txt K mg) : X1 (Gm K) P w mg base "Broken" "index" := by
  obtain ⟨fd, Fd⟩ := T.says.def_ 60
  have oe := oexB_ok (T.says.fact 95 (q := fun K => oexB K (He.ga K "Broken")))
  have me := He.meth_ok (x := "Broken") (m := "__init__") (T.says.fact 96)
  have Sc : FnScope ["self", "index"] ["self", "index"] (defScope (inClass (top 10) 0)) := ⟨rfl, rfl, rfl, by decide +kernel, rfl, by decide +kernel, by decide +kernel⟩
  have b : Binds K fd ["self", "index"] [] := Fd.bindsN fun _ _ _ _ _ _ us hl => match us, hl with | [_, _], _ => rfl
  refine ⟨oe, (show xfl "Broken" = (["index"] : List Str) by decide +kernel), (T.glo 55), _, fd, "self", "index", me.at_, beq_iff_eq.mp me.fn, ?_, b⟩
  exact ok_x1 Fd Sc oe (noB_ok (T.says.fact 97 (q := fun K => noB K (He.ga K "Broken") "index"))) (by first | exact Or.inl rfl | exact Or.inr (Or.inl rfl)) (by first | exact Or.inl rfl | exact Or.inr (Or.inl rfl))
abbrev SbP (K : PySem.W.Frag) (z : Str × Str × Bool) : Prop := PySem.W.exmOne (Gm K).K (.ref ((Gm K).c z.1)) (.ref ((Gm K).c z.2.1)) = some z.2.2
theorem Txt.sb (T : Txt K mg) (h : Str) : ∀ E b, sb h E = some b → PySem.W.exmOne (Gm K).K (.ref ((Gm K).c E)) (.ref ((Gm K).c h)) = some b := fun E b e => tabS_ok (P := fun C n b => SbP K (C, n, b)) (all_cons (p := SbP K) (He.exm_ok (T.says.fact 99)) (all_cons (p := SbP K) (He.exm_ok (T.says.fact 104)) (all_cons (p := SbP K) (He.exm_ok (T.says.fact 109)) (all_cons (p := SbP K) (He.exm_ok (T.says.fact 114)) (all_cons (p := SbP K) (He.exm_ok (T.says.fact 119)) (all_cons (p := SbP K) (He.exm_ok (T.says.fact 124)) (all_cons (p := SbP K) (He.exm_ok (T.says.fact 129)) (by simp)))))))) e
abbrev XkP (K : PySem.W.Frag) (z : Str × CK × Bool) : Prop := L2.ExcC (Gm K).K ((Gm K).c z.1) ∧ PySem.W.kitOne (Gm K).K (.ref ((Gm K).c z.1)) (z.2.1.u (Gm K)) = some z.2.2
theorem Txt.xk (T : Txt K mg) (U : CK) : ∀ E b, xk E U = some b → L2.ExcC (Gm K).K ((Gm K).c E) ∧ PySem.W.kitOne (Gm K).K (.ref ((Gm K).c E)) (U.u (Gm K)) = some b := fun E b e => tabX_ok (P := fun C U b => XkP K (C, U, b)) (all_cons (p := XkP K) ⟨excB_ok (T.says.fact 98 (q := fun K => excB K (He.ga K "BadBeat"))), kitB_ok (T.says.fact 101 (q := fun K => kitB (Gm K) "BadBeat" (.own "BadMove") false))⟩ (all_cons (p := XkP K) ⟨excB_ok (T.says.fact 98 (q := fun K => excB K (He.ga K "BadBeat"))), kitB_ok (T.says.fact 100 (q := fun K => kitB (Gm K) "BadBeat" (.own "BadTimetable") false))⟩ (all_cons (p := XkP K) ⟨excB_ok (T.says.fact 98 (q := fun K => excB K (He.ga K "BadBeat"))), kitB_ok (T.says.fact 102 (q := fun K => kitB (Gm K) "BadBeat" (.own "Broken") false))⟩ (all_cons (p := XkP K) ⟨excB_ok (T.says.fact 103 (q := fun K => excB K (He.ga K "BadEvents"))), kitB_ok (T.says.fact 106 (q := fun K => kitB (Gm K) "BadEvents" (.own "BadMove") false))⟩ (all_cons (p := XkP K) ⟨excB_ok (T.says.fact 103 (q := fun K => excB K (He.ga K "BadEvents"))), kitB_ok (T.says.fact 105 (q := fun K => kitB (Gm K) "BadEvents" (.own "BadTimetable") false))⟩ (all_cons (p := XkP K) ⟨excB_ok (T.says.fact 103 (q := fun K => excB K (He.ga K "BadEvents"))), kitB_ok (T.says.fact 107 (q := fun K => kitB (Gm K) "BadEvents" (.own "Broken") false))⟩ (all_cons (p := XkP K) ⟨excB_ok (T.says.fact 108 (q := fun K => excB K (He.ga K "BadSpan"))), kitB_ok (T.says.fact 111 (q := fun K => kitB (Gm K) "BadSpan" (.own "BadMove") false))⟩ (all_cons (p := XkP K) ⟨excB_ok (T.says.fact 108 (q := fun K => excB K (He.ga K "BadSpan"))), kitB_ok (T.says.fact 110 (q := fun K => kitB (Gm K) "BadSpan" (.own "BadTimetable") false))⟩ (all_cons (p := XkP K) ⟨excB_ok (T.says.fact 108 (q := fun K => excB K (He.ga K "BadSpan"))), kitB_ok (T.says.fact 112 (q := fun K => kitB (Gm K) "BadSpan" (.own "Broken") false))⟩ (all_cons (p := XkP K) ⟨excB_ok (T.says.fact 113 (q := fun K => excB K (He.ga K "BadNumber"))), kitB_ok (T.says.fact 116 (q := fun K => kitB (Gm K) "BadNumber" (.own "BadMove") false))⟩ (all_cons (p := XkP K) ⟨excB_ok (T.says.fact 113 (q := fun K => excB K (He.ga K "BadNumber"))), kitB_ok (T.says.fact 115 (q := fun K => kitB (Gm K) "BadNumber" (.own "BadTimetable") false))⟩ (all_cons (p := XkP K) ⟨excB_ok (T.says.fact 113 (q := fun K => excB K (He.ga K "BadNumber"))), kitB_ok (T.says.fact 117 (q := fun K => kitB (Gm K) "BadNumber" (.own "Broken") false))⟩ (all_cons (p := XkP K) ⟨excB_ok (T.says.fact 118 (q := fun K => excB K (He.ga K "BadTimetable"))), kitB_ok (T.says.fact 121 (q := fun K => kitB (Gm K) "BadTimetable" (.own "BadMove") false))⟩ (all_cons (p := XkP K) ⟨excB_ok (T.says.fact 118 (q := fun K => excB K (He.ga K "BadTimetable"))), kitB_ok (T.says.fact 120 (q := fun K => kitB (Gm K) "BadTimetable" (.own "BadTimetable") true))⟩ (all_cons (p := XkP K) ⟨excB_ok (T.says.fact 118 (q := fun K => excB K (He.ga K "BadTimetable"))), kitB_ok (T.says.fact 122 (q := fun K => kitB (Gm K) "BadTimetable" (.own "Broken") false))⟩ (all_cons (p := XkP K) ⟨excB_ok (T.says.fact 123 (q := fun K => excB K (He.ga K "BadMove"))), kitB_ok (T.says.fact 126 (q := fun K => kitB (Gm K) "BadMove" (.own "BadMove") true))⟩ (all_cons (p := XkP K) ⟨excB_ok (T.says.fact 123 (q := fun K => excB K (He.ga K "BadMove"))), kitB_ok (T.says.fact 125 (q := fun K => kitB (Gm K) "BadMove" (.own "BadTimetable") false))⟩ (all_cons (p := XkP K) ⟨excB_ok (T.says.fact 123 (q := fun K => excB K (He.ga K "BadMove"))), kitB_ok (T.says.fact 127 (q := fun K => kitB (Gm K) "BadMove" (.own "Broken") false))⟩ (all_cons (p := XkP K) ⟨excB_ok (T.says.fact 128 (q := fun K => excB K (He.ga K "Broken"))), kitB_ok (T.says.fact 131 (q := fun K => kitB (Gm K) "Broken" (.own "BadMove") false))⟩ (all_cons (p := XkP K) ⟨excB_ok (T.says.fact 128 (q := fun K => excB K (He.ga K "Broken"))), kitB_ok (T.says.fact 130 (q := fun K => kitB (Gm K) "Broken" (.own "BadTimetable") false))⟩ (all_cons (p := XkP K) ⟨excB_ok (T.says.fact 128 (q := fun K => excB K (He.ga K "Broken"))), kitB_ok (T.says.fact 132 (q := fun K => kitB (Gm K) "Broken" (.own "Broken") true))⟩ (by simp)))))))))))))))))))))) e
theorem Txt.xf (T : Txt K mg) (x : Str) : ∀ E, x ∈ (Gm K).xfl E → XfC (Gm K).K ((Gm K).c E) ∧ PySem.W.findIn (Gm K).K (.ref ((Gm K).c E)) x = some none := by
  intro E h
  have h : x ∈ Mi_k20.xfl E := h
  unfold Mi_k20.xfl at h
  split at h
  · rename_i c; subst c; rw [List.mem_singleton.mp h]; exact ⟨excB_xf (T.says.fact 98 (q := fun K => excB K (He.ga K "BadBeat"))), noB_ok (T.says.fact 78 (q := fun K => noB K (He.ga K "BadBeat") "beat"))⟩
  split at h
  · rename_i c; subst c; rw [List.mem_singleton.mp h]; exact ⟨excB_xf (T.says.fact 103 (q := fun K => excB K (He.ga K "BadEvents"))), noB_ok (T.says.fact 82 (q := fun K => noB K (He.ga K "BadEvents") "events"))⟩
  split at h
  · rename_i c; subst c; rw [List.mem_singleton.mp h]; exact ⟨excB_xf (T.says.fact 108 (q := fun K => excB K (He.ga K "BadSpan"))), noB_ok (T.says.fact 86 (q := fun K => noB K (He.ga K "BadSpan") "index"))⟩
  split at h
  · rename_i c; subst c; rw [List.mem_singleton.mp h]; exact ⟨excB_xf (T.says.fact 113 (q := fun K => excB K (He.ga K "BadNumber"))), noB_ok (T.says.fact 90 (q := fun K => noB K (He.ga K "BadNumber") "value"))⟩
  split at h
  · rename_i c; subst c; rw [List.mem_singleton.mp h]; exact ⟨excB_xf (T.says.fact 128 (q := fun K => excB K (He.ga K "Broken"))), noB_ok (T.says.fact 97 (q := fun K => noB K (He.ga K "Broken") "index"))⟩
  cases h
/-! ### each def keeps its mirror's promise -/
theorem sc__law_source : FnScope ["_law_script", "_law_k", "_law_first"] ["_law_script", "_law_k"] (defScope (top 46)) := ⟨rfl, rfl, rfl, by decide +kernel, rfl, by decide +kernel, by decide +kernel⟩
theorem ok__law_source (T : Txt K mg) : ∃ fd, FnOk P w K mg base (L2.CX P w) 1 (He.ga K "_law_source") fd ["_law_script", "_law_k"] (spOf (Gm K) 2 f__law_source) ∧ Binds K fd ["_law_script", "_law_k"] [] ∧ PySem.W.keepIn K (.ref (He.ga K "_law_source")) = true := by
  obtain ⟨fd, Fd⟩ := T.says.def_ 0
  refine ⟨fd, ?_, Fd.bindsN fun _ _ _ _ _ _ us hl => match us, hl with | [_, _], _ => rfl, Fd.kp⟩
  refine ok_def (Γ := Gm K) (n := 3) (m := b__law_source) rfl Fd sc__law_source rfl fun cdv A outer s H E0 hr => ?_
  unfold b__law_source
  exact (qs_cons (qs_if (qt_cmp op_lt ok_cmp (q_var 1) (q_callB cr_len ok_len (T.free 0) (by decide +kernel) (qa_cons (q_var 0) qa_nil)) (nomark _)) (qs_one (qs_ret (q_lst (qa_cons (q_ix ix_seq ok_ix (q_var 0) (q_var 1) (fun _ _ => rfl)) (qa_cons (q_callTy call_int1 ok_int (T.free 1) (by decide +kernel) (qa_cons (q_cmp op_ge ok_cmp (q_ix ix_seq ok_ix (q_var 0) (q_var 1) (fun _ _ => rfl)) (q_op op_pow ok_pow q_int q_int) (nomark _)) qa_nil)) (qa_cons q_int (qa_cons (q_op op_modN ok_mod (q_callTy call_int1 ok_int (T.free 1) (by decide +kernel) (qa_cons (q_ix ix_seq ok_ix (q_var 0) (q_var 1) (fun _ _ => rfl)) qa_nil)) q_int) qa_nil))))))) qs_nil)
      (qs_cons (qs_set (i := 2) sc__law_source.nd q_int)
      (qs_cons (qs_if (qt_cmp op_gt ok_cmp (q_callB cr_len ok_len (T.free 0) (by decide +kernel) (qa_cons (q_var 0) qa_nil)) q_int (nomark _)) (qs_one (qs_set (i := 2) sc__law_source.nd (q_op op_modN ok_mod (q_callTy call_int1 ok_int (T.free 1) (by decide +kernel) (qa_cons (q_ix ix_seq ok_ix (q_var 0) q_int (fun _ _ => rfl)) qa_nil)) q_int))) qs_nil)
      (qs_one (qs_ret (q_lst (qa_cons q_int (qa_cons q_int (qa_cons q_int (qa_cons (q_op or_add ok_add (q_op or_add ok_add (q_var 2) (q_op or_mul ok_mul q_int (q_var 1))) (q_callB cr_len ok_len (T.free 0) (by decide +kernel) (qa_cons (q_var 0) qa_nil))) qa_nil))))))))))
theorem sc_is_integer : FnScope ["thing"] ["thing"] (defScope (top 12)) := ⟨rfl, rfl, rfl, by decide +kernel, rfl, by decide +kernel, by decide +kernel⟩
theorem ok_is_integer (T : Txt K mg) : ∃ fd, FnOk P w K mg base (L2.CX P w) 1 (He.ga K "is_integer") fd ["thing"] (spOf (Gm K) 1 f_is_integer) ∧ Binds K fd ["thing"] [] ∧ PySem.W.keepIn K (.ref (He.ga K "is_integer")) = true := by
  obtain ⟨fd, Fd⟩ := T.says.def_ 1
  refine ⟨fd, ?_, Fd.bindsN fun _ _ _ _ _ _ us hl => match us, hl with | [_], _ => rfl, Fd.kp⟩
  refine ok_def (Γ := Gm K) (n := 1) (m := b_is_integer) rfl Fd sc_is_integer rfl fun cdv A outer s H E0 hr => ?_
  unfold b_is_integer
  exact (qs_one (qs_ret (q_and (q_isi (T := (.bi "int")) rfl T.ins (T.is_ 5) (T.free 4) (q_var 0) (pe_bltn (v := .ty "int") rfl (T.free 1) (by decide +kernel) rfl)) (q_one (q_not (q_isi (T := (.bi "bool")) rfl T.ins (T.is_ 3) (T.free 4) (q_var 0) (pe_bltn (v := .ty "bool") rfl (T.free 2) (by decide +kernel) rfl)))))))
theorem sc_is_number : FnScope ["thing"] ["thing"] (defScope (top 14)) := ⟨rfl, rfl, rfl, by decide +kernel, rfl, by decide +kernel, by decide +kernel⟩
theorem ok_is_number (T : Txt K mg) : ∃ fd, FnOk P w K mg base (L2.CX P w) 2 (He.ga K "is_number") fd ["thing"] (spOf (Gm K) 1 f_is_number) ∧ Binds K fd ["thing"] [] ∧ PySem.W.keepIn K (.ref (He.ga K "is_number")) = true := by
  obtain ⟨fd, Fd⟩ := T.says.def_ 2
  obtain ⟨d_is_integer, G_is_integer, b_is_integer, k_is_integer⟩ := ok_is_integer (P := P) (w := w) (base := base) T
  refine ⟨fd, ?_, Fd.bindsN fun _ _ _ _ _ _ us hl => match us, hl with | [_], _ => rfl, Fd.kp⟩
  refine ok_def (Γ := Gm K) (n := 1) (m := b_is_number) rfl Fd sc_is_number rfl fun cdv A outer s H E0 hr => ?_
  unfold b_is_number
  exact (qs_one (qs_ret (q_or (q_call G_is_integer (hr.mono (by decide : 1 ≤ 1)) (T.glo 8) k_is_integer b_is_integer (takes_of rfl rfl rfl rfl) (qa_cons (q_var 0) qa_nil)) (q_one (q_isi (T := (.own "Ratio")) rfl T.ins (T.is_ 7) (T.free 4) (q_var 0) (pe_glob (v := .ref (He.ga K "Ratio")) rfl (T.glo 6) rfl))))))
theorem sc_top_of : FnScope ["number"] ["number"] (defScope (top 15)) := ⟨rfl, rfl, rfl, by decide +kernel, rfl, by decide +kernel, by decide +kernel⟩
theorem ok_top_of (T : Txt K mg) : ∃ fd, FnOk P w K mg base (L2.CX P w) 1 (He.ga K "top_of") fd ["number"] (spOf (Gm K) 1 f_top_of) ∧ Binds K fd ["number"] [] ∧ PySem.W.keepIn K (.ref (He.ga K "top_of")) = true := by
  obtain ⟨fd, Fd⟩ := T.says.def_ 3
  refine ⟨fd, ?_, Fd.bindsN fun _ _ _ _ _ _ us hl => match us, hl with | [_], _ => rfl, Fd.kp⟩
  refine ok_def (Γ := Gm K) (n := 1) (m := b_top_of) rfl Fd sc_top_of rfl fun cdv A outer s H E0 hr => ?_
  unfold b_top_of
  exact (qs_one (qs_ret (q_ifE (qt_val (q_isi (T := (.own "Ratio")) rfl T.ins (T.is_ 7) (T.free 4) (q_var 0) (pe_glob (v := .ref (He.ga K "Ratio")) rfl (T.glo 6) rfl))) (q_fld T.pl rfl (q_var 0)) (q_var 0))))
theorem sc_bottom_of : FnScope ["number"] ["number"] (defScope (top 16)) := ⟨rfl, rfl, rfl, by decide +kernel, rfl, by decide +kernel, by decide +kernel⟩
theorem ok_bottom_of (T : Txt K mg) : ∃ fd, FnOk P w K mg base (L2.CX P w) 1 (He.ga K "bottom_of") fd ["number"] (spOf (Gm K) 1 f_bottom_of) ∧ Binds K fd ["number"] [] ∧ PySem.W.keepIn K (.ref (He.ga K "bottom_of")) = true := by
  obtain ⟨fd, Fd⟩ := T.says.def_ 4
  refine ⟨fd, ?_, Fd.bindsN fun _ _ _ _ _ _ us hl => match us, hl with | [_], _ => rfl, Fd.kp⟩
  refine ok_def (Γ := Gm K) (n := 1) (m := b_bottom_of) rfl Fd sc_bottom_of rfl fun cdv A outer s H E0 hr => ?_
  unfold b_bottom_of
  exact (qs_one (qs_ret (q_ifE (qt_val (q_isi (T := (.own "Ratio")) rfl T.ins (T.is_ 7) (T.free 4) (q_var 0) (pe_glob (v := .ref (He.ga K "Ratio")) rfl (T.glo 6) rfl))) (q_fld T.pl rfl (q_var 0)) q_int)))
theorem sc_Ratio___eq__ : FnScope ["self", "other"] ["self", "other"] (defScope (inClass (top 20) 8)) := ⟨rfl, rfl, rfl, by decide +kernel, rfl, by decide +kernel, by decide +kernel⟩
theorem ok_Ratio___eq__ (T : Txt K mg) : ∃ fd, FnOk P w K mg base (L2.CX P w) 3 (He.ma K (He.ga K "Ratio") "__eq__") fd ["self", "other"] (spOf (Gm K) 2 f_Ratio___eq__) ∧ Binds K fd ["self", "other"] [] ∧ PySem.W.keepIn K (.ref (He.ma K (He.ga K "Ratio") "__eq__")) = true := by
  obtain ⟨fd, Fd⟩ := T.says.def_ 5
  obtain ⟨d_is_number, G_is_number, b_is_number, k_is_number⟩ := ok_is_number (P := P) (w := w) (base := base) T
  obtain ⟨d_bottom_of, G_bottom_of, b_bottom_of, k_bottom_of⟩ := ok_bottom_of (P := P) (w := w) (base := base) T
  obtain ⟨d_top_of, G_top_of, b_top_of, k_top_of⟩ := ok_top_of (P := P) (w := w) (base := base) T
  refine ⟨fd, ?_, Fd.bindsN fun _ _ _ _ _ _ us hl => match us, hl with | [_, _], _ => rfl, Fd.kp⟩
  refine ok_def (Γ := Gm K) (n := 2) (m := b_Ratio___eq__) rfl Fd sc_Ratio___eq__ rfl fun cdv A outer s H E0 hr => ?_
  unfold b_Ratio___eq__
  exact (qs_cons (qs_if (qt_not (qt_val (q_call G_is_number (hr.mono (by decide : 2 ≤ 2)) (T.glo 9) k_is_number b_is_number (takes_of rfl rfl rfl rfl) (qa_cons (q_var 1) qa_nil)))) (qs_one (qs_ret q_bl)) qs_nil)
      (qs_one (qs_ret (q_and (q_cmp (or_eq rfl hr oe0_no) (ok_eq T.ins) (q_fld T.pl rfl (q_var 0)) (q_call G_top_of (hr.mono (by decide : 1 ≤ 2)) (T.glo 11) k_top_of b_top_of (takes_of rfl rfl rfl rfl) (qa_cons (q_var 1) qa_nil)) (nomark _)) (q_one (q_cmp (or_eq rfl hr oe0_no) (ok_eq T.ins) (q_fld T.pl rfl (q_var 0)) (q_call G_bottom_of (hr.mono (by decide : 1 ≤ 2)) (T.glo 10) k_bottom_of b_bottom_of (takes_of rfl rfl rfl rfl) (qa_cons (q_var 1) qa_nil)) (nomark _)))))))
theorem sc_Net___eq__ : FnScope ["self", "other"] ["self", "other"] (defScope (inClass (top 27) 1)) := ⟨rfl, rfl, rfl, by decide +kernel, rfl, by decide +kernel, by decide +kernel⟩
theorem ok_Net___eq__ (T : Txt K mg) : ∃ fd, FnOk P w K mg base (L2.CX P w) 1 (He.ma K (He.ga K "Net") "__eq__") fd ["self", "other"] (spOf (Gm K) 2 f_Net___eq__) ∧ Binds K fd ["self", "other"] [] ∧ PySem.W.keepIn K (.ref (He.ma K (He.ga K "Net") "__eq__")) = true := by
  obtain ⟨fd, Fd⟩ := T.says.def_ 6
  refine ⟨fd, ?_, Fd.bindsN fun _ _ _ _ _ _ us hl => match us, hl with | [_, _], _ => rfl, Fd.kp⟩
  refine ok_def (Γ := Gm K) (n := 2) (m := b_Net___eq__) rfl Fd sc_Net___eq__ rfl fun cdv A outer s H E0 hr => ?_
  unfold b_Net___eq__
  exact (qs_cons (qs_if (qt_not (qt_val (q_isi (T := (.own "Net")) rfl T.ins (T.is_ 13) (T.free 4) (q_var 1) (pe_glob (v := .ref (He.ga K "Net")) rfl (T.glo 12) rfl)))) (qs_one (qs_ret q_bl)) qs_nil)
      (qs_one (qs_ret (q_and (q_cmp (or_eq rfl hr oe0_no) (ok_eq T.ins) (q_fld T.pl rfl (q_var 0)) (q_fld T.pl rfl (q_var 1)) (nomark _)) (q_and (q_cmp (or_eq rfl hr oe0_no) (ok_eq T.ins) (q_fld T.pl rfl (q_var 0)) (q_fld T.pl rfl (q_var 1)) (nomark _)) (q_one (q_cmp (or_eq rfl hr oe0_no) (ok_eq T.ins) (q_fld T.pl rfl (q_var 0)) (q_fld T.pl rfl (q_var 1)) (nomark _))))))))
theorem eqc (T : Txt K mg) : ∀ C m, oe C = some m → EqC (Gm K) P w mg base cs 3 C m := by
  intro C m e
  unfold oe at e
  split at e
  · rename_i c; subst c; cases e
    obtain ⟨fd, G1, b1, _⟩ := ok_Ratio___eq__ (P := P) (w := w) (base := base) T
    have me := He.meth_ok (x := "Ratio") (m := "__eq__") (T.says.fact 140)
    exact ⟨⟨_, fd, _, me.at_, me.fn, G1.mono (by decide), b1⟩, nfB_ok (T.says.fact 141 (q := fun K => nfB (Gm K) cs "Ratio"))⟩
  split at e
  · rename_i c; subst c; cases e
    obtain ⟨fd, G1, b1, _⟩ := ok_Net___eq__ (P := P) (w := w) (base := base) T
    have me := He.meth_ok (x := "Net") (m := "__eq__") (T.says.fact 143)
    exact ⟨⟨_, fd, _, me.at_, me.fn, G1.mono (by decide), b1⟩, nfB_ok (T.says.fact 144 (q := fun K => nfB (Gm K) cs "Net"))⟩
  cases e
theorem sc__law_draw : FnScope ["_law_source_here", "_law_many", "_law_number", "_law_mixed"] ["_law_source_here", "_law_many"] (defScope (top 47)) := ⟨rfl, rfl, rfl, by decide +kernel, rfl, by decide +kernel, by decide +kernel⟩
theorem ok__law_draw (T : Txt K mg) : ∃ fd, FnOk P w K mg base (L2.CX P w) 4 (He.ga K "_law_draw") fd ["_law_source_here", "_law_many"] (spOf (Gm K) 2 f__law_draw) ∧ Binds K fd ["_law_source_here", "_law_many"] [] ∧ PySem.W.keepIn K (.ref (He.ga K "_law_draw")) = true := by
  obtain ⟨fd, Fd⟩ := T.says.def_ 7
  refine ⟨fd, ?_, Fd.bindsN fun _ _ _ _ _ _ us hl => match us, hl with | [_, _], _ => rfl, Fd.kp⟩
  refine ok_def (Γ := Gm K) (n := 4) (m := b__law_draw) rfl Fd sc__law_draw rfl fun cdv A outer s H E0 hr => ?_
  unfold b__law_draw
  exact (qs_cons (qs_set (i := 2) sc__law_draw.nd (q_ix ix_seq ok_ix (q_var 0) q_int (fun _ _ => rfl)))
      (qs_cons (qs_if (PW.pt (qw_and (qt_cmp (or_eqZ rfl (hr.mono (by decide : 3 ≤ 3)) (eqc T)) (ok_eqZ T.ins) (q_ix ix_seq ok_ix (q_var 0) q_int (fun _ _ => rfl)) q_int (nomark _)) (qw_and1 (qt_cmp op_gt ok_cmp (q_var 2) q_int (nomark _))))) (qs_cons (qs_asg (q_op op_fdivA ok_div (q_var 2) (q_var 1)) (qg_sub (W := WF E0) (q_var 0) q_int))
      (qs_one (qs_ret (q_op op_modN ok_mod (q_callTy call_int1 ok_int (T.free 1) (by decide +kernel) (qa_cons (q_var 2) qa_nil)) (q_var 1))))) qs_nil)
      (qs_cons (qs_asg (q_op or_add ok_add (q_ix ix_seq ok_ix (q_var 0) q_int (fun _ _ => rfl)) q_int) (qg_sub (W := WF E0) (q_var 0) q_int))
      (qs_cons (qs_set (i := 3) sc__law_draw.nd (q_op op_modN ok_mod (q_callTy call_int1 ok_int (T.free 1) (by decide +kernel) (qa_cons (q_op or_mul ok_mul (q_op or_add ok_add (q_op or_add ok_add (q_ix ix_seq ok_ix (q_var 0) q_int (fun _ _ => rfl)) (q_op or_mul ok_mul q_int (q_ix ix_seq ok_ix (q_var 0) q_int (fun _ _ => rfl)))) q_int) q_int) qa_nil)) q_int))
      (qs_cons (qs_set (i := 3) sc__law_draw.nd (q_op op_modN ok_mod (q_callTy call_int1 ok_int (T.free 1) (by decide +kernel) (qa_cons (q_op or_mul ok_mul (q_var 3) (q_op or_add ok_add (q_op op_fdivA ok_div (q_var 3) q_int) q_int)) qa_nil)) q_int))
      (qs_cons (qs_set (i := 3) sc__law_draw.nd (q_op op_modN ok_mod (q_callTy call_int1 ok_int (T.free 1) (by decide +kernel) (qa_cons (q_op or_mul ok_mul (q_var 3) (q_op or_add ok_add (q_op op_fdivA ok_div (q_var 3) q_int) q_int)) qa_nil)) q_int))
      (qs_one (qs_ret (q_op op_modN ok_mod (q_callTy call_int1 ok_int (T.free 1) (by decide +kernel) (qa_cons (q_var 3) qa_nil)) (q_var 1))))))))))
theorem sc__law_beat : FnScope ["_law_source_here", "_law_kind"] ["_law_source_here"] (defScope (top 51)) := ⟨rfl, rfl, rfl, by decide +kernel, rfl, by decide +kernel, by decide +kernel⟩
theorem ok__law_beat (T : Txt K mg) : ∃ fd, FnOk P w K mg base (L2.CX P w) 5 (He.ga K "_law_beat") fd ["_law_source_here"] (spOf (Gm K) 1 f__law_beat) ∧ Binds K fd ["_law_source_here"] [] ∧ PySem.W.keepIn K (.ref (He.ga K "_law_beat")) = true := by
  obtain ⟨fd, Fd⟩ := T.says.def_ 8
  obtain ⟨d__law_draw, G__law_draw, b__law_draw, k__law_draw⟩ := ok__law_draw (P := P) (w := w) (base := base) T
  refine ⟨fd, ?_, Fd.bindsN fun _ _ _ _ _ _ us hl => match us, hl with | [_], _ => rfl, Fd.kp⟩
  refine ok_def (Γ := Gm K) (n := 2) (m := b__law_beat) rfl Fd sc__law_beat rfl fun cdv A outer s H E0 hr => ?_
  unfold b__law_beat
  exact (qs_cons (qs_set (i := 1) sc__law_beat.nd (q_call G__law_draw (hr.mono (by decide : 4 ≤ 4)) (T.glo 14) k__law_draw b__law_draw (takes_of rfl rfl rfl rfl) (qa_cons (q_var 0) (qa_cons q_int qa_nil))))
      (qs_cons (qs_if (qt_cmp (or_eqZ rfl (hr.mono (by decide : 3 ≤ 4)) (eqc T)) (ok_eqZ T.ins) (q_var 1) q_int (nomark _)) (qs_one (qs_ret (q_op or_add ok_add q_int (q_call G__law_draw (hr.mono (by decide : 4 ≤ 4)) (T.glo 14) k__law_draw b__law_draw (takes_of rfl rfl rfl rfl) (qa_cons (q_var 0) (qa_cons q_int qa_nil)))))) qs_nil)
      (qs_cons (qs_if (qt_cmp (or_eqZ rfl (hr.mono (by decide : 3 ≤ 4)) (eqc T)) (ok_eqZ T.ins) (q_var 1) q_int (nomark _)) (qs_one (qs_ret (q_ix ix_seq ok_ix (q_lst (qa_cons q_int (qa_cons q_int (qa_cons q_int (qa_cons q_int qa_nil))))) (q_call G__law_draw (hr.mono (by decide : 4 ≤ 4)) (T.glo 14) k__law_draw b__law_draw (takes_of rfl rfl rfl rfl) (qa_cons (q_var 0) (qa_cons q_int qa_nil))) (fun _ _ => rfl)))) qs_nil)
      (qs_one (qs_ret (q_op or_add ok_add q_int (q_call G__law_draw (hr.mono (by decide : 4 ≤ 4)) (T.glo 14) k__law_draw b__law_draw (takes_of rfl rfl rfl rfl) (qa_cons (q_var 0) (qa_cons q_int qa_nil)))))))))
theorem sc__law_parts : FnScope ["_law_source_here"] ["_law_source_here"] (defScope (top 52)) := ⟨rfl, rfl, rfl, by decide +kernel, rfl, by decide +kernel, by decide +kernel⟩
theorem ok__law_parts (T : Txt K mg) : ∃ fd, FnOk P w K mg base (L2.CX P w) 5 (He.ga K "_law_parts") fd ["_law_source_here"] (spOf (Gm K) 1 f__law_parts) ∧ Binds K fd ["_law_source_here"] [] ∧ PySem.W.keepIn K (.ref (He.ga K "_law_parts")) = true := by
  obtain ⟨fd, Fd⟩ := T.says.def_ 9
  obtain ⟨d__law_draw, G__law_draw, b__law_draw, k__law_draw⟩ := ok__law_draw (P := P) (w := w) (base := base) T
  refine ⟨fd, ?_, Fd.bindsN fun _ _ _ _ _ _ us hl => match us, hl with | [_], _ => rfl, Fd.kp⟩
  refine ok_def (Γ := Gm K) (n := 1) (m := b__law_parts) rfl Fd sc__law_parts rfl fun cdv A outer s H E0 hr => ?_
  unfold b__law_parts
  exact (qs_one (qs_ret (q_ix ix_seq ok_ix (q_lst (qa_cons q_int (qa_cons (q_op or_add ok_add q_int (q_call G__law_draw (hr.mono (by decide : 4 ≤ 4)) (T.glo 14) k__law_draw b__law_draw (takes_of rfl rfl rfl rfl) (qa_cons (q_var 0) (qa_cons q_int qa_nil)))) (qa_cons (q_op or_add ok_add q_int (q_call G__law_draw (hr.mono (by decide : 4 ≤ 4)) (T.glo 14) k__law_draw b__law_draw (takes_of rfl rfl rfl rfl) (qa_cons (q_var 0) (qa_cons (q_op op_pow ok_pow q_int q_int) qa_nil)))) qa_nil)))) (q_call G__law_draw (hr.mono (by decide : 4 ≤ 4)) (T.glo 14) k__law_draw b__law_draw (takes_of rfl rfl rfl rfl) (qa_cons (q_var 0) (qa_cons q_int qa_nil))) (fun _ _ => rfl))))
theorem sc__law_order : FnScope ["_law_source_here", "_law_many", "_law_found", "_law_k"] ["_law_source_here", "_law_many"] (defScope (top 50)) := ⟨rfl, rfl, rfl, by decide +kernel, rfl, by decide +kernel, by decide +kernel⟩
theorem ok__law_order (T : Txt K mg) : ∃ fd, FnOk P w K mg base (L2.CX P w) 5 (He.ga K "_law_order") fd ["_law_source_here", "_law_many"] (spOf (Gm K) 2 f__law_order) ∧ Binds K fd ["_law_source_here", "_law_many"] [] ∧ PySem.W.keepIn K (.ref (He.ga K "_law_order")) = true := by
  obtain ⟨fd, Fd⟩ := T.says.def_ 10
  obtain ⟨d__law_draw, G__law_draw, b__law_draw, k__law_draw⟩ := ok__law_draw (P := P) (w := w) (base := base) T
  refine ⟨fd, ?_, Fd.bindsN fun _ _ _ _ _ _ us hl => match us, hl with | [_, _], _ => rfl, Fd.kp⟩
  refine ok_def (Γ := Gm K) (n := 4) (m := b__law_order) rfl Fd sc__law_order rfl fun cdv A outer s H E0 hr => ?_
  unfold b__law_order
  exact (qs_cons (qs_set (i := 2) sc__law_order.nd (q_lst qa_nil))
      (qs_cons (qs_for (passes_of rfl) rfl (qi_rng1 (T.free 15) (qa_cons (q_var 1) qa_nil)) (qg_name (i := 3) sc__law_order.nd) (qs_one (qs_expr (q_bm rfl ok_insert PySem.F.plainAttrs_list PySem.F.slot_list_insert PySem.F.type_list_insert mt_insert (q_var 2) (qa_cons (q_call G__law_draw (hr.mono (by decide : 4 ≤ 4)) (T.glo 14) k__law_draw b__law_draw (takes_of rfl rfl rfl rfl) (qa_cons (q_var 0) (qa_cons (q_op or_add ok_add (q_var 3) q_int) qa_nil))) (qa_cons (q_var 3) qa_nil))))))
      (qs_one (qs_ret (q_var 2)))))
theorem sc__law_span : FnScope ["_law_source_here", "_law_beat_here", "_law_parts_here", "_law_moments", "_law_one", "_law_other", "_law_width", "_law_length", "_law_low", "_law_high", "_law_more", "_law_below"] ["_law_source_here", "_law_beat_here", "_law_parts_here", "_law_moments", "_law_one", "_law_other", "_law_width"] (defScope (top 55)) := ⟨rfl, rfl, rfl, by decide +kernel, rfl, by decide +kernel, by decide +kernel⟩
theorem ok__law_span (T : Txt K mg) : ∃ fd, FnOk P w K mg base (L2.CX P w) 5 (He.ga K "_law_span") fd ["_law_source_here", "_law_beat_here", "_law_parts_here", "_law_moments", "_law_one", "_law_other", "_law_width"] (spOf (Gm K) 7 f__law_span) ∧ Binds K fd ["_law_source_here", "_law_beat_here", "_law_parts_here", "_law_moments", "_law_one", "_law_other", "_law_width"] [] ∧ PySem.W.keepIn K (.ref (He.ga K "_law_span")) = true := by
  obtain ⟨fd, Fd⟩ := T.says.def_ 11
  obtain ⟨d__law_draw, G__law_draw, b__law_draw, k__law_draw⟩ := ok__law_draw (P := P) (w := w) (base := base) T
  refine ⟨fd, ?_, Fd.bindsN fun _ _ _ _ _ _ us hl => match us, hl with | [_, _, _, _, _, _, _], _ => rfl, Fd.kp⟩
  refine ok_def (Γ := Gm K) (n := 12) (m := b__law_span) rfl Fd sc__law_span rfl fun cdv A outer s H E0 hr => ?_
  unfold b__law_span
  exact (qs_cons (qs_set (i := 7) sc__law_span.nd (q_op op_modN ok_mod (q_callTy call_int1 ok_int (T.free 1) (by decide +kernel) (qa_cons (q_op op_sub ok_sub (q_ix ix_seq ok_ix (q_var 3) (q_var 5) (fun _ _ => rfl)) (q_ix ix_seq ok_ix (q_var 3) (q_var 4) (fun _ _ => rfl))) qa_nil)) (q_op or_mul ok_mul (q_var 1) (q_var 2))))
      (qs_cons (qs_set (i := 7) sc__law_span.nd (q_op or_add ok_add (q_var 7) (q_op or_mul ok_mul (q_op or_mul ok_mul (q_var 1) (q_var 2)) (q_call G__law_draw (hr.mono (by decide : 4 ≤ 4)) (T.glo 14) k__law_draw b__law_draw (takes_of rfl rfl rfl rfl) (qa_cons (q_var 0) (qa_cons (q_callB (call_min2 rfl) ok_min2 (T.free 16) (by decide +kernel) (qa_cons q_int (qa_cons (q_op op_fdivA ok_div q_int (q_var 1)) qa_nil))) qa_nil))))))
      (qs_cons (qs_set (i := 8) sc__law_span.nd (q_op op_fdivA ok_div (q_var 7) (q_var 2)))
      (qs_cons (qs_set (i := 9) sc__law_span.nd (q_un un_neg ok_neg (q_op op_fdivA ok_div (q_un un_neg ok_neg (q_var 7)) (q_var 2))))
      (qs_cons (qs_set (i := 10) sc__law_span.nd (q_call G__law_draw (hr.mono (by decide : 4 ≤ 4)) (T.glo 14) k__law_draw b__law_draw (takes_of rfl rfl rfl rfl) (qa_cons (q_var 0) (qa_cons (q_op or_add ok_add (q_callB (call_min2 rfl) ok_min2 (T.free 16) (by decide +kernel) (qa_cons (q_var 6) (qa_cons (q_op op_sub ok_sub (q_op op_sub ok_sub (q_var 1) q_int) (q_op op_sub ok_sub (q_var 9) (q_var 8))) qa_nil))) q_int) qa_nil))))
      (qs_cons (qs_set (i := 11) sc__law_span.nd (q_call G__law_draw (hr.mono (by decide : 4 ≤ 4)) (T.glo 14) k__law_draw b__law_draw (takes_of rfl rfl rfl rfl) (qa_cons (q_var 0) (qa_cons (q_op or_add ok_add (q_var 10) q_int) qa_nil))))
      (qs_one (qs_ret (q_tup (qa_cons (q_var 4) (qa_cons (q_var 5) (qa_cons (q_callB (call_max2 rfl) ok_max2 (T.free 17) (by decide +kernel) (qa_cons q_int (qa_cons (q_op op_sub ok_sub (q_var 8) (q_var 11)) qa_nil))) (qa_cons (q_callB (call_min2 rfl) ok_min2 (T.free 16) (by decide +kernel) (qa_cons q_int (qa_cons (q_op op_sub ok_sub (q_op or_add ok_add (q_var 9) (q_var 10)) (q_var 11)) qa_nil))) qa_nil)))))))))))))
theorem nec (T : Txt K mg) : ∀ C m, oe C = some m → NeC (Gm K) P w mg base 3 C m := by
  intro C m e
  unfold oe at e
  split at e
  · rename_i c; subst c; cases e
    obtain ⟨fd, G1, b1, _⟩ := ok_Ratio___eq__ (P := P) (w := w) (base := base) T
    exact ⟨_, fd, _, ownNeB_ok (T.says.fact 142 (q := fun K => ownNeB K (He.ga K "Ratio") (He.ma K (He.ga K "Ratio") "__eq__"))), G1.mono (by decide), b1⟩
  split at e
  · rename_i c; subst c; cases e
    obtain ⟨fd, G1, b1, _⟩ := ok_Net___eq__ (P := P) (w := w) (base := base) T
    exact ⟨_, fd, _, ownNeB_ok (T.says.fact 145 (q := fun K => ownNeB K (He.ga K "Net") (He.ma K (He.ga K "Net") "__eq__"))), G1.mono (by decide), b1⟩
  cases e
theorem sc__law_spans : FnScope ["_law_source_here", "_law_beat_here", "_law_parts_here", "_law_moments", "_law_loose", "_law_width", "_law_events", "_law_order_here", "_law_spans_here", "_law_k", "_law_one", "_law_other", "_law_turned", "_law_ends", "_law_kept", "_law_span_here"] ["_law_source_here", "_law_beat_here", "_law_parts_here", "_law_moments", "_law_loose", "_law_width"] (defScope (top 56)) := ⟨rfl, rfl, rfl, by decide +kernel, rfl, by decide +kernel, by decide +kernel⟩
theorem ok__law_spans (T : Txt K mg) : ∃ fd, FnOk P w K mg base (L2.CX P w) 6 (He.ga K "_law_spans") fd ["_law_source_here", "_law_beat_here", "_law_parts_here", "_law_moments", "_law_loose", "_law_width"] (spOf (Gm K) 6 f__law_spans) ∧ Binds K fd ["_law_source_here", "_law_beat_here", "_law_parts_here", "_law_moments", "_law_loose", "_law_width"] [] ∧ PySem.W.keepIn K (.ref (He.ga K "_law_spans")) = true := by
  obtain ⟨fd, Fd⟩ := T.says.def_ 12
  obtain ⟨d__law_order, G__law_order, b__law_order, k__law_order⟩ := ok__law_order (P := P) (w := w) (base := base) T
  obtain ⟨d__law_draw, G__law_draw, b__law_draw, k__law_draw⟩ := ok__law_draw (P := P) (w := w) (base := base) T
  obtain ⟨d__law_span, G__law_span, b__law_span, k__law_span⟩ := ok__law_span (P := P) (w := w) (base := base) T
  refine ⟨fd, ?_, Fd.bindsN fun _ _ _ _ _ _ us hl => match us, hl with | [_, _, _, _, _, _], _ => rfl, Fd.kp⟩
  refine ok_def (Γ := Gm K) (n := 16) (m := b__law_spans) rfl Fd sc__law_spans rfl fun cdv A outer s H E0 hr => ?_
  unfold b__law_spans
  exact (qs_cons (qs_set (i := 6) sc__law_spans.nd (q_callB cr_len ok_len (T.free 0) (by decide +kernel) (qa_cons (q_var 3) qa_nil)))
      (qs_cons (qs_set (i := 7) sc__law_spans.nd (q_call G__law_order (hr.mono (by decide : 5 ≤ 5)) (T.glo 18) k__law_order b__law_order (takes_of rfl rfl rfl rfl) (qa_cons (q_var 0) (qa_cons (q_var 6) qa_nil))))
      (qs_cons (qs_set (i := 8) sc__law_spans.nd (q_lst qa_nil))
      (qs_cons (qs_for (passes_of rfl) rfl (qi_rng2 (T.free 15) (qa_cons q_int (qa_cons (q_op or_add ok_add (q_var 6) (q_var 4)) qa_nil))) (qg_name (i := 9) sc__law_spans.nd) (qs_cons (qs_set (i := 10) sc__law_spans.nd (q_op op_modN ok_mod (q_callTy call_int1 ok_int (T.free 1) (by decide +kernel) (qa_cons (q_var 9) qa_nil)) (q_var 6)))
      (qs_cons (qs_set (i := 11) sc__law_spans.nd (q_call G__law_draw (hr.mono (by decide : 4 ≤ 5)) (T.glo 14) k__law_draw b__law_draw (takes_of rfl rfl rfl rfl) (qa_cons (q_var 0) (qa_cons (q_callB (call_max2 rfl) ok_max2 (T.free 17) (by decide +kernel) (qa_cons q_int (qa_cons (q_var 10) qa_nil))) qa_nil))))
      (qs_cons (qs_if (qt_cmp op_ge ok_cmp (q_var 9) (q_var 6) (nomark _)) (qs_cons (qs_set (i := 10) sc__law_spans.nd (q_call G__law_draw (hr.mono (by decide : 4 ≤ 5)) (T.glo 14) k__law_draw b__law_draw (takes_of rfl rfl rfl rfl) (qa_cons (q_var 0) (qa_cons (q_var 6) qa_nil))))
      (qs_one (qs_set (i := 11) sc__law_spans.nd (q_op op_modN ok_mod (q_callTy call_int1 ok_int (T.free 1) (by decide +kernel) (qa_cons (q_op or_add ok_add (q_op or_add ok_add (q_var 10) q_int) (q_call G__law_draw (hr.mono (by decide : 4 ≤ 5)) (T.glo 14) k__law_draw b__law_draw (takes_of rfl rfl rfl rfl) (qa_cons (q_var 0) (qa_cons (q_callB (call_max2 rfl) ok_max2 (T.free 17) (by decide +kernel) (qa_cons q_int (qa_cons (q_op op_sub ok_sub (q_var 6) q_int) qa_nil))) qa_nil)))) qa_nil)) (q_var 6))))) qs_nil)
      (qs_cons (qs_set (i := 12) sc__law_spans.nd (q_call G__law_draw (hr.mono (by decide : 4 ≤ 5)) (T.glo 14) k__law_draw b__law_draw (takes_of rfl rfl rfl rfl) (qa_cons (q_var 0) (qa_cons q_int qa_nil))))
      (qs_cons (qs_set (i := 13) sc__law_spans.nd (q_lst (qa_cons (q_ix ix_seq ok_ix (q_var 7) (q_var 10) (fun _ _ => rfl)) (qa_cons (q_ix ix_seq ok_ix (q_var 7) (q_var 11) (fun _ _ => rfl)) qa_nil))))
      (qs_cons (qs_set (i := 14) sc__law_spans.nd (q_or (q_cmp op_ge ok_cmp (q_var 9) (q_var 6) (nomark _)) (q_one (q_cmp op_gt ok_cmp (q_call G__law_draw (hr.mono (by decide : 4 ≤ 5)) (T.glo 14) k__law_draw b__law_draw (takes_of rfl rfl rfl rfl) (qa_cons (q_var 0) (qa_cons q_int qa_nil))) q_int (nomark _)))))
      (qs_one (qs_if (PW.pt (qw_and (qt_val (q_var 14)) (qw_and1 (qt_cmp (or_ne (k := 3) rfl (hr.mono (by decide : 4 ≤ 5)) (nec T)) ok_neX (q_var 10) (q_var 11) (nomark _))))) (qs_cons (qs_set (i := 15) sc__law_spans.nd (q_call G__law_span (hr.mono (by decide : 5 ≤ 5)) (T.glo 19) k__law_span b__law_span (takes_of rfl rfl rfl rfl) (qa_cons (q_var 0) (qa_cons (q_var 1) (qa_cons (q_var 2) (qa_cons (q_var 3) (qa_cons (q_ix ix_seq ok_ix (q_var 13) (q_var 12) (fun _ _ => rfl)) (qa_cons (q_ix ix_seq ok_ix (q_var 13) (q_op op_sub ok_sub q_int (q_var 12)) (fun _ _ => rfl)) (qa_cons (q_var 5) qa_nil)))))))))
      (qs_one (qs_if (qt_cmp (or_notInZ rfl (hr.mono (by decide : 0 ≤ 5))) ok_inZ (q_var 15) (q_var 8) (by rfl)) (qs_one (qs_expr (q_bm rfl ok_insert PySem.F.plainAttrs_list PySem.F.slot_list_insert PySem.F.type_list_insert mt_insert (q_var 8) (qa_cons (q_call G__law_draw (hr.mono (by decide : 4 ≤ 5)) (T.glo 14) k__law_draw b__law_draw (takes_of rfl rfl rfl rfl) (qa_cons (q_var 0) (qa_cons (q_op or_add ok_add (q_callB cr_len ok_len (T.free 0) (by decide +kernel) (qa_cons (q_var 8) qa_nil)) q_int) qa_nil))) (qa_cons (q_var 15) qa_nil))))) qs_nil))) qs_nil)))))))))
      (qs_one (qs_ret (q_var 8)))))))
theorem sc_is_below : FnScope ["limit", "thing"] ["limit", "thing"] (defScope (top 13)) := ⟨rfl, rfl, rfl, by decide +kernel, rfl, by decide +kernel, by decide +kernel⟩
theorem ok_is_below (T : Txt K mg) : ∃ fd, FnOk P w K mg base (L2.CX P w) 2 (He.ga K "is_below") fd ["limit", "thing"] (spOf (Gm K) 2 f_is_below) ∧ Binds K fd ["limit", "thing"] [] ∧ PySem.W.keepIn K (.ref (He.ga K "is_below")) = true := by
  obtain ⟨fd, Fd⟩ := T.says.def_ 13
  obtain ⟨d_is_integer, G_is_integer, b_is_integer, k_is_integer⟩ := ok_is_integer (P := P) (w := w) (base := base) T
  refine ⟨fd, ?_, Fd.bindsN fun _ _ _ _ _ _ us hl => match us, hl with | [_, _], _ => rfl, Fd.kp⟩
  refine ok_def (Γ := Gm K) (n := 2) (m := b_is_below) rfl Fd sc_is_below rfl fun cdv A outer s H E0 hr => ?_
  unfold b_is_below
  exact (qs_one (qs_ret (q_and (q_call G_is_integer (hr.mono (by decide : 1 ≤ 1)) (T.glo 8) k_is_integer b_is_integer (takes_of rfl rfl rfl rfl) (qa_cons (q_var 1) qa_nil)) (q_one (q_chain op_le ok_cmp op_lt ok_cmp q_int (q_var 1) (q_var 0))))))
theorem sc_is_span : FnScope ["beat", "events", "thing", "part", "i", "j", "low", "high"] ["beat", "events", "thing"] (defScope (top 29)) := ⟨rfl, rfl, rfl, by decide +kernel, rfl, by decide +kernel, by decide +kernel⟩
theorem ok_is_span (T : Txt K mg) : ∃ fd, FnOk P w K mg base (L2.CX P w) 5 (He.ga K "is_span") fd ["beat", "events", "thing"] (spOf (Gm K) 3 f_is_span) ∧ Binds K fd ["beat", "events", "thing"] [] ∧ PySem.W.keepIn K (.ref (He.ga K "is_span")) = true := by
  obtain ⟨fd, Fd⟩ := T.says.def_ 14
  obtain ⟨d_is_integer, G_is_integer, b_is_integer, k_is_integer⟩ := ok_is_integer (P := P) (w := w) (base := base) T
  obtain ⟨d_is_below, G_is_below, b_is_below, k_is_below⟩ := ok_is_below (P := P) (w := w) (base := base) T
  refine ⟨fd, ?_, Fd.bindsN fun _ _ _ _ _ _ us hl => match us, hl with | [_, _, _], _ => rfl, Fd.kp⟩
  refine ok_def (Γ := Gm K) (n := 8) (m := b_is_span) rfl Fd sc_is_span rfl fun cdv A outer s H E0 hr => ?_
  unfold b_is_span
  exact (qs_cons (qs_if (PW.pt (qw_or (qt_not (qt_val (q_isi (T := (.bi "tuple")) rfl T.ins (T.is_ 21) (T.free 4) (q_var 2) (pe_bltn (v := .ty "tuple") rfl (T.free 20) (by decide +kernel) rfl)))) (qw_or1 (qt_cmp (or_ne (k := 3) rfl (hr.mono (by decide : 4 ≤ 4)) (nec T)) ok_neX (q_callB cr_len ok_len (T.free 0) (by decide +kernel) (qa_cons (q_var 2) qa_nil)) q_int (nomark _))))) (qs_one (qs_ret q_bl)) qs_nil)
      (qs_cons (qs_if (qt_not (qt_val (q_callB (cr_all rfl) ok_all (T.free 22) (by decide +kernel) (qa_cons (q_lc (own := [("part", 3)]) (g := (.nm 3)) rfl rfl sc_is_span.nd (qi_seq rfl (q_var 2)) (blkOk_by (N := ["beat", "events", "thing", "part", "i", "j", "low", "high"]) (sc := defScope (top 29)) (by decide +kernel)) (fun _ _ _ _ _ => (qr_nm (Γ := Gm K) (i := 3) sc_is_span.nd)) (fun _ _ _ _ _ => qts_nil) (fun _ _ _ _ _ => (q_call G_is_integer (hr.mono (by decide : 1 ≤ 4)) (T.glo 8) k_is_integer b_is_integer takes0 (qa_cons (q_var 3) qa_nil)))) qa_nil)))) (qs_one (qs_ret q_bl)) qs_nil)
      (qs_cons (qs_asg (q_var 2) (qg_tup rfl rfl (qgs_cons (qg_name (i := 4) sc_is_span.nd) (qgs_cons (qg_name (i := 5) sc_is_span.nd) (qgs_cons (qg_name (i := 6) sc_is_span.nd) (qgs_cons (qg_name (i := 7) sc_is_span.nd) qgs_nil))))))
      (qs_cons (qs_if (PW.pt (qw_or (qt_not (qt_val (q_call G_is_below (hr.mono (by decide : 2 ≤ 4)) (T.glo 23) k_is_below b_is_below (takes_of rfl rfl rfl rfl) (qa_cons (q_var 1) (qa_cons (q_var 4) qa_nil))))) (qw_or (qt_not (qt_val (q_call G_is_below (hr.mono (by decide : 2 ≤ 4)) (T.glo 23) k_is_below b_is_below (takes_of rfl rfl rfl rfl) (qa_cons (q_var 1) (qa_cons (q_var 5) qa_nil))))) (qw_or1 (qt_cmp (or_eqZ rfl (hr.mono (by decide : 3 ≤ 4)) (eqc T)) (ok_eqZ T.ins) (q_var 4) (q_var 5) (nomark _)))))) (qs_one (qs_ret q_bl)) qs_nil)
      (qs_one (qs_ret (q_and (q_chain3 op_le ok_cmp op_le ok_cmp op_le ok_cmp q_int (q_var 6) (q_var 7) (q_gint (T.cint (x := "MOST_HIGH") (v := 2880) 24))) (q_one (q_cmp op_le ok_cmp (q_op op_sub ok_sub (q_var 7) (q_var 6)) (q_op op_sub ok_sub (q_var 0) q_int) (nomark _))))))))))
theorem sc_spans_fault : FnScope ["beat", "events", "thing", "index", "span"] ["beat", "events", "thing"] (defScope (top 30)) := ⟨rfl, rfl, rfl, by decide +kernel, rfl, by decide +kernel, by decide +kernel⟩
theorem ok_spans_fault (T : Txt K mg) : ∃ fd, FnOk P w K mg base (L2.CX P w) 6 (He.ga K "spans_fault") fd ["beat", "events", "thing"] (spOf (Gm K) 3 f_spans_fault) ∧ Binds K fd ["beat", "events", "thing"] [] ∧ PySem.W.keepIn K (.ref (He.ga K "spans_fault")) = true := by
  obtain ⟨fd, Fd⟩ := T.says.def_ 15
  obtain ⟨d_is_span, G_is_span, b_is_span, k_is_span⟩ := ok_is_span (P := P) (w := w) (base := base) T
  refine ⟨fd, ?_, Fd.bindsN fun _ _ _ _ _ _ us hl => match us, hl with | [_, _, _], _ => rfl, Fd.kp⟩
  refine ok_def (Γ := Gm K) (n := 5) (m := b_spans_fault) rfl Fd sc_spans_fault rfl fun cdv A outer s H E0 hr => ?_
  unfold b_spans_fault
  exact (qs_cons (qs_if (PW.pt (qw_or (qt_not (qt_val (q_isiT rfl T.ins (all_cons (T.is_ 27) (all_cons (T.is_ 21) (fun _ h => nomatch h))) (T.free 4) (q_var 2) (.cons (pe_bltn (v := .ty "list") rfl (T.free 26) (by decide +kernel) rfl) (.cons (pe_bltn (v := .ty "tuple") rfl (T.free 20) (by decide +kernel) rfl) .nil rfl) rfl)))) (qw_or1 (qt_cmp op_gt ok_cmp (q_callB cr_len ok_len (T.free 0) (by decide +kernel) (qa_cons (q_var 2) qa_nil)) (q_gint (T.cint (x := "MOST_SPANS") (v := 60) 25)) (nomark _))))) (qs_one (qs_ret (q_un un_neg ok_neg q_int))) qs_nil)
      (qs_cons (qs_for (passes_of rfl) rfl (qi_enuZ rfl (T.free 28) (q_var 2)) (qg_tup rfl rfl (qgs_cons (qg_name (i := 3) sc_spans_fault.nd) (qgs_cons (qg_name (i := 4) sc_spans_fault.nd) qgs_nil))) (qs_one (qs_if (PW.pt (qw_or (qt_not (qt_val (q_call G_is_span (hr.mono (by decide : 5 ≤ 5)) (T.glo 29) k_is_span b_is_span (takes_of rfl rfl rfl rfl) (qa_cons (q_var 0) (qa_cons (q_var 1) (qa_cons (q_var 4) qa_nil)))))) (qw_or1 (qt_cmp (or_inZ rfl (hr.mono (by decide : 0 ≤ 5))) ok_inZ (q_var 4) (q_sl rfl (q_var 2) qo_none (qo_some (q_var 3))) (by rfl))))) (qs_one (qs_ret (q_var 3))) qs_nil)))
      (qs_one (qs_ret q_non))))
theorem sc_are_events : FnScope ["thing"] ["thing"] (defScope (top 28)) := ⟨rfl, rfl, rfl, by decide +kernel, rfl, by decide +kernel, by decide +kernel⟩
theorem ok_are_events (T : Txt K mg) : ∃ fd, FnOk P w K mg base (L2.CX P w) 2 (He.ga K "are_events") fd ["thing"] (spOf (Gm K) 1 f_are_events) ∧ Binds K fd ["thing"] [] ∧ PySem.W.keepIn K (.ref (He.ga K "are_events")) = true := by
  obtain ⟨fd, Fd⟩ := T.says.def_ 16
  obtain ⟨d_is_integer, G_is_integer, b_is_integer, k_is_integer⟩ := ok_is_integer (P := P) (w := w) (base := base) T
  refine ⟨fd, ?_, Fd.bindsN fun _ _ _ _ _ _ us hl => match us, hl with | [_], _ => rfl, Fd.kp⟩
  refine ok_def (Γ := Gm K) (n := 1) (m := b_are_events) rfl Fd sc_are_events rfl fun cdv A outer s H E0 hr => ?_
  unfold b_are_events
  exact (qs_one (qs_ret (q_and (q_call G_is_integer (hr.mono (by decide : 1 ≤ 1)) (T.glo 8) k_is_integer b_is_integer (takes_of rfl rfl rfl rfl) (qa_cons (q_var 0) qa_nil)) (q_one (q_chain op_le ok_cmp op_le ok_cmp q_int (q_var 0) (q_gint (T.cint (x := "MOST_EVENTS") (v := 24) 30)))))))
theorem sc_Net___init__ : FnScope ["self", "beat", "events", "spans", "fault"] ["self", "beat", "events", "spans"] (defScope (inClass (top 27) 0)) := ⟨rfl, rfl, rfl, by decide +kernel, rfl, by decide +kernel, by decide +kernel⟩
theorem ok_Net___init__ (T : Txt K mg) : ∃ fd, FnOk P w K mg base (L2.CX P w) 7 (He.ma K (He.ga K "Net") "__init__") fd ["self", "beat", "events", "spans"] (spOf (Gm K) 4 f_Net___init__) ∧ Binds K fd ["self", "beat", "events", "spans"] [] ∧ PySem.W.keepIn K (.ref (He.ma K (He.ga K "Net") "__init__")) = true := by
  obtain ⟨fd, Fd⟩ := T.says.def_ 17
  obtain ⟨d_is_integer, G_is_integer, b_is_integer, k_is_integer⟩ := ok_is_integer (P := P) (w := w) (base := base) T
  obtain ⟨d_are_events, G_are_events, b_are_events, k_are_events⟩ := ok_are_events (P := P) (w := w) (base := base) T
  obtain ⟨d_spans_fault, G_spans_fault, b_spans_fault, k_spans_fault⟩ := ok_spans_fault (P := P) (w := w) (base := base) T
  refine ⟨fd, ?_, Fd.bindsN fun _ _ _ _ _ _ us hl => match us, hl with | [_, _, _, _], _ => rfl, Fd.kp⟩
  refine ok_def (Γ := Gm K) (n := 5) (m := b_Net___init__) rfl Fd sc_Net___init__ rfl fun cdv A outer s H E0 hr => ?_
  unfold b_Net___init__
  exact (qs_cons (qs_if (PW.pt (qw_or (qt_not (qt_val (q_call G_is_integer (hr.mono (by decide : 1 ≤ 6)) (T.glo 8) k_is_integer b_is_integer (takes_of rfl rfl rfl rfl) (qa_cons (q_var 1) qa_nil)))) (qw_or1 (qt_not (qt_chain op_le ok_cmp op_le ok_cmp (q_gint (T.cint (x := "LEAST_BEAT") (v := 3) 31)) (q_var 1) (q_gint (T.cint (x := "MOST_BEAT") (v := 1440) 32))))))) (qs_one (qs_raise1 rfl (x1_BadBeat T) rfl (takes_of rfl rfl rfl rfl) (hr.mono (by decide : 2 ≤ 6)) (by decide) (q_var 1))) qs_nil)
      (qs_cons (qs_if (qt_not (qt_val (q_call G_are_events (hr.mono (by decide : 2 ≤ 6)) (T.glo 33) k_are_events b_are_events (takes_of rfl rfl rfl rfl) (qa_cons (q_var 2) qa_nil)))) (qs_one (qs_raise1 rfl (x1_BadEvents T) rfl (takes_of rfl rfl rfl rfl) (hr.mono (by decide : 2 ≤ 6)) (by decide) (q_var 2))) qs_nil)
      (qs_cons (qs_set (i := 4) sc_Net___init__.nd (q_call G_spans_fault (hr.mono (by decide : 6 ≤ 6)) (T.glo 34) k_spans_fault b_spans_fault (takes_of rfl rfl rfl rfl) (qa_cons (q_var 1) (qa_cons (q_var 2) (qa_cons (q_var 3) qa_nil)))))
      (qs_cons (qs_if (qt_cmp op_notN ok_notN (q_var 4) q_non (nomark _)) (qs_one (qs_raise1 rfl (x1_BadSpan T) rfl (takes_of rfl rfl rfl rfl) (hr.mono (by decide : 2 ≤ 6)) (by decide) (q_var 4))) qs_nil)
      (qs_cons (qs_setF (i := 0) T.pl rfl (q_var 1))
      (qs_cons (qs_setF (i := 0) T.pl rfl (q_var 2))
      (qs_one (qs_setF (i := 0) T.pl rfl (q_callTy call_tuple_of ok_tuple (T.free 20) (by decide +kernel) (qa_cons (q_var 3) qa_nil))))))))))
theorem sc_Ratio___init__ : FnScope ["self", "top", "bottom", "value", "common"] ["self", "top", "bottom"] (defScope (inClass (top 20) 0)) := ⟨rfl, rfl, rfl, by decide +kernel, rfl, by decide +kernel, by decide +kernel⟩
theorem ok_Ratio___init__ (T : Txt K mg) : ∃ fd, FnOk P w K mg base (L2.CX P w) 4 (He.ma K (He.ga K "Ratio") "__init__") fd ["self", "top", "bottom"] (spOf (Gm K) 3 f_Ratio___init__) ∧ Binds K fd ["self", "top", "bottom"] [] ∧ PySem.W.keepIn K (.ref (He.ma K (He.ga K "Ratio") "__init__")) = true := by
  obtain ⟨fd, Fd⟩ := T.says.def_ 18
  obtain ⟨d_is_integer, G_is_integer, b_is_integer, k_is_integer⟩ := ok_is_integer (P := P) (w := w) (base := base) T
  refine ⟨fd, ?_, Fd.bindsN fun _ _ _ _ _ _ us hl => match us, hl with | [_, _, _], _ => rfl, Fd.kp⟩
  refine ok_def (Γ := Gm K) (n := 5) (m := b_Ratio___init__) rfl Fd sc_Ratio___init__ rfl fun cdv A outer s H E0 hr => ?_
  unfold b_Ratio___init__
  exact (qs_cons (qs_for (passes_of rfl) rfl (qi_seq rfl (q_tup (qa_cons (q_var 1) (qa_cons (q_var 2) qa_nil)))) (qg_name (i := 3) sc_Ratio___init__.nd) (qs_one (qs_if (qt_not (qt_val (q_call G_is_integer (hr.mono (by decide : 1 ≤ 3)) (T.glo 8) k_is_integer b_is_integer (takes_of rfl rfl rfl rfl) (qa_cons (q_var 3) qa_nil)))) (qs_one (qs_raise1 rfl (x1_BadNumber T) rfl (takes_of rfl rfl rfl rfl) (hr.mono (by decide : 2 ≤ 3)) (by decide) (q_var 3))) qs_nil)))
      (qs_cons (qs_if (qt_cmp (or_eqZ rfl (hr.mono (by decide : 3 ≤ 3)) (eqc T)) (ok_eqZ T.ins) (q_var 2) q_int (nomark _)) (qs_one (qs_raise1 rfl (x1_BadNumber T) rfl (takes_of rfl rfl rfl rfl) (hr.mono (by decide : 2 ≤ 3)) (by decide) (q_var 2))) qs_nil)
      (qs_cons (qs_set (i := 4) sc_Ratio___init__.nd (q_ifE (qt_cmp op_gt ok_cmp (q_var 2) q_int (nomark _)) (q_callG cr_gcd ok_gcd (T.bi 35) (qa_cons (q_var 1) (qa_cons (q_var 2) qa_nil))) (q_un un_neg ok_neg (q_callG cr_gcd ok_gcd (T.bi 35) (qa_cons (q_var 1) (qa_cons (q_var 2) qa_nil))))))
      (qs_cons (qs_setF (i := 0) T.pl rfl (q_op op_fdivA ok_div (q_var 1) (q_var 4)))
      (qs_one (qs_setF (i := 0) T.pl rfl (q_op op_fdivA ok_div (q_var 2) (q_var 4))))))))
theorem sc__law_odd : FnScope ["_law_source_here", "_law_things"] ["_law_source_here"] (defScope (top 49)) := ⟨rfl, rfl, rfl, by decide +kernel, rfl, by decide +kernel, by decide +kernel⟩
theorem ok__law_odd (T : Txt K mg) : ∃ fd, FnOk P w K mg base (L2.CX P w) 6 (He.ga K "_law_odd") fd ["_law_source_here"] (spOf (Gm K) 1 f__law_odd) ∧ Binds K fd ["_law_source_here"] [] ∧ PySem.W.keepIn K (.ref (He.ga K "_law_odd")) = true := by
  obtain ⟨fd, Fd⟩ := T.says.def_ 19
  obtain ⟨d_Ratio___init__, G_Ratio___init__, b_Ratio___init__, k_Ratio___init__⟩ := ok_Ratio___init__ (P := P) (w := w) (base := base) T
  obtain ⟨d__law_draw, G__law_draw, b__law_draw, k__law_draw⟩ := ok__law_draw (P := P) (w := w) (base := base) T
  refine ⟨fd, ?_, Fd.bindsN fun _ _ _ _ _ _ us hl => match us, hl with | [_], _ => rfl, Fd.kp⟩
  refine ok_def (Γ := Gm K) (n := 2) (m := b__law_odd) rfl Fd sc__law_odd rfl fun cdv A outer s H E0 hr => ?_
  unfold b__law_odd
  exact (qs_cons (qs_set (i := 1) sc__law_odd.nd (q_lst (qa_cons q_non (qa_cons q_bl (qa_cons q_bl (qa_cons q_str (qa_cons q_str (qa_cons (q_tup qa_nil) (qa_cons (q_tup (qa_cons q_int qa_nil)) (qa_cons (q_lst qa_nil) (qa_cons (q_lst (qa_cons q_int qa_nil)) (qa_cons q_dict0 (qa_cons (q_dict1 q_int q_int) (qa_cons q_str (qa_cons (q_make (C := "Ratio") (T.pl.1 _ (by decide)).sub (T.mkr 36) G_Ratio___init__ (hr.mono (by decide : 5 ≤ 5)) (T.glo 6) b_Ratio___init__ (takes_of rfl rfl rfl rfl) (qa_cons q_int (qa_cons q_int qa_nil))) (qa_cons (q_make (C := "Ratio") (T.pl.1 _ (by decide)).sub (T.mkr 36) G_Ratio___init__ (hr.mono (by decide : 5 ≤ 5)) (T.glo 6) b_Ratio___init__ (takes_of rfl rfl rfl rfl) (qa_cons q_int (qa_cons q_int qa_nil))) qa_nil))))))))))))))))
      (qs_one (qs_ret (q_ix ix_seq ok_ix (q_var 1) (q_call G__law_draw (hr.mono (by decide : 4 ≤ 5)) (T.glo 14) k__law_draw b__law_draw (takes_of rfl rfl rfl rfl) (qa_cons (q_var 0) (qa_cons q_int qa_nil))) (fun _ _ => rfl)))))
theorem sc__law_moment : FnScope ["_law_source_here", "_law_beat_here", "_law_parts_here", "_law_whole"] ["_law_source_here", "_law_beat_here", "_law_parts_here"] (defScope (top 53)) := ⟨rfl, rfl, rfl, by decide +kernel, rfl, by decide +kernel, by decide +kernel⟩
theorem ok__law_moment (T : Txt K mg) : ∃ fd, FnOk P w K mg base (L2.CX P w) 5 (He.ga K "_law_moment") fd ["_law_source_here", "_law_beat_here", "_law_parts_here"] (spOf (Gm K) 3 f__law_moment) ∧ Binds K fd ["_law_source_here", "_law_beat_here", "_law_parts_here"] [] ∧ PySem.W.keepIn K (.ref (He.ga K "_law_moment")) = true := by
  obtain ⟨fd, Fd⟩ := T.says.def_ 20
  obtain ⟨d__law_draw, G__law_draw, b__law_draw, k__law_draw⟩ := ok__law_draw (P := P) (w := w) (base := base) T
  refine ⟨fd, ?_, Fd.bindsN fun _ _ _ _ _ _ us hl => match us, hl with | [_, _, _], _ => rfl, Fd.kp⟩
  refine ok_def (Γ := Gm K) (n := 4) (m := b__law_moment) rfl Fd sc__law_moment rfl fun cdv A outer s H E0 hr => ?_
  unfold b__law_moment
  exact (qs_cons (qs_set (i := 3) sc__law_moment.nd (q_op or_mul ok_mul (q_call G__law_draw (hr.mono (by decide : 4 ≤ 4)) (T.glo 14) k__law_draw b__law_draw (takes_of rfl rfl rfl rfl) (qa_cons (q_var 0) (qa_cons (q_var 1) qa_nil))) (q_var 2)))
      (qs_cons (qs_if (qt_cmp (or_eqZ rfl (hr.mono (by decide : 3 ≤ 4)) (eqc T)) (ok_eqZ T.ins) (q_call G__law_draw (hr.mono (by decide : 4 ≤ 4)) (T.glo 14) k__law_draw b__law_draw (takes_of rfl rfl rfl rfl) (qa_cons (q_var 0) (qa_cons q_int qa_nil))) q_int (nomark _)) (qs_one (qs_ret (q_var 3))) qs_nil)
      (qs_one (qs_ret (q_op or_add ok_add (q_var 3) (q_call G__law_draw (hr.mono (by decide : 4 ≤ 4)) (T.glo 14) k__law_draw b__law_draw (takes_of rfl rfl rfl rfl) (qa_cons (q_var 0) (qa_cons (q_var 2) qa_nil))))))))
theorem sc_plain : FnScope ["number"] ["number"] (defScope (top 18)) := ⟨rfl, rfl, rfl, by decide +kernel, rfl, by decide +kernel, by decide +kernel⟩
theorem ok_plain (T : Txt K mg) : ∃ fd, FnOk P w K mg base (L2.CX P w) 4 (He.ga K "plain") fd ["number"] (spOf (Gm K) 1 f_plain) ∧ Binds K fd ["number"] [] ∧ PySem.W.keepIn K (.ref (He.ga K "plain")) = true := by
  obtain ⟨fd, Fd⟩ := T.says.def_ 21
  obtain ⟨d_bottom_of, G_bottom_of, b_bottom_of, k_bottom_of⟩ := ok_bottom_of (P := P) (w := w) (base := base) T
  obtain ⟨d_top_of, G_top_of, b_top_of, k_top_of⟩ := ok_top_of (P := P) (w := w) (base := base) T
  refine ⟨fd, ?_, Fd.bindsN fun _ _ _ _ _ _ us hl => match us, hl with | [_], _ => rfl, Fd.kp⟩
  refine ok_def (Γ := Gm K) (n := 1) (m := b_plain) rfl Fd sc_plain rfl fun cdv A outer s H E0 hr => ?_
  unfold b_plain
  exact (qs_one (qs_ret (q_ifE (qt_cmp (or_eqZ rfl (hr.mono (by decide : 3 ≤ 3)) (eqc T)) (ok_eqZ T.ins) (q_call G_bottom_of (hr.mono (by decide : 1 ≤ 3)) (T.glo 10) k_bottom_of b_bottom_of (takes_of rfl rfl rfl rfl) (qa_cons (q_var 0) qa_nil)) q_int (nomark _)) (q_call G_top_of (hr.mono (by decide : 1 ≤ 3)) (T.glo 11) k_top_of b_top_of (takes_of rfl rfl rfl rfl) (qa_cons (q_var 0) qa_nil)) (q_var 0))))
theorem sc_Ratio_rest : FnScope ["self", "beat"] ["self", "beat"] (defScope (inClass (top 20) 14)) := ⟨rfl, rfl, rfl, by decide +kernel, rfl, by decide +kernel, by decide +kernel⟩
theorem ok_Ratio_rest (T : Txt K mg) : ∃ fd, FnOk P w K mg base (L2.CX P w) 6 (He.ma K (He.ga K "Ratio") "rest") fd ["self", "beat"] (spOf (Gm K) 2 f_Ratio_rest) ∧ Binds K fd ["self", "beat"] [] ∧ PySem.W.keepIn K (.ref (He.ma K (He.ga K "Ratio") "rest")) = true := by
  obtain ⟨fd, Fd⟩ := T.says.def_ 22
  obtain ⟨d_Ratio___init__, G_Ratio___init__, b_Ratio___init__, k_Ratio___init__⟩ := ok_Ratio___init__ (P := P) (w := w) (base := base) T
  refine ⟨fd, ?_, Fd.bindsN fun _ _ _ _ _ _ us hl => match us, hl with | [_, _], _ => rfl, Fd.kp⟩
  refine ok_def (Γ := Gm K) (n := 2) (m := b_Ratio_rest) rfl Fd sc_Ratio_rest rfl fun cdv A outer s H E0 hr => ?_
  unfold b_Ratio_rest
  exact (qs_one (qs_ret (q_make (C := "Ratio") (T.pl.1 _ (by decide)).sub (T.mkr 36) G_Ratio___init__ (hr.mono (by decide : 5 ≤ 5)) (T.glo 6) b_Ratio___init__ (takes_of rfl rfl rfl rfl) (qa_cons (q_op op_modN ok_mod (q_fld T.pl rfl (q_var 0)) (q_op or_mul ok_mul (q_fld T.pl rfl (q_var 0)) (q_var 1))) (qa_cons (q_fld T.pl rfl (q_var 0)) qa_nil)))))
theorem sc_rest_of : FnScope ["number", "beat"] ["number", "beat"] (defScope (top 19)) := ⟨rfl, rfl, rfl, by decide +kernel, rfl, by decide +kernel, by decide +kernel⟩
theorem ok_rest_of (T : Txt K mg) : ∃ fd, FnOk P w K mg base (L2.CX P w) 7 (He.ga K "rest_of") fd ["number", "beat"] (spOf (Gm K) 2 f_rest_of) ∧ Binds K fd ["number", "beat"] [] ∧ PySem.W.keepIn K (.ref (He.ga K "rest_of")) = true := by
  obtain ⟨fd, Fd⟩ := T.says.def_ 23
  obtain ⟨d_plain, G_plain, b_plain, k_plain⟩ := ok_plain (P := P) (w := w) (base := base) T
  obtain ⟨d_Ratio_rest, G_Ratio_rest, b_Ratio_rest, k_Ratio_rest⟩ := ok_Ratio_rest (P := P) (w := w) (base := base) T
  refine ⟨fd, ?_, Fd.bindsN fun _ _ _ _ _ _ us hl => match us, hl with | [_, _], _ => rfl, Fd.kp⟩
  refine ok_def (Γ := Gm K) (n := 2) (m := b_rest_of) rfl Fd sc_rest_of rfl fun cdv A outer s H E0 hr => ?_
  unfold b_rest_of
  exact (qs_one (qs_ret (q_ifE (qt_val (q_isi (T := (.own "Ratio")) rfl T.ins (T.is_ 7) (T.free 4) (q_var 0) (pe_glob (v := .ref (He.ga K "Ratio")) rfl (T.glo 6) rfl))) (q_call G_plain (hr.mono (by decide : 4 ≤ 6)) (T.glo 38) k_plain b_plain (takes_of rfl rfl rfl rfl) (qa_cons (q_meth (C := "Ratio") (show ("rest" : Str) ∉ af by decide +kernel) (T.pl.1 _ (by decide)).cls (He.meth_ok (x := "Ratio") (m := "rest") (T.says.fact 37)) G_Ratio_rest (hr.mono (by decide : 6 ≤ 6)) b_Ratio_rest (takes_of rfl rfl rfl rfl) (q_var 0) (qa_cons (q_var 1) qa_nil)) qa_nil)) (q_op op_modN ok_mod (q_var 0) (q_var 1)))))
theorem sc_Ratio___add__ : FnScope ["self", "other", "top"] ["self", "other"] (defScope (inClass (top 20) 1)) := ⟨rfl, rfl, rfl, by decide +kernel, rfl, by decide +kernel, by decide +kernel⟩
theorem ok_Ratio___add__ (T : Txt K mg) : ∃ fd, FnOk P w K mg base (L2.CX P w) 6 (He.ma K (He.ga K "Ratio") "__add__") fd ["self", "other"] (spOf (Gm K) 2 f_Ratio___add__) ∧ Binds K fd ["self", "other"] [] ∧ PySem.W.keepIn K (.ref (He.ma K (He.ga K "Ratio") "__add__")) = true := by
  obtain ⟨fd, Fd⟩ := T.says.def_ 24
  obtain ⟨d_is_number, G_is_number, b_is_number, k_is_number⟩ := ok_is_number (P := P) (w := w) (base := base) T
  obtain ⟨d_bottom_of, G_bottom_of, b_bottom_of, k_bottom_of⟩ := ok_bottom_of (P := P) (w := w) (base := base) T
  obtain ⟨d_top_of, G_top_of, b_top_of, k_top_of⟩ := ok_top_of (P := P) (w := w) (base := base) T
  obtain ⟨d_Ratio___init__, G_Ratio___init__, b_Ratio___init__, k_Ratio___init__⟩ := ok_Ratio___init__ (P := P) (w := w) (base := base) T
  refine ⟨fd, ?_, Fd.bindsN fun _ _ _ _ _ _ us hl => match us, hl with | [_, _], _ => rfl, Fd.kp⟩
  refine ok_def (Γ := Gm K) (n := 3) (m := b_Ratio___add__) rfl Fd sc_Ratio___add__ rfl fun cdv A outer s H E0 hr => ?_
  unfold b_Ratio___add__
  exact (qs_cons (qs_if (qt_not (qt_val (q_call G_is_number (hr.mono (by decide : 2 ≤ 5)) (T.glo 9) k_is_number b_is_number (takes_of rfl rfl rfl rfl) (qa_cons (q_var 1) qa_nil)))) (qs_one qs_bad) qs_nil)
      (qs_cons (qs_set (i := 2) sc_Ratio___add__.nd (q_op or_add ok_add (q_op or_mul ok_mul (q_fld T.pl rfl (q_var 0)) (q_call G_bottom_of (hr.mono (by decide : 1 ≤ 5)) (T.glo 10) k_bottom_of b_bottom_of (takes_of rfl rfl rfl rfl) (qa_cons (q_var 1) qa_nil))) (q_op or_mul ok_mul (q_call G_top_of (hr.mono (by decide : 1 ≤ 5)) (T.glo 11) k_top_of b_top_of (takes_of rfl rfl rfl rfl) (qa_cons (q_var 1) qa_nil)) (q_fld T.pl rfl (q_var 0)))))
      (qs_one (qs_ret (q_make (C := "Ratio") (T.pl.1 _ (by decide)).sub (T.mkr 36) G_Ratio___init__ (hr.mono (by decide : 5 ≤ 5)) (T.glo 6) b_Ratio___init__ (takes_of rfl rfl rfl rfl) (qa_cons (q_var 2) (qa_cons (q_op or_mul ok_mul (q_fld T.pl rfl (q_var 0)) (q_call G_bottom_of (hr.mono (by decide : 1 ≤ 5)) (T.glo 10) k_bottom_of b_bottom_of (takes_of rfl rfl rfl rfl) (qa_cons (q_var 1) qa_nil))) qa_nil)))))))
theorem sc_Ratio___sub__ : FnScope ["self", "other", "top"] ["self", "other"] (defScope (inClass (top 20) 3)) := ⟨rfl, rfl, rfl, by decide +kernel, rfl, by decide +kernel, by decide +kernel⟩
theorem ok_Ratio___sub__ (T : Txt K mg) : ∃ fd, FnOk P w K mg base (L2.CX P w) 6 (He.ma K (He.ga K "Ratio") "__sub__") fd ["self", "other"] (spOf (Gm K) 2 f_Ratio___sub__) ∧ Binds K fd ["self", "other"] [] ∧ PySem.W.keepIn K (.ref (He.ma K (He.ga K "Ratio") "__sub__")) = true := by
  obtain ⟨fd, Fd⟩ := T.says.def_ 25
  obtain ⟨d_is_number, G_is_number, b_is_number, k_is_number⟩ := ok_is_number (P := P) (w := w) (base := base) T
  obtain ⟨d_bottom_of, G_bottom_of, b_bottom_of, k_bottom_of⟩ := ok_bottom_of (P := P) (w := w) (base := base) T
  obtain ⟨d_top_of, G_top_of, b_top_of, k_top_of⟩ := ok_top_of (P := P) (w := w) (base := base) T
  obtain ⟨d_Ratio___init__, G_Ratio___init__, b_Ratio___init__, k_Ratio___init__⟩ := ok_Ratio___init__ (P := P) (w := w) (base := base) T
  refine ⟨fd, ?_, Fd.bindsN fun _ _ _ _ _ _ us hl => match us, hl with | [_, _], _ => rfl, Fd.kp⟩
  refine ok_def (Γ := Gm K) (n := 3) (m := b_Ratio___sub__) rfl Fd sc_Ratio___sub__ rfl fun cdv A outer s H E0 hr => ?_
  unfold b_Ratio___sub__
  exact (qs_cons (qs_if (qt_not (qt_val (q_call G_is_number (hr.mono (by decide : 2 ≤ 5)) (T.glo 9) k_is_number b_is_number (takes_of rfl rfl rfl rfl) (qa_cons (q_var 1) qa_nil)))) (qs_one qs_bad) qs_nil)
      (qs_cons (qs_set (i := 2) sc_Ratio___sub__.nd (q_op op_sub ok_sub (q_op or_mul ok_mul (q_fld T.pl rfl (q_var 0)) (q_call G_bottom_of (hr.mono (by decide : 1 ≤ 5)) (T.glo 10) k_bottom_of b_bottom_of (takes_of rfl rfl rfl rfl) (qa_cons (q_var 1) qa_nil))) (q_op or_mul ok_mul (q_call G_top_of (hr.mono (by decide : 1 ≤ 5)) (T.glo 11) k_top_of b_top_of (takes_of rfl rfl rfl rfl) (qa_cons (q_var 1) qa_nil)) (q_fld T.pl rfl (q_var 0)))))
      (qs_one (qs_ret (q_make (C := "Ratio") (T.pl.1 _ (by decide)).sub (T.mkr 36) G_Ratio___init__ (hr.mono (by decide : 5 ≤ 5)) (T.glo 6) b_Ratio___init__ (takes_of rfl rfl rfl rfl) (qa_cons (q_var 2) (qa_cons (q_op or_mul ok_mul (q_fld T.pl rfl (q_var 0)) (q_call G_bottom_of (hr.mono (by decide : 1 ≤ 5)) (T.glo 10) k_bottom_of b_bottom_of (takes_of rfl rfl rfl rfl) (qa_cons (q_var 1) qa_nil))) qa_nil)))))))
theorem sc_Ratio___neg__ : FnScope ["self"] ["self"] (defScope (inClass (top 20) 7)) := ⟨rfl, rfl, rfl, by decide +kernel, rfl, by decide +kernel, by decide +kernel⟩
theorem ok_Ratio___neg__ (T : Txt K mg) : ∃ fd, FnOk P w K mg base (L2.CX P w) 6 (He.ma K (He.ga K "Ratio") "__neg__") fd ["self"] (spOf (Gm K) 1 f_Ratio___neg__) ∧ Binds K fd ["self"] [] ∧ PySem.W.keepIn K (.ref (He.ma K (He.ga K "Ratio") "__neg__")) = true := by
  obtain ⟨fd, Fd⟩ := T.says.def_ 27
  obtain ⟨d_Ratio___init__, G_Ratio___init__, b_Ratio___init__, k_Ratio___init__⟩ := ok_Ratio___init__ (P := P) (w := w) (base := base) T
  refine ⟨fd, ?_, Fd.bindsN fun _ _ _ _ _ _ us hl => match us, hl with | [_], _ => rfl, Fd.kp⟩
  refine ok_def (Γ := Gm K) (n := 1) (m := b_Ratio___neg__) rfl Fd sc_Ratio___neg__ rfl fun cdv A outer s H E0 hr => ?_
  unfold b_Ratio___neg__
  exact (qs_one (qs_ret (q_make (C := "Ratio") (T.pl.1 _ (by decide)).sub (T.mkr 36) G_Ratio___init__ (hr.mono (by decide : 5 ≤ 5)) (T.glo 6) b_Ratio___init__ (takes_of rfl rfl rfl rfl) (qa_cons (q_un un_neg ok_neg (q_fld T.pl rfl (q_var 0))) (qa_cons (q_fld T.pl rfl (q_var 0)) qa_nil)))))
theorem ops1_add (T : Txt K mg) : OpsC (Gm K) P w mg base 6 "add" tAdd t0 := by
  refine ⟨fun C m e => ?_, fun C m e => ?_⟩
  ·
    unfold tAdd at e
    split at e
    · rename_i c; subst c; cases e
      obtain ⟨fd, G1, b1, _⟩ := ok_Ratio___add__ (P := P) (w := w) (base := base) T
      have me := He.meth_ok (x := "Ratio") (m := "__add__") (T.says.fact 146)
      exact ⟨⟨⟨_, fd, _, by rw [dun_add]; exact me.at_, me.fn, G1.mono (by decide), b1⟩⟩, (T.fact 153 (q := fun K => opB (Gm K) "Ratio" "add"))⟩
    cases e
  ·
    cases e
theorem ops1_neg (T : Txt K mg) : NegC (Gm K) P w mg base 6 tNeg := by
  intro C m e
  ·
    unfold tNeg at e
    split at e
    · rename_i c; subst c; cases e
      obtain ⟨fd, G1, b1, _⟩ := ok_Ratio___neg__ (P := P) (w := w) (base := base) T
      have me := He.meth_ok (x := "Ratio") (m := "__neg__") (T.says.fact 149)
      exact ⟨⟨_, fd, _, me.at_, me.fn, G1.mono (by decide), b1⟩⟩
    cases e
theorem sc_Ratio___radd__ : FnScope ["self", "other"] ["self", "other"] (defScope (inClass (top 20) 2)) := ⟨rfl, rfl, rfl, by decide +kernel, rfl, by decide +kernel, by decide +kernel⟩
theorem ok_Ratio___radd__ (T : Txt K mg) : ∃ fd, FnOk P w K mg base (L2.CX P w) 7 (He.ma K (He.ga K "Ratio") "__radd__") fd ["self", "other"] (spOf (Gm K) 2 f_Ratio___radd__) ∧ Binds K fd ["self", "other"] [] ∧ PySem.W.keepIn K (.ref (He.ma K (He.ga K "Ratio") "__radd__")) = true := by
  obtain ⟨fd, Fd⟩ := T.says.def_ 28
  refine ⟨fd, ?_, Fd.bindsN fun _ _ _ _ _ _ us hl => match us, hl with | [_, _], _ => rfl, Fd.kp⟩
  refine ok_def (Γ := Gm K) (n := 2) (m := b_Ratio___radd__) rfl Fd sc_Ratio___radd__ rfl fun cdv A outer s H E0 hr => ?_
  unfold b_Ratio___radd__
  exact (qs_one (qs_ret (q_op (or_bin (k := 6) rfl (hr.mono (by decide : 6 ≤ 6)) int_add (ops1_add T) or_add) (ok_bin ok_add) (q_var 0) (q_var 1))))
theorem sc_Ratio___rsub__ : FnScope ["self", "other"] ["self", "other"] (defScope (inClass (top 20) 4)) := ⟨rfl, rfl, rfl, by decide +kernel, rfl, by decide +kernel, by decide +kernel⟩
theorem ok_Ratio___rsub__ (T : Txt K mg) : ∃ fd, FnOk P w K mg base (L2.CX P w) 7 (He.ma K (He.ga K "Ratio") "__rsub__") fd ["self", "other"] (spOf (Gm K) 2 f_Ratio___rsub__) ∧ Binds K fd ["self", "other"] [] ∧ PySem.W.keepIn K (.ref (He.ma K (He.ga K "Ratio") "__rsub__")) = true := by
  obtain ⟨fd, Fd⟩ := T.says.def_ 29
  refine ⟨fd, ?_, Fd.bindsN fun _ _ _ _ _ _ us hl => match us, hl with | [_, _], _ => rfl, Fd.kp⟩
  refine ok_def (Γ := Gm K) (n := 2) (m := b_Ratio___rsub__) rfl Fd sc_Ratio___rsub__ rfl fun cdv A outer s H E0 hr => ?_
  unfold b_Ratio___rsub__
  exact (qs_one (qs_ret (q_op (or_bin (k := 6) rfl (hr.mono (by decide : 6 ≤ 6)) int_add (ops1_add T) or_add) (ok_bin ok_add) (q_un (ur_neg (k := 6) rfl (hr.mono (by decide : 6 ≤ 6)) (ops1_neg T) un_neg) (ok_un ok_neg) (q_var 0)) (q_var 1))))
theorem ops2_add (T : Txt K mg) : OpsC (Gm K) P w mg base 7 "add" tAdd rAdd := by
  refine ⟨fun C m e => ?_, fun C m e => ?_⟩
  ·
    unfold tAdd at e
    split at e
    · rename_i c; subst c; cases e
      obtain ⟨fd, G1, b1, _⟩ := ok_Ratio___add__ (P := P) (w := w) (base := base) T
      have me := He.meth_ok (x := "Ratio") (m := "__add__") (T.says.fact 146)
      exact ⟨⟨⟨_, fd, _, by rw [dun_add]; exact me.at_, me.fn, G1.mono (by decide), b1⟩⟩, (T.fact 153 (q := fun K => opB (Gm K) "Ratio" "add"))⟩
    cases e
  ·
    unfold rAdd at e
    split at e
    · rename_i c; subst c; cases e
      obtain ⟨fd, G1, b1, _⟩ := ok_Ratio___radd__ (P := P) (w := w) (base := base) T
      have me := He.meth_ok (x := "Ratio") (m := "__radd__") (T.says.fact 150)
      exact ⟨⟨⟨_, fd, _, by rw [dur_add]; exact me.at_, me.fn, G1.mono (by decide), b1⟩⟩, (T.fact 153 (q := fun K => opB (Gm K) "Ratio" "add"))⟩
    cases e
theorem ops2_sub (T : Txt K mg) : OpsC (Gm K) P w mg base 7 "sub" tSub rSub := by
  refine ⟨fun C m e => ?_, fun C m e => ?_⟩
  ·
    unfold tSub at e
    split at e
    · rename_i c; subst c; cases e
      obtain ⟨fd, G1, b1, _⟩ := ok_Ratio___sub__ (P := P) (w := w) (base := base) T
      have me := He.meth_ok (x := "Ratio") (m := "__sub__") (T.says.fact 147)
      exact ⟨⟨⟨_, fd, _, by rw [dun_sub]; exact me.at_, me.fn, G1.mono (by decide), b1⟩⟩, (T.fact 154 (q := fun K => opB (Gm K) "Ratio" "sub"))⟩
    cases e
  ·
    unfold rSub at e
    split at e
    · rename_i c; subst c; cases e
      obtain ⟨fd, G1, b1, _⟩ := ok_Ratio___rsub__ (P := P) (w := w) (base := base) T
      have me := He.meth_ok (x := "Ratio") (m := "__rsub__") (T.says.fact 151)
      exact ⟨⟨⟨_, fd, _, by rw [dur_sub]; exact me.at_, me.fn, G1.mono (by decide), b1⟩⟩, (T.fact 154 (q := fun K => opB (Gm K) "Ratio" "sub"))⟩
    cases e
theorem sc_stepped : FnScope ["net", "moments", "move", "block", "up", "changed", "event"] ["net", "moments", "move"] (defScope (top 42)) := ⟨rfl, rfl, rfl, by decide +kernel, rfl, by decide +kernel, by decide +kernel⟩
theorem ok_stepped (T : Txt K mg) : ∃ fd, FnOk P w K mg base (L2.CX P w) 8 (He.ga K "stepped") fd ["net", "moments", "move"] (spOf (Gm K) 3 f_stepped) ∧ Binds K fd ["net", "moments", "move"] [] ∧ PySem.W.keepIn K (.ref (He.ga K "stepped")) = true := by
  obtain ⟨fd, Fd⟩ := T.says.def_ 31
  obtain ⟨d_rest_of, G_rest_of, b_rest_of, k_rest_of⟩ := ok_rest_of (P := P) (w := w) (base := base) T
  refine ⟨fd, ?_, Fd.bindsN fun _ _ _ _ _ _ us hl => match us, hl with | [_, _, _], _ => rfl, Fd.kp⟩
  refine ok_def (Γ := Gm K) (n := 7) (m := b_stepped) rfl Fd sc_stepped rfl fun cdv A outer s H E0 hr => ?_
  unfold b_stepped
  exact (qs_cons (qs_asg (q_var 2) (qg_tup rfl rfl (qgs_cons (qg_name (i := 3) sc_stepped.nd) (qgs_cons (qg_name (i := 4) sc_stepped.nd) qgs_nil))))
      (qs_cons (qs_set (i := 5) sc_stepped.nd (q_callTy call_list_of ok_list (T.free 26) (by decide +kernel) (qa_cons (q_var 1) qa_nil)))
      (qs_cons (qs_for (passes_of rfl) rfl (qi_seq rfl (q_var 3)) (qg_name (i := 6) sc_stepped.nd) (qs_one (qs_asg (q_call G_rest_of (hr.mono (by decide : 7 ≤ 7)) (T.glo 39) k_rest_of b_rest_of (takes_of rfl rfl rfl rfl) (qa_cons (q_op (or_bin (k := 7) rfl (hr.mono (by decide : 7 ≤ 7)) int_add (ops2_add T) or_add) (ok_bin ok_add) (q_ix ix_seq ok_ix (q_var 5) (q_var 6) (fun _ _ => rfl)) (q_var 4)) (qa_cons (q_fld T.pl rfl (q_var 0)) qa_nil))) (qg_sub (W := WF E0) (q_var 5) (q_var 6)))))
      (qs_one (qs_ret (q_callTy call_tuple_of ok_tuple (T.free 20) (by decide +kernel) (qa_cons (q_var 5) qa_nil)))))))
theorem sc_reached : FnScope ["net", "moments", "i", "j", "low", "high"] ["net", "moments"] (defScope (top 34)) := ⟨rfl, rfl, rfl, by decide +kernel, rfl, by decide +kernel, by decide +kernel⟩
theorem ok_reached (T : Txt K mg) : ∃ fd, FnOk P w K mg base (L2.CX P w) 8 (He.ga K "reached") fd ["net", "moments"] (spOf (Gm K) 2 f_reached) ∧ Binds K fd ["net", "moments"] [] ∧ PySem.W.keepIn K (.ref (He.ga K "reached")) = true := by
  obtain ⟨fd, Fd⟩ := T.says.def_ 32
  obtain ⟨d_rest_of, G_rest_of, b_rest_of, k_rest_of⟩ := ok_rest_of (P := P) (w := w) (base := base) T
  refine ⟨fd, ?_, Fd.bindsN fun _ _ _ _ _ _ us hl => match us, hl with | [_, _], _ => rfl, Fd.kp⟩
  refine ok_def (Γ := Gm K) (n := 6) (m := b_reached) rfl Fd sc_reached rfl fun cdv A outer s H E0 hr => ?_
  unfold b_reached
  exact (qs_one (qs_ret (q_lc (own := [("i", 2), ("j", 3), ("low", 4), ("high", 5)]) (g := (.tp [2, 3, 4, 5])) rfl rfl sc_reached.nd (qi_seq rfl (q_fld T.pl rfl (q_var 0))) (blkOk_by (N := ["net", "moments", "i", "j", "low", "high"]) (sc := defScope (top 34)) (by decide +kernel)) (fun _ _ _ _ _ => (pg_tup rfl (pgs_cons (pg_name (i := 2) sc_reached.nd rfl (by first | exact Or.inl rfl | exact Or.inr rfl)) (pgs_cons (pg_name (i := 3) sc_reached.nd rfl (by first | exact Or.inl rfl | exact Or.inr rfl)) (pgs_cons (pg_name (i := 4) sc_reached.nd rfl (by first | exact Or.inl rfl | exact Or.inr rfl)) (pgs_cons (pg_name (i := 5) sc_reached.nd rfl (by first | exact Or.inl rfl | exact Or.inr rfl)) pgs_nil)))))) (fun _ _ _ _ _ => qts_nil) (fun _ _ _ _ _ => (q_op (or_bin (k := 7) rfl (hr.mono (by decide : 7 ≤ 7)) int_add (ops2_add T) or_add) (ok_bin ok_add) (q_var 4) (q_call G_rest_of (hr.mono (by decide : 7 ≤ 7)) (T.glo 39) k_rest_of b_rest_of takes0 (qa_cons (q_op (or_bin (k := 7) rfl (hr.mono (by decide : 7 ≤ 7)) int_sub (ops2_sub T) op_sub) (ok_bin ok_sub) (q_op (or_bin (k := 7) rfl (hr.mono (by decide : 7 ≤ 7)) int_sub (ops2_sub T) op_sub) (ok_bin ok_sub) (q_ix ix_seq ok_ix (q_var 1) (q_var 3) (fun _ _ => rfl)) (q_ix ix_seq ok_ix (q_var 1) (q_var 2) (fun _ _ => rfl))) (q_var 4)) (qa_cons (q_fld T.pl rfl (q_var 0)) qa_nil))))))))
theorem sc_below : FnScope ["one", "other"] ["one", "other"] (defScope (top 17)) := ⟨rfl, rfl, rfl, by decide +kernel, rfl, by decide +kernel, by decide +kernel⟩
theorem ok_below (T : Txt K mg) : ∃ fd, FnOk P w K mg base (L2.CX P w) 2 (He.ga K "below") fd ["one", "other"] (spOf (Gm K) 2 f_below) ∧ Binds K fd ["one", "other"] [] ∧ PySem.W.keepIn K (.ref (He.ga K "below")) = true := by
  obtain ⟨fd, Fd⟩ := T.says.def_ 33
  obtain ⟨d_top_of, G_top_of, b_top_of, k_top_of⟩ := ok_top_of (P := P) (w := w) (base := base) T
  obtain ⟨d_bottom_of, G_bottom_of, b_bottom_of, k_bottom_of⟩ := ok_bottom_of (P := P) (w := w) (base := base) T
  refine ⟨fd, ?_, Fd.bindsN fun _ _ _ _ _ _ us hl => match us, hl with | [_, _], _ => rfl, Fd.kp⟩
  refine ok_def (Γ := Gm K) (n := 2) (m := b_below) rfl Fd sc_below rfl fun cdv A outer s H E0 hr => ?_
  unfold b_below
  exact (qs_one (qs_ret (q_cmp op_lt ok_cmp (q_op or_mul ok_mul (q_call G_top_of (hr.mono (by decide : 1 ≤ 1)) (T.glo 11) k_top_of b_top_of (takes_of rfl rfl rfl rfl) (qa_cons (q_var 0) qa_nil)) (q_call G_bottom_of (hr.mono (by decide : 1 ≤ 1)) (T.glo 10) k_bottom_of b_bottom_of (takes_of rfl rfl rfl rfl) (qa_cons (q_var 1) qa_nil))) (q_op or_mul ok_mul (q_call G_top_of (hr.mono (by decide : 1 ≤ 1)) (T.glo 11) k_top_of b_top_of (takes_of rfl rfl rfl rfl) (qa_cons (q_var 1) qa_nil)) (q_call G_bottom_of (hr.mono (by decide : 1 ≤ 1)) (T.glo 10) k_bottom_of b_bottom_of (takes_of rfl rfl rfl rfl) (qa_cons (q_var 0) qa_nil))) (nomark _))))
theorem sc_first_broken : FnScope ["net", "moments", "index", "number"] ["net", "moments"] (defScope (top 35)) := ⟨rfl, rfl, rfl, by decide +kernel, rfl, by decide +kernel, by decide +kernel⟩
theorem ok_first_broken (T : Txt K mg) : ∃ fd, FnOk P w K mg base (L2.CX P w) 9 (He.ga K "first_broken") fd ["net", "moments"] (spOf (Gm K) 2 f_first_broken) ∧ Binds K fd ["net", "moments"] [] ∧ PySem.W.keepIn K (.ref (He.ga K "first_broken")) = true := by
  obtain ⟨fd, Fd⟩ := T.says.def_ 34
  obtain ⟨d_reached, G_reached, b_reached, k_reached⟩ := ok_reached (P := P) (w := w) (base := base) T
  obtain ⟨d_below, G_below, b_below, k_below⟩ := ok_below (P := P) (w := w) (base := base) T
  refine ⟨fd, ?_, Fd.bindsN fun _ _ _ _ _ _ us hl => match us, hl with | [_, _], _ => rfl, Fd.kp⟩
  refine ok_def (Γ := Gm K) (n := 4) (m := b_first_broken) rfl Fd sc_first_broken rfl fun cdv A outer s H E0 hr => ?_
  unfold b_first_broken
  exact (qs_cons (qs_for (passes_of rfl) rfl (qi_enuZ rfl (T.free 28) (q_call G_reached (hr.mono (by decide : 8 ≤ 8)) (T.glo 40) k_reached b_reached (takes_of rfl rfl rfl rfl) (qa_cons (q_var 0) (qa_cons (q_var 1) qa_nil)))) (qg_tup rfl rfl (qgs_cons (qg_name (i := 2) sc_first_broken.nd) (qgs_cons (qg_name (i := 3) sc_first_broken.nd) qgs_nil))) (qs_one (qs_if (qt_val (q_call G_below (hr.mono (by decide : 2 ≤ 8)) (T.glo 41) k_below b_below (takes_of rfl rfl rfl rfl) (qa_cons (q_ix ix_seq ok_ix (q_ix ix_seq ok_ix (q_fld T.pl rfl (q_var 0)) (q_var 2) (fun _ _ => rfl)) q_int (fun _ _ => rfl)) (qa_cons (q_var 3) qa_nil)))) (qs_one (qs_ret (q_var 2))) qs_nil)))
      (qs_one (qs_ret q_non)))
theorem sc_is_moment : FnScope ["beat", "thing"] ["beat", "thing"] (defScope (top 36)) := ⟨rfl, rfl, rfl, by decide +kernel, rfl, by decide +kernel, by decide +kernel⟩
theorem ok_is_moment (T : Txt K mg) : ∃ fd, FnOk P w K mg base (L2.CX P w) 3 (He.ga K "is_moment") fd ["beat", "thing"] (spOf (Gm K) 2 f_is_moment) ∧ Binds K fd ["beat", "thing"] [] ∧ PySem.W.keepIn K (.ref (He.ga K "is_moment")) = true := by
  obtain ⟨fd, Fd⟩ := T.says.def_ 35
  obtain ⟨d_below, G_below, b_below, k_below⟩ := ok_below (P := P) (w := w) (base := base) T
  obtain ⟨d_is_number, G_is_number, b_is_number, k_is_number⟩ := ok_is_number (P := P) (w := w) (base := base) T
  refine ⟨fd, ?_, Fd.bindsN fun _ _ _ _ _ _ us hl => match us, hl with | [_, _], _ => rfl, Fd.kp⟩
  refine ok_def (Γ := Gm K) (n := 2) (m := b_is_moment) rfl Fd sc_is_moment rfl fun cdv A outer s H E0 hr => ?_
  unfold b_is_moment
  exact (qs_one (qs_ret (q_and (q_call G_is_number (hr.mono (by decide : 2 ≤ 2)) (T.glo 9) k_is_number b_is_number (takes_of rfl rfl rfl rfl) (qa_cons (q_var 1) qa_nil)) (q_and (q_not (q_call G_below (hr.mono (by decide : 2 ≤ 2)) (T.glo 41) k_below b_below (takes_of rfl rfl rfl rfl) (qa_cons (q_var 1) (qa_cons q_int qa_nil)))) (q_one (q_call G_below (hr.mono (by decide : 2 ≤ 2)) (T.glo 41) k_below b_below (takes_of rfl rfl rfl rfl) (qa_cons (q_var 1) (qa_cons (q_var 0) qa_nil))))))))
theorem sc_moments_fault : FnScope ["net", "thing", "index", "moment"] ["net", "thing"] (defScope (top 37)) := ⟨rfl, rfl, rfl, by decide +kernel, rfl, by decide +kernel, by decide +kernel⟩
theorem ok_moments_fault (T : Txt K mg) : ∃ fd, FnOk P w K mg base (L2.CX P w) 10 (He.ga K "moments_fault") fd ["net", "thing"] (spOf (Gm K) 2 f_moments_fault) ∧ Binds K fd ["net", "thing"] [] ∧ PySem.W.keepIn K (.ref (He.ga K "moments_fault")) = true := by
  obtain ⟨fd, Fd⟩ := T.says.def_ 36
  obtain ⟨d_is_moment, G_is_moment, b_is_moment, k_is_moment⟩ := ok_is_moment (P := P) (w := w) (base := base) T
  obtain ⟨d_first_broken, G_first_broken, b_first_broken, k_first_broken⟩ := ok_first_broken (P := P) (w := w) (base := base) T
  refine ⟨fd, ?_, Fd.bindsN fun _ _ _ _ _ _ us hl => match us, hl with | [_, _], _ => rfl, Fd.kp⟩
  refine ok_def (Γ := Gm K) (n := 4) (m := b_moments_fault) rfl Fd sc_moments_fault rfl fun cdv A outer s H E0 hr => ?_
  unfold b_moments_fault
  exact (qs_cons (qs_if (PW.pt (qw_or (qt_not (qt_val (q_isi (T := (.bi "tuple")) rfl T.ins (T.is_ 21) (T.free 4) (q_var 1) (pe_bltn (v := .ty "tuple") rfl (T.free 20) (by decide +kernel) rfl)))) (qw_or1 (qt_cmp (or_ne (k := 3) rfl (hr.mono (by decide : 4 ≤ 9)) (nec T)) ok_neX (q_callB cr_len ok_len (T.free 0) (by decide +kernel) (qa_cons (q_var 1) qa_nil)) (q_fld T.pl rfl (q_var 0)) (nomark _))))) (qs_one (qs_ret (q_tup (qa_cons q_str (qa_cons (q_un un_neg ok_neg q_int) qa_nil))))) qs_nil)
      (qs_cons (qs_for (passes_of rfl) rfl (qi_enuZ rfl (T.free 28) (q_var 1)) (qg_tup rfl rfl (qgs_cons (qg_name (i := 2) sc_moments_fault.nd) (qgs_cons (qg_name (i := 3) sc_moments_fault.nd) qgs_nil))) (qs_one (qs_if (qt_not (qt_val (q_call G_is_moment (hr.mono (by decide : 3 ≤ 9)) (T.glo 42) k_is_moment b_is_moment (takes_of rfl rfl rfl rfl) (qa_cons (q_fld T.pl rfl (q_var 0)) (qa_cons (q_var 3) qa_nil))))) (qs_one (qs_ret (q_tup (qa_cons q_str (qa_cons (q_var 2) qa_nil))))) qs_nil)))
      (qs_cons (qs_set (i := 2) sc_moments_fault.nd (q_call G_first_broken (hr.mono (by decide : 9 ≤ 9)) (T.glo 43) k_first_broken b_first_broken (takes_of rfl rfl rfl rfl) (qa_cons (q_var 0) (qa_cons (q_var 1) qa_nil))))
      (qs_one (qs_ret (q_ifE (qt_cmp op_isN ok_isN (q_var 2) q_non (nomark _)) q_non (q_tup (qa_cons q_str (qa_cons (q_var 2) qa_nil)))))))))
theorem sc_is_timetable : FnScope ["net", "thing"] ["net", "thing"] (defScope (top 38)) := ⟨rfl, rfl, rfl, by decide +kernel, rfl, by decide +kernel, by decide +kernel⟩
theorem ok_is_timetable (T : Txt K mg) : ∃ fd, FnOk P w K mg base (L2.CX P w) 11 (He.ga K "is_timetable") fd ["net", "thing"] (spOf (Gm K) 2 f_is_timetable) ∧ Binds K fd ["net", "thing"] [] ∧ PySem.W.keepIn K (.ref (He.ga K "is_timetable")) = true := by
  obtain ⟨fd, Fd⟩ := T.says.def_ 37
  obtain ⟨d_moments_fault, G_moments_fault, b_moments_fault, k_moments_fault⟩ := ok_moments_fault (P := P) (w := w) (base := base) T
  refine ⟨fd, ?_, Fd.bindsN fun _ _ _ _ _ _ us hl => match us, hl with | [_, _], _ => rfl, Fd.kp⟩
  refine ok_def (Γ := Gm K) (n := 2) (m := b_is_timetable) rfl Fd sc_is_timetable rfl fun cdv A outer s H E0 hr => ?_
  unfold b_is_timetable
  exact (qs_one (qs_ret (q_cmp op_isN ok_isN (q_call G_moments_fault (hr.mono (by decide : 10 ≤ 10)) (T.glo 44) k_moments_fault b_moments_fault (takes_of rfl rfl rfl rfl) (qa_cons (q_var 0) (qa_cons (q_var 1) qa_nil))) q_non (nomark _))))
theorem sc_is_event : FnScope ["net", "thing"] ["net", "thing"] (defScope (top 32)) := ⟨rfl, rfl, rfl, by decide +kernel, rfl, by decide +kernel, by decide +kernel⟩
theorem ok_is_event (T : Txt K mg) : ∃ fd, FnOk P w K mg base (L2.CX P w) 3 (He.ga K "is_event") fd ["net", "thing"] (spOf (Gm K) 2 f_is_event) ∧ Binds K fd ["net", "thing"] [] ∧ PySem.W.keepIn K (.ref (He.ga K "is_event")) = true := by
  obtain ⟨fd, Fd⟩ := T.says.def_ 38
  obtain ⟨d_is_below, G_is_below, b_is_below, k_is_below⟩ := ok_is_below (P := P) (w := w) (base := base) T
  refine ⟨fd, ?_, Fd.bindsN fun _ _ _ _ _ _ us hl => match us, hl with | [_, _], _ => rfl, Fd.kp⟩
  refine ok_def (Γ := Gm K) (n := 2) (m := b_is_event) rfl Fd sc_is_event rfl fun cdv A outer s H E0 hr => ?_
  unfold b_is_event
  exact (qs_one (qs_ret (q_call G_is_below (hr.mono (by decide : 2 ≤ 2)) (T.glo 23) k_is_below b_is_below (takes_of rfl rfl rfl rfl) (qa_cons (q_fld T.pl rfl (q_var 0)) (qa_cons (q_var 1) qa_nil)))))
theorem sc_is_block : FnScope ["net", "thing", "event", "ahead", "behind"] ["net", "thing"] (defScope (top 40)) := ⟨rfl, rfl, rfl, by decide +kernel, rfl, by decide +kernel, by decide +kernel⟩
theorem ok_is_block (T : Txt K mg) : ∃ fd, FnOk P w K mg base (L2.CX P w) 4 (He.ga K "is_block") fd ["net", "thing"] (spOf (Gm K) 2 f_is_block) ∧ Binds K fd ["net", "thing"] [] ∧ PySem.W.keepIn K (.ref (He.ga K "is_block")) = true := by
  obtain ⟨fd, Fd⟩ := T.says.def_ 39
  obtain ⟨d_is_event, G_is_event, b_is_event, k_is_event⟩ := ok_is_event (P := P) (w := w) (base := base) T
  refine ⟨fd, ?_, Fd.bindsN fun _ _ _ _ _ _ us hl => match us, hl with | [_, _], _ => rfl, Fd.kp⟩
  refine ok_def (Γ := Gm K) (n := 5) (m := b_is_block) rfl Fd sc_is_block rfl fun cdv A outer s H E0 hr => ?_
  unfold b_is_block
  exact (qs_cons (qs_if (PW.pt (qw_or (qt_not (qt_val (q_isi (T := (.bi "tuple")) rfl T.ins (T.is_ 21) (T.free 4) (q_var 1) (pe_bltn (v := .ty "tuple") rfl (T.free 20) (by decide +kernel) rfl)))) (qw_or1 (qt_cmp (or_eqZ rfl (hr.mono (by decide : 3 ≤ 3)) (eqc T)) (ok_eqZ T.ins) (q_callB cr_len ok_len (T.free 0) (by decide +kernel) (qa_cons (q_var 1) qa_nil)) q_int (nomark _))))) (qs_one (qs_ret q_bl)) qs_nil)
      (qs_cons (qs_if (qt_not (qt_val (q_callB (cr_all rfl) ok_all (T.free 22) (by decide +kernel) (qa_cons (q_lc (own := [("event", 2)]) (g := (.nm 2)) rfl rfl sc_is_block.nd (qi_seq rfl (q_var 1)) (blkOk_by (N := ["net", "thing", "event", "ahead", "behind"]) (sc := defScope (top 40)) (by decide +kernel)) (fun _ _ _ _ _ => (qr_nm (Γ := Gm K) (i := 2) sc_is_block.nd)) (fun _ _ _ _ _ => qts_nil) (fun _ _ _ _ _ => (q_call G_is_event (hr.mono (by decide : 3 ≤ 3)) (T.glo 45) k_is_event b_is_event takes0 (qa_cons (q_var 0) (qa_cons (q_var 2) qa_nil))))) qa_nil)))) (qs_one (qs_ret q_bl)) qs_nil)
      (qs_one (qs_ret (q_callB (cr_all rfl) ok_all (T.free 22) (by decide +kernel) (qa_cons (q_lc (own := [("ahead", 3), ("behind", 4)]) (g := (.tp [3, 4])) rfl rfl sc_is_block.nd (qi_zip rfl (T.free 46) (q_var 1) (q_sl rfl (q_var 1) (qo_some q_int) qo_none)) (blkOk_by (N := ["net", "thing", "event", "ahead", "behind"]) (sc := defScope (top 40)) (by decide +kernel)) (fun _ _ _ _ _ => (pg_tup rfl (pgs_cons (pg_name (i := 3) sc_is_block.nd rfl (by first | exact Or.inl rfl | exact Or.inr rfl)) (pgs_cons (pg_name (i := 4) sc_is_block.nd rfl (by first | exact Or.inl rfl | exact Or.inr rfl)) pgs_nil)))) (fun _ _ _ _ _ => qts_nil) (fun _ _ _ _ _ => (q_cmp op_lt ok_cmp (q_var 3) (q_var 4) (nomark _)))) qa_nil))))))
theorem sc_is_move : FnScope ["net", "thing"] ["net", "thing"] (defScope (top 41)) := ⟨rfl, rfl, rfl, by decide +kernel, rfl, by decide +kernel, by decide +kernel⟩
theorem ok_is_move (T : Txt K mg) : ∃ fd, FnOk P w K mg base (L2.CX P w) 5 (He.ga K "is_move") fd ["net", "thing"] (spOf (Gm K) 2 f_is_move) ∧ Binds K fd ["net", "thing"] [] ∧ PySem.W.keepIn K (.ref (He.ga K "is_move")) = true := by
  obtain ⟨fd, Fd⟩ := T.says.def_ 40
  obtain ⟨d_is_integer, G_is_integer, b_is_integer, k_is_integer⟩ := ok_is_integer (P := P) (w := w) (base := base) T
  obtain ⟨d_is_block, G_is_block, b_is_block, k_is_block⟩ := ok_is_block (P := P) (w := w) (base := base) T
  refine ⟨fd, ?_, Fd.bindsN fun _ _ _ _ _ _ us hl => match us, hl with | [_, _], _ => rfl, Fd.kp⟩
  refine ok_def (Γ := Gm K) (n := 2) (m := b_is_move) rfl Fd sc_is_move rfl fun cdv A outer s H E0 hr => ?_
  unfold b_is_move
  exact (qs_cons (qs_if (PW.pt (qw_or (qt_not (qt_val (q_isi (T := (.bi "tuple")) rfl T.ins (T.is_ 21) (T.free 4) (q_var 1) (pe_bltn (v := .ty "tuple") rfl (T.free 20) (by decide +kernel) rfl)))) (qw_or1 (qt_cmp (or_ne (k := 3) rfl (hr.mono (by decide : 4 ≤ 4)) (nec T)) ok_neX (q_callB cr_len ok_len (T.free 0) (by decide +kernel) (qa_cons (q_var 1) qa_nil)) q_int (nomark _))))) (qs_one (qs_ret q_bl)) qs_nil)
      (qs_one (qs_ret (q_and (q_call G_is_block (hr.mono (by decide : 4 ≤ 4)) (T.glo 47) k_is_block b_is_block (takes_of rfl rfl rfl rfl) (qa_cons (q_var 0) (qa_cons (q_ix ix_seq ok_ix (q_var 1) q_int (fun _ _ => rfl)) qa_nil))) (q_and (q_call G_is_integer (hr.mono (by decide : 1 ≤ 4)) (T.glo 8) k_is_integer b_is_integer (takes_of rfl rfl rfl rfl) (qa_cons (q_ix ix_seq ok_ix (q_var 1) q_int (fun _ _ => rfl)) qa_nil)) (q_one (q_cmp (or_inZ rfl (hr.mono (by decide : 0 ≤ 4))) ok_inZ (q_ix ix_seq ok_ix (q_var 1) q_int (fun _ _ => rfl)) (q_tup (qa_cons q_int (qa_cons (q_un un_neg ok_neg q_int) qa_nil))) (by rfl))))))))
theorem sc_as_plain : FnScope ["timetable", "moment"] ["timetable"] (defScope (top 43)) := ⟨rfl, rfl, rfl, by decide +kernel, rfl, by decide +kernel, by decide +kernel⟩
theorem ok_as_plain (T : Txt K mg) : ∃ fd, FnOk P w K mg base (L2.CX P w) 5 (He.ga K "as_plain") fd ["timetable"] (spOf (Gm K) 1 f_as_plain) ∧ Binds K fd ["timetable"] [] ∧ PySem.W.keepIn K (.ref (He.ga K "as_plain")) = true := by
  obtain ⟨fd, Fd⟩ := T.says.def_ 41
  obtain ⟨d_plain, G_plain, b_plain, k_plain⟩ := ok_plain (P := P) (w := w) (base := base) T
  refine ⟨fd, ?_, Fd.bindsN fun _ _ _ _ _ _ us hl => match us, hl with | [_], _ => rfl, Fd.kp⟩
  refine ok_def (Γ := Gm K) (n := 2) (m := b_as_plain) rfl Fd sc_as_plain rfl fun cdv A outer s H E0 hr => ?_
  unfold b_as_plain
  exact (qs_one (qs_ret (q_callTy call_tuple_of ok_tuple (T.free 20) (by decide +kernel) (qa_cons (q_lc (own := [("moment", 1)]) (g := (.nm 1)) rfl rfl sc_as_plain.nd (qi_seq rfl (q_var 0)) (blkOk_by (N := ["timetable", "moment"]) (sc := defScope (top 43)) (by decide +kernel)) (fun _ _ _ _ _ => (qr_nm (Γ := Gm K) (i := 1) sc_as_plain.nd)) (fun _ _ _ _ _ => qts_nil) (fun _ _ _ _ _ => (q_call G_plain (hr.mono (by decide : 4 ≤ 4)) (T.glo 38) k_plain b_plain takes0 (qa_cons (q_var 1) qa_nil)))) qa_nil))))
theorem sc_moved : FnScope ["net", "timetable", "move", "moments", "index"] ["net", "timetable", "move"] (defScope (top 44)) := ⟨rfl, rfl, rfl, by decide +kernel, rfl, by decide +kernel, by decide +kernel⟩
theorem ok_moved (T : Txt K mg) : ∃ fd, FnOk P w K mg base (L2.CX P w) 12 (He.ga K "moved") fd ["net", "timetable", "move"] (spOf (Gm K) 3 f_moved) ∧ Binds K fd ["net", "timetable", "move"] [] ∧ PySem.W.keepIn K (.ref (He.ga K "moved")) = true := by
  obtain ⟨fd, Fd⟩ := T.says.def_ 42
  obtain ⟨d_is_timetable, G_is_timetable, b_is_timetable, k_is_timetable⟩ := ok_is_timetable (P := P) (w := w) (base := base) T
  obtain ⟨d_is_move, G_is_move, b_is_move, k_is_move⟩ := ok_is_move (P := P) (w := w) (base := base) T
  obtain ⟨d_stepped, G_stepped, b_stepped, k_stepped⟩ := ok_stepped (P := P) (w := w) (base := base) T
  obtain ⟨d_as_plain, G_as_plain, b_as_plain, k_as_plain⟩ := ok_as_plain (P := P) (w := w) (base := base) T
  obtain ⟨d_first_broken, G_first_broken, b_first_broken, k_first_broken⟩ := ok_first_broken (P := P) (w := w) (base := base) T
  refine ⟨fd, ?_, Fd.bindsN fun _ _ _ _ _ _ us hl => match us, hl with | [_, _, _], _ => rfl, Fd.kp⟩
  refine ok_def (Γ := Gm K) (n := 5) (m := b_moved) rfl Fd sc_moved rfl fun cdv A outer s H E0 hr => ?_
  unfold b_moved
  exact (qs_cons (qs_if (qt_not (qt_val (q_call G_is_timetable (hr.mono (by decide : 11 ≤ 11)) (T.glo 48) k_is_timetable b_is_timetable (takes_of rfl rfl rfl rfl) (qa_cons (q_var 0) (qa_cons (q_var 1) qa_nil))))) (qs_one (qs_raise0 rfl (x0_BadTimetable T) rfl (takes_of rfl rfl rfl rfl) (hr.mono (by decide : 2 ≤ 11)) (by decide))) qs_nil)
      (qs_cons (qs_if (qt_not (qt_val (q_call G_is_move (hr.mono (by decide : 5 ≤ 11)) (T.glo 49) k_is_move b_is_move (takes_of rfl rfl rfl rfl) (qa_cons (q_var 0) (qa_cons (q_var 2) qa_nil))))) (qs_one (qs_raise0 rfl (x0_BadMove T) rfl (takes_of rfl rfl rfl rfl) (hr.mono (by decide : 2 ≤ 11)) (by decide))) qs_nil)
      (qs_cons (qs_set (i := 3) sc_moved.nd (q_call G_stepped (hr.mono (by decide : 8 ≤ 11)) (T.glo 51) k_stepped b_stepped (takes_of rfl rfl rfl rfl) (qa_cons (q_var 0) (qa_cons (q_call G_as_plain (hr.mono (by decide : 5 ≤ 11)) (T.glo 50) k_as_plain b_as_plain (takes_of rfl rfl rfl rfl) (qa_cons (q_var 1) qa_nil)) (qa_cons (q_var 2) qa_nil)))))
      (qs_cons (qs_set (i := 4) sc_moved.nd (q_call G_first_broken (hr.mono (by decide : 9 ≤ 11)) (T.glo 43) k_first_broken b_first_broken (takes_of rfl rfl rfl rfl) (qa_cons (q_var 0) (qa_cons (q_var 3) qa_nil))))
      (qs_cons (qs_if (qt_cmp op_notN ok_notN (q_var 4) q_non (nomark _)) (qs_one (qs_raise1 rfl (x1_Broken T) rfl (takes_of rfl rfl rfl rfl) (hr.mono (by decide : 2 ≤ 11)) (by decide) (q_var 4))) qs_nil)
      (qs_one (qs_ret (q_var 3))))))))
theorem sc__law_integer : FnScope ["_law_thing"] ["_law_thing"] (defScope (top 48)) := ⟨rfl, rfl, rfl, by decide +kernel, rfl, by decide +kernel, by decide +kernel⟩
theorem ok__law_integer (T : Txt K mg) : ∃ fd, FnOk P w K mg base (L2.CX P w) 1 (He.ga K "_law_integer") fd ["_law_thing"] (spOf (Gm K) 1 f__law_integer) ∧ Binds K fd ["_law_thing"] [] ∧ PySem.W.keepIn K (.ref (He.ga K "_law_integer")) = true := by
  obtain ⟨fd, Fd⟩ := T.says.def_ 43
  refine ⟨fd, ?_, Fd.bindsN fun _ _ _ _ _ _ us hl => match us, hl with | [_], _ => rfl, Fd.kp⟩
  refine ok_def (Γ := Gm K) (n := 1) (m := b__law_integer) rfl Fd sc__law_integer rfl fun cdv A outer s H E0 hr => ?_
  unfold b__law_integer
  exact (qs_one (qs_ret (q_and (q_isi (T := (.bi "int")) rfl T.ins (T.is_ 5) (T.free 4) (q_var 0) (pe_bltn (v := .ty "int") rfl (T.free 1) (by decide +kernel) rfl)) (q_one (q_not (q_isi (T := (.bi "bool")) rfl T.ins (T.is_ 3) (T.free 4) (q_var 0) (pe_bltn (v := .ty "bool") rfl (T.free 2) (by decide +kernel) rfl)))))))
theorem okQ__law_integer (T : Txt K mg) : ∃ fd, FnQ P w K mg base (L2.CX P w) 1 (He.ga K "_law_integer") fd ["_law_thing"] (spOf (Gm K) 1 f__law_integer) ∧ Binds K fd ["_law_thing"] [] ∧ PySem.W.keepIn K (.ref (He.ga K "_law_integer")) = true := by
  obtain ⟨fd, Fd⟩ := T.says.def_ 43
  refine ⟨fd, ?_, Fd.bindsN fun _ _ _ _ _ _ us hl => match us, hl with | [_], _ => rfl, Fd.kp⟩
  refine okQ_def (Γ := Gm K) (n := 1) (m := b__law_integer) rfl Fd sc__law_integer rfl fun cdv A outer s H E0 pp hr => ?_
  unfold b__law_integer
  exact (qs_one (qs_ret (q_and (q_isi (T := (.bi "int")) rfl T.ins (T.is_ 5) (T.free 4) (q_var 0) (pe_bltn (v := .ty "int") rfl (T.free 1) (by decide +kernel) rfl)) (q_one (q_not (q_isi (T := (.bi "bool")) rfl T.ins (T.is_ 3) (T.free 4) (q_var 0) (pe_bltn (v := .ty "bool") rfl (T.free 2) (by decide +kernel) rfl)))))))
theorem sc__law_told : FnScope ["_law_net", "_law_moments", "_law_move", "_law_told_here", "e", "_law_found"] ["_law_net", "_law_moments", "_law_move"] (defScope (top 59)) := ⟨rfl, rfl, rfl, by decide +kernel, rfl, by decide +kernel, by decide +kernel⟩
theorem ok__law_told (T : Txt K mg) : ∃ fd, FnOk P w K mg base (L2.CX P w) 13 (He.ga K "_law_told") fd ["_law_net", "_law_moments", "_law_move"] (spOf (Gm K) 3 f__law_told) ∧ Binds K fd ["_law_net", "_law_moments", "_law_move"] [] ∧ PySem.W.keepIn K (.ref (He.ga K "_law_told")) = true := by
  obtain ⟨fd, Fd⟩ := T.says.def_ 44
  obtain ⟨d_moved, G_moved, b_moved, k_moved⟩ := ok_moved (P := P) (w := w) (base := base) T
  obtain ⟨d__law_integer, G__law_integer, b__law_integer, k__law_integer⟩ := ok__law_integer (P := P) (w := w) (base := base) T
  obtain ⟨dQ__law_integer, Q__law_integer, bQ__law_integer, kQ__law_integer⟩ := okQ__law_integer (P := P) (w := w) (base := base) T
  refine ⟨fd, ?_, Fd.bindsN fun _ _ _ _ _ _ us hl => match us, hl with | [_, _, _], _ => rfl, Fd.kp⟩
  refine ok_def (Γ := Gm K) (n := 6) (m := b__law_told) rfl Fd sc__law_told rfl fun cdv A outer s H E0 hr => ?_
  unfold b__law_told
  exact (qs_cons (qs_tryAs (i := 4) (sb := sb "SpansError") rfl rfl (T.sb "SpansError") rfl rfl sc__law_told.nd rfl rfl ⟨rfl, by decide, .inl (T.glo 57)⟩ (takes_of rfl rfl rfl rfl) (fun W' pn xe tk hp => (qs_one (qs_set (i := 3) sc__law_told.nd (q_call G_moved (hr.mono (by decide : 12 ≤ 12)) (T.glo 52) k_moved b_moved tk (qa_cons (q_var 0) (qa_cons (q_var 1) (qa_cons (q_var 2) qa_nil))))))) (fun a oe E xs o pn hz hd => (qs_cons (qs_set (i := 5) sc__law_told.nd (q_tup (qa_cons (q_xis (T := (.own "BadTimetable")) rfl (T.xk (.own "BadTimetable")) hz hd (T.free 4) (pe_glob (v := .ref (He.ga K "BadTimetable")) rfl (T.glo 53) rfl)) (qa_cons (q_xis (T := (.own "BadMove")) rfl (T.xk (.own "BadMove")) hz hd (T.free 4) (pe_glob (v := .ref (He.ga K "BadMove")) rfl (T.glo 54) rfl)) (qa_cons (q_xis (T := (.own "Broken")) rfl (T.xk (.own "Broken")) hz hd (T.free 4) (pe_glob (v := .ref (He.ga K "Broken")) rfl (T.glo 55) rfl)) qa_nil)))))
      (qs_cons (qs_if (PW.pt (qw_and (qt_cmp (op_eqD hr.units) ok_eqD (q_var 5) (q_tup (qa_cons q_bl (qa_cons q_bl (qa_cons q_bl qa_nil)))) (nomark _)) (qw_and1 (qt_val (q_callQ rfl Q__law_integer (rH hr (by decide : 1 ≤ 12)) List.mem_cons_self (T.glo 56) kQ__law_integer bQ__law_integer takes0 (qa_cons (q_xfld rfl (T.xf "index") hz hd) qa_nil)))))) (qs_one (qs_ret (q_tup (qa_cons q_str (qa_cons (q_xfld rfl (T.xf "index") hz hd) qa_nil))))) qs_nil)
      (qs_one (qs_ret (q_tup (qa_cons q_str (qa_cons (q_var 5) qa_nil)))))))))
      (qs_one (qs_ret (q_tup (qa_cons q_str (qa_cons (q_var 3) qa_nil))))))
theorem sc__law_block : FnScope ["_law_source_here", "_law_events", "_law_kind", "_law_event"] ["_law_source_here", "_law_events"] (defScope (top 62)) := ⟨rfl, rfl, rfl, by decide +kernel, rfl, by decide +kernel, by decide +kernel⟩
theorem ok__law_block (T : Txt K mg) : ∃ fd, FnOk P w K mg base (L2.CX P w) 5 (He.ga K "_law_block") fd ["_law_source_here", "_law_events"] (spOf (Gm K) 2 f__law_block) ∧ Binds K fd ["_law_source_here", "_law_events"] [] ∧ PySem.W.keepIn K (.ref (He.ga K "_law_block")) = true := by
  obtain ⟨fd, Fd⟩ := T.says.def_ 45
  obtain ⟨d__law_draw, G__law_draw, b__law_draw, k__law_draw⟩ := ok__law_draw (P := P) (w := w) (base := base) T
  refine ⟨fd, ?_, Fd.bindsN fun _ _ _ _ _ _ us hl => match us, hl with | [_, _], _ => rfl, Fd.kp⟩
  refine ok_def (Γ := Gm K) (n := 4) (m := b__law_block) rfl Fd sc__law_block rfl fun cdv A outer s H E0 hr => ?_
  unfold b__law_block
  exact (qs_cons (qs_set (i := 2) sc__law_block.nd (q_call G__law_draw (hr.mono (by decide : 4 ≤ 4)) (T.glo 14) k__law_draw b__law_draw (takes_of rfl rfl rfl rfl) (qa_cons (q_var 0) (qa_cons q_int qa_nil))))
      (qs_cons (qs_if (qt_cmp (or_eqZ rfl (hr.mono (by decide : 3 ≤ 4)) (eqc T)) (ok_eqZ T.ins) (q_var 2) q_int (nomark _)) (qs_one (qs_ret (q_tup (qa_cons (q_call G__law_draw (hr.mono (by decide : 4 ≤ 4)) (T.glo 14) k__law_draw b__law_draw (takes_of rfl rfl rfl rfl) (qa_cons (q_var 0) (qa_cons (q_var 1) qa_nil))) qa_nil)))) qs_nil)
      (qs_cons (qs_if (qt_cmp (or_eqZ rfl (hr.mono (by decide : 3 ≤ 4)) (eqc T)) (ok_eqZ T.ins) (q_var 2) q_int (nomark _)) (qs_one (qs_ret (q_callTy call_tuple_of ok_tuple (T.free 20) (by decide +kernel) (qa_cons (q_listRg1 rfl (T.free 26) (T.free 15) (q_var 1)) qa_nil)))) qs_nil)
      (qs_one (qs_ret (q_callTy call_tuple_of ok_tuple (T.free 20) (by decide +kernel) (qa_cons (q_lc (own := [("_law_event", 3)]) (g := (.nm 3)) rfl rfl sc__law_block.nd (qi_rng1 (T.free 15) (qa_cons (q_var 1) qa_nil)) (blkOk_by (N := ["_law_source_here", "_law_events", "_law_kind", "_law_event"]) (sc := defScope (top 62)) (by decide +kernel)) (fun _ _ _ _ _ => (qr_nm (Γ := Gm K) (i := 3) sc__law_block.nd)) (fun _ _ _ _ _ => (qts_one (qt_cmp (or_eqZ rfl (hr.mono (by decide : 3 ≤ 4)) (eqc T)) (ok_eqZ T.ins) (q_call G__law_draw (hr.mono (by decide : 4 ≤ 4)) (T.glo 14) k__law_draw b__law_draw takes0 (qa_cons (q_var 0) (qa_cons q_int qa_nil))) q_int (nomark _)))) (fun _ _ _ _ _ => (q_var 3))) qa_nil)))))))
theorem sc__law_changed : FnScope ["_law_source_here", "_law_move", "_law_events", "_law_block_here", "_law_up", "_law_kind", "_law_at", "_law_put", "_law_things"] ["_law_source_here", "_law_move", "_law_events"] (defScope (top 63)) := ⟨rfl, rfl, rfl, by decide +kernel, rfl, by decide +kernel, by decide +kernel⟩
theorem ok__law_changed (T : Txt K mg) : ∃ fd, FnOk P w K mg base (L2.CX P w) 7 (He.ga K "_law_changed") fd ["_law_source_here", "_law_move", "_law_events"] (spOf (Gm K) 3 f__law_changed) ∧ Binds K fd ["_law_source_here", "_law_move", "_law_events"] [] ∧ PySem.W.keepIn K (.ref (He.ga K "_law_changed")) = true := by
  obtain ⟨fd, Fd⟩ := T.says.def_ 46
  obtain ⟨d__law_draw, G__law_draw, b__law_draw, k__law_draw⟩ := ok__law_draw (P := P) (w := w) (base := base) T
  obtain ⟨d__law_odd, G__law_odd, b__law_odd, k__law_odd⟩ := ok__law_odd (P := P) (w := w) (base := base) T
  refine ⟨fd, ?_, Fd.bindsN fun _ _ _ _ _ _ us hl => match us, hl with | [_, _, _], _ => rfl, Fd.kp⟩
  refine ok_def (Γ := Gm K) (n := 9) (m := b__law_changed) rfl Fd sc__law_changed rfl fun cdv A outer s H E0 hr => ?_
  unfold b__law_changed
  exact (qs_cons (qs_asg (q_var 1) (qg_tup rfl rfl (qgs_cons (qg_name (i := 3) sc__law_changed.nd) (qgs_cons (qg_name (i := 4) sc__law_changed.nd) qgs_nil))))
      (qs_cons (qs_set (i := 5) sc__law_changed.nd (q_call G__law_draw (hr.mono (by decide : 4 ≤ 6)) (T.glo 14) k__law_draw b__law_draw (takes_of rfl rfl rfl rfl) (qa_cons (q_var 0) (qa_cons q_int qa_nil))))
      (qs_cons (qs_set (i := 6) sc__law_changed.nd (q_call G__law_draw (hr.mono (by decide : 4 ≤ 6)) (T.glo 14) k__law_draw b__law_draw (takes_of rfl rfl rfl rfl) (qa_cons (q_var 0) (qa_cons (q_op or_add ok_add (q_callB cr_len ok_len (T.free 0) (by decide +kernel) (qa_cons (q_var 3) qa_nil)) q_int) qa_nil))))
      (qs_cons (qs_if (qt_cmp op_lt ok_cmp (q_var 5) q_int (nomark _)) (qs_cons (qs_set (i := 7) sc__law_changed.nd (q_ix ix_seq ok_ix (q_lst (qa_cons (q_var 2) (qa_cons (q_un un_neg ok_neg q_int) (qa_cons (q_call G__law_odd (hr.mono (by decide : 6 ≤ 6)) (T.glo 58) k__law_odd b__law_odd (takes_of rfl rfl rfl rfl) (qa_cons (q_var 0) qa_nil)) (qa_cons (q_call G__law_draw (hr.mono (by decide : 4 ≤ 6)) (T.glo 14) k__law_draw b__law_draw (takes_of rfl rfl rfl rfl) (qa_cons (q_var 0) (qa_cons (q_var 2) qa_nil))) qa_nil))))) (q_var 5) (fun _ _ => rfl)))
      (qs_one (qs_ret (q_tup (qa_cons (q_op or_add ok_add (q_op or_add ok_add (q_sl rfl (q_var 3) qo_none (qo_some (q_var 6))) (q_tup (qa_cons (q_var 7) qa_nil))) (q_sl rfl (q_var 3) (qo_some (q_var 6)) qo_none)) (qa_cons (q_var 4) qa_nil)))))) qs_nil)
      (qs_cons (qs_if (qt_cmp (or_eqZ rfl (hr.mono (by decide : 3 ≤ 6)) (eqc T)) (ok_eqZ T.ins) (q_var 5) q_int (nomark _)) (qs_one (qs_ret (q_tup (qa_cons (q_revA rfl (q_var 3)) (qa_cons (q_var 4) qa_nil))))) qs_nil)
      (qs_cons (qs_set (i := 8) sc__law_changed.nd (q_lst (qa_cons (q_tup (qa_cons (q_callTy call_list_of ok_list (T.free 26) (by decide +kernel) (qa_cons (q_var 3) qa_nil)) (qa_cons (q_var 4) qa_nil))) (qa_cons (q_tup (qa_cons (q_var 3) (qa_cons (q_ix ix_seq ok_ix (q_lst (qa_cons q_int (qa_cons q_int (qa_cons (q_un un_neg ok_neg q_int) (qa_cons (q_op op_pow ok_pow q_int q_int) qa_nil))))) (q_call G__law_draw (hr.mono (by decide : 4 ≤ 6)) (T.glo 14) k__law_draw b__law_draw (takes_of rfl rfl rfl rfl) (qa_cons (q_var 0) (qa_cons q_int qa_nil))) (fun _ _ => rfl)) qa_nil))) (qa_cons (q_tup (qa_cons (q_var 3) (qa_cons (q_call G__law_odd (hr.mono (by decide : 6 ≤ 6)) (T.glo 58) k__law_odd b__law_odd (takes_of rfl rfl rfl rfl) (qa_cons (q_var 0) qa_nil)) qa_nil))) (qa_cons (q_lst (qa_cons (q_var 3) (qa_cons (q_var 4) qa_nil))) qa_nil))))))
      (qs_one (qs_ret (q_ix ix_seq ok_ix (q_var 8) (q_op op_sub ok_sub (q_var 5) q_int) (fun _ _ => rfl))))))))))
theorem sc__law_first_broken : FnScope ["_law_beat_here", "_law_parts_here", "_law_spans_here", "_law_moments", "_law_index", "_law_one", "_law_other", "_law_low", "_law_high", "_law_number"] ["_law_beat_here", "_law_parts_here", "_law_spans_here", "_law_moments"] (defScope (top 60)) := ⟨rfl, rfl, rfl, by decide +kernel, rfl, by decide +kernel, by decide +kernel⟩
theorem ok__law_first_broken (T : Txt K mg) : ∃ fd, FnOk P w K mg base (L2.CX P w) 1 (He.ga K "_law_first_broken") fd ["_law_beat_here", "_law_parts_here", "_law_spans_here", "_law_moments"] (spOf (Gm K) 4 f__law_first_broken) ∧ Binds K fd ["_law_beat_here", "_law_parts_here", "_law_spans_here", "_law_moments"] [] ∧ PySem.W.keepIn K (.ref (He.ga K "_law_first_broken")) = true := by
  obtain ⟨fd, Fd⟩ := T.says.def_ 47
  refine ⟨fd, ?_, Fd.bindsN fun _ _ _ _ _ _ us hl => match us, hl with | [_, _, _, _], _ => rfl, Fd.kp⟩
  refine ok_def (Γ := Gm K) (n := 10) (m := b__law_first_broken) rfl Fd sc__law_first_broken rfl fun cdv A outer s H E0 hr => ?_
  unfold b__law_first_broken
  exact (qs_cons (qs_for (passes_of rfl) rfl (qi_rng1 (T.free 15) (qa_cons (q_callB cr_len ok_len (T.free 0) (by decide +kernel) (qa_cons (q_var 2) qa_nil)) qa_nil)) (qg_name (i := 4) sc__law_first_broken.nd) (qs_cons (qs_asg (q_ix ix_seq ok_ix (q_var 2) (q_var 4) (fun _ _ => rfl)) (qg_tup rfl rfl (qgs_cons (qg_name (i := 5) sc__law_first_broken.nd) (qgs_cons (qg_name (i := 6) sc__law_first_broken.nd) (qgs_cons (qg_name (i := 7) sc__law_first_broken.nd) (qgs_cons (qg_name (i := 8) sc__law_first_broken.nd) qgs_nil))))))
      (qs_cons (qs_set (i := 9) sc__law_first_broken.nd (q_op or_add ok_add (q_op op_modN ok_mod (q_callTy call_int1 ok_int (T.free 1) (by decide +kernel) (qa_cons (q_op op_sub ok_sub (q_op op_sub ok_sub (q_ix ix_seq ok_ix (q_var 3) (q_var 6) (fun _ _ => rfl)) (q_ix ix_seq ok_ix (q_var 3) (q_var 5) (fun _ _ => rfl))) (q_op or_mul ok_mul (q_var 7) (q_var 1))) qa_nil)) (q_op or_mul ok_mul (q_var 0) (q_var 1))) (q_op or_mul ok_mul (q_var 7) (q_var 1))))
      (qs_one (qs_if (qt_cmp op_gt ok_cmp (q_var 9) (q_op or_mul ok_mul (q_var 8) (q_var 1)) (nomark _)) (qs_one (qs_ret (q_var 4))) qs_nil)))))
      (qs_one (qs_ret q_non)))
theorem sc__law_is_move : FnScope ["_law_events", "_law_thing", "_law_event", "_law_k"] ["_law_events", "_law_thing"] (defScope (top 61)) := ⟨rfl, rfl, rfl, by decide +kernel, rfl, by decide +kernel, by decide +kernel⟩
theorem ok__law_is_move (T : Txt K mg) : ∃ fd, FnOk P w K mg base (L2.CX P w) 5 (He.ga K "_law_is_move") fd ["_law_events", "_law_thing"] (spOf (Gm K) 2 f__law_is_move) ∧ Binds K fd ["_law_events", "_law_thing"] [] ∧ PySem.W.keepIn K (.ref (He.ga K "_law_is_move")) = true := by
  obtain ⟨fd, Fd⟩ := T.says.def_ 48
  obtain ⟨d__law_integer, G__law_integer, b__law_integer, k__law_integer⟩ := ok__law_integer (P := P) (w := w) (base := base) T
  refine ⟨fd, ?_, Fd.bindsN fun _ _ _ _ _ _ us hl => match us, hl with | [_, _], _ => rfl, Fd.kp⟩
  refine ok_def (Γ := Gm K) (n := 4) (m := b__law_is_move) rfl Fd sc__law_is_move rfl fun cdv A outer s H E0 hr => ?_
  unfold b__law_is_move
  exact (qs_cons (qs_if (PW.pt (qw_or (qt_not (qt_val (q_isi (T := (.bi "tuple")) rfl T.ins (T.is_ 21) (T.free 4) (q_var 1) (pe_bltn (v := .ty "tuple") rfl (T.free 20) (by decide +kernel) rfl)))) (qw_or (qt_cmp (or_ne (k := 3) rfl (hr.mono (by decide : 4 ≤ 4)) (nec T)) ok_neX (q_callB cr_len ok_len (T.free 0) (by decide +kernel) (qa_cons (q_var 1) qa_nil)) q_int (nomark _)) (qw_or (qt_not (qt_val (q_isi (T := (.bi "tuple")) rfl T.ins (T.is_ 21) (T.free 4) (q_ix ix_seq ok_ix (q_var 1) q_int (fun _ _ => rfl)) (pe_bltn (v := .ty "tuple") rfl (T.free 20) (by decide +kernel) rfl)))) (qw_or1 (qt_cmp (or_eqZ rfl (hr.mono (by decide : 3 ≤ 4)) (eqc T)) (ok_eqZ T.ins) (q_callB cr_len ok_len (T.free 0) (by decide +kernel) (qa_cons (q_ix ix_seq ok_ix (q_var 1) q_int (fun _ _ => rfl)) qa_nil)) q_int (nomark _))))))) (qs_one (qs_ret q_bl)) qs_nil)
      (qs_cons (qs_if (PW.pt (qw_or (qt_not (qt_val (q_call G__law_integer (hr.mono (by decide : 1 ≤ 4)) (T.glo 56) k__law_integer b__law_integer (takes_of rfl rfl rfl rfl) (qa_cons (q_ix ix_seq ok_ix (q_var 1) q_int (fun _ _ => rfl)) qa_nil)))) (qw_or1 (qt_cmp (or_notInZ rfl (hr.mono (by decide : 0 ≤ 4))) ok_inZ (q_ix ix_seq ok_ix (q_var 1) q_int (fun _ _ => rfl)) (q_tup (qa_cons q_int (qa_cons (q_un un_neg ok_neg q_int) qa_nil))) (by rfl))))) (qs_one (qs_ret q_bl)) qs_nil)
      (qs_cons (qs_if (qt_not (qt_val (q_callB (cr_all rfl) ok_all (T.free 22) (by decide +kernel) (qa_cons (q_lc (own := [("_law_event", 2)]) (g := (.nm 2)) rfl rfl sc__law_is_move.nd (qi_seq rfl (q_ix ix_seq ok_ix (q_var 1) q_int (fun _ _ => rfl))) (blkOk_by (N := ["_law_events", "_law_thing", "_law_event", "_law_k"]) (sc := defScope (top 61)) (by decide +kernel)) (fun _ _ _ _ _ => (qr_nm (Γ := Gm K) (i := 2) sc__law_is_move.nd)) (fun _ _ _ _ _ => qts_nil) (fun _ _ _ _ _ => (q_and (q_call G__law_integer (hr.mono (by decide : 1 ≤ 4)) (T.glo 56) k__law_integer b__law_integer takes0 (qa_cons (q_var 2) qa_nil)) (q_and (q_cmp op_le ok_cmp q_int (q_var 2) (nomark _)) (q_one (q_cmp op_lt ok_cmp (q_var 2) (q_var 0) (nomark _))))))) qa_nil)))) (qs_one (qs_ret q_bl)) qs_nil)
      (qs_one (qs_ret (q_callB (cr_all rfl) ok_all (T.free 22) (by decide +kernel) (qa_cons (q_lc (own := [("_law_k", 3)]) (g := (.nm 3)) rfl rfl sc__law_is_move.nd (qi_rng2 (T.free 15) (qa_cons q_int (qa_cons (q_callB cr_len ok_len (T.free 0) (by decide +kernel) (qa_cons (q_ix ix_seq ok_ix (q_var 1) q_int (fun _ _ => rfl)) qa_nil)) qa_nil))) (blkOk_by (N := ["_law_events", "_law_thing", "_law_event", "_law_k"]) (sc := defScope (top 61)) (by decide +kernel)) (fun _ _ _ _ _ => (qr_nm (Γ := Gm K) (i := 3) sc__law_is_move.nd)) (fun _ _ _ _ _ => qts_nil) (fun _ _ _ _ _ => (q_cmp op_lt ok_cmp (q_ix ix_seq ok_ix (q_ix ix_seq ok_ix (q_var 1) q_int (fun _ _ => rfl)) (q_op op_sub ok_sub (q_var 3) q_int) (fun _ _ => rfl)) (q_ix ix_seq ok_ix (q_ix ix_seq ok_ix (q_var 1) q_int (fun _ _ => rfl)) (q_var 3) (fun _ _ => rfl)) (nomark _)))) qa_nil)))))))
theorem sc__law_scaled : FnScope ["_law_thing", "_law_parts_here"] ["_law_thing", "_law_parts_here"] (defScope (top 57)) := ⟨rfl, rfl, rfl, by decide +kernel, rfl, by decide +kernel, by decide +kernel⟩
theorem ok__law_scaled (T : Txt K mg) : ∃ fd, FnOk P w K mg base (L2.CX P w) 5 (He.ga K "_law_scaled") fd ["_law_thing", "_law_parts_here"] (spOf (Gm K) 2 f__law_scaled) ∧ Binds K fd ["_law_thing", "_law_parts_here"] [] ∧ PySem.W.keepIn K (.ref (He.ga K "_law_scaled")) = true := by
  obtain ⟨fd, Fd⟩ := T.says.def_ 49
  obtain ⟨d__law_integer, G__law_integer, b__law_integer, k__law_integer⟩ := ok__law_integer (P := P) (w := w) (base := base) T
  refine ⟨fd, ?_, Fd.bindsN fun _ _ _ _ _ _ us hl => match us, hl with | [_, _], _ => rfl, Fd.kp⟩
  refine ok_def (Γ := Gm K) (n := 2) (m := b__law_scaled) rfl Fd sc__law_scaled rfl fun cdv A outer s H E0 hr => ?_
  unfold b__law_scaled
  exact (qs_cons (qs_if (qt_val (q_call G__law_integer (hr.mono (by decide : 1 ≤ 4)) (T.glo 56) k__law_integer b__law_integer (takes_of rfl rfl rfl rfl) (qa_cons (q_var 0) qa_nil))) (qs_one (qs_ret (q_op or_mul ok_mul (q_var 0) (q_var 1)))) qs_nil)
      (qs_cons (qs_if (PW.pt (qw_or (qt_not (qt_val (q_isi (T := (.own "Ratio")) rfl T.ins (T.is_ 7) (T.free 4) (q_var 0) (pe_glob (v := .ref (He.ga K "Ratio")) rfl (T.glo 6) rfl)))) (qw_or (qt_not (qt_val (q_call G__law_integer (hr.mono (by decide : 1 ≤ 4)) (T.glo 56) k__law_integer b__law_integer (takes_of rfl rfl rfl rfl) (qa_cons (q_fld T.pl rfl (q_var 0)) qa_nil)))) (qw_or1 (qt_not (qt_val (q_call G__law_integer (hr.mono (by decide : 1 ≤ 4)) (T.glo 56) k__law_integer b__law_integer (takes_of rfl rfl rfl rfl) (qa_cons (q_fld T.pl rfl (q_var 0)) qa_nil)))))))) (qs_one (qs_ret q_non)) qs_nil)
      (qs_cons (qs_if (PW.pt (qw_or (qt_cmp op_lt ok_cmp (q_fld T.pl rfl (q_var 0)) q_int (nomark _)) (qw_or (qt_cmp (or_eqZ rfl (hr.mono (by decide : 3 ≤ 4)) (eqc T)) (ok_eqZ T.ins) (q_op op_modN ok_mod (q_callTy call_int1 ok_int (T.free 1) (by decide +kernel) (qa_cons (q_fld T.pl rfl (q_var 0)) qa_nil)) (q_fld T.pl rfl (q_var 0))) q_int (nomark _)) (qw_or1 (qt_cmp (or_ne (k := 3) rfl (hr.mono (by decide : 4 ≤ 4)) (nec T)) ok_neX (q_op op_modN ok_mod (q_callTy call_int1 ok_int (T.free 1) (by decide +kernel) (qa_cons (q_op or_mul ok_mul (q_fld T.pl rfl (q_var 0)) (q_var 1)) qa_nil)) (q_fld T.pl rfl (q_var 0))) q_int (nomark _)))))) (qs_one (qs_ret q_non)) qs_nil)
      (qs_one (qs_ret (q_op op_fdivA ok_div (q_op or_mul ok_mul (q_fld T.pl rfl (q_var 0)) (q_var 1)) (q_fld T.pl rfl (q_var 0))))))))
theorem sc__law_all_scaled : FnScope ["_law_things", "_law_many", "_law_parts_here", "_law_found", "_law_thing"] ["_law_things", "_law_many", "_law_parts_here"] (defScope (top 58)) := ⟨rfl, rfl, rfl, by decide +kernel, rfl, by decide +kernel, by decide +kernel⟩
theorem ok__law_all_scaled (T : Txt K mg) : ∃ fd, FnOk P w K mg base (L2.CX P w) 6 (He.ga K "_law_all_scaled") fd ["_law_things", "_law_many", "_law_parts_here"] (spOf (Gm K) 3 f__law_all_scaled) ∧ Binds K fd ["_law_things", "_law_many", "_law_parts_here"] [] ∧ PySem.W.keepIn K (.ref (He.ga K "_law_all_scaled")) = true := by
  obtain ⟨fd, Fd⟩ := T.says.def_ 50
  obtain ⟨d__law_scaled, G__law_scaled, b__law_scaled, k__law_scaled⟩ := ok__law_scaled (P := P) (w := w) (base := base) T
  refine ⟨fd, ?_, Fd.bindsN fun _ _ _ _ _ _ us hl => match us, hl with | [_, _, _], _ => rfl, Fd.kp⟩
  refine ok_def (Γ := Gm K) (n := 5) (m := b__law_all_scaled) rfl Fd sc__law_all_scaled rfl fun cdv A outer s H E0 hr => ?_
  unfold b__law_all_scaled
  exact (qs_cons (qs_if (PW.pt (qw_or (qt_not (qt_val (q_isi (T := (.bi "tuple")) rfl T.ins (T.is_ 21) (T.free 4) (q_var 0) (pe_bltn (v := .ty "tuple") rfl (T.free 20) (by decide +kernel) rfl)))) (qw_or1 (qt_cmp (or_ne (k := 3) rfl (hr.mono (by decide : 4 ≤ 5)) (nec T)) ok_neX (q_callB cr_len ok_len (T.free 0) (by decide +kernel) (qa_cons (q_var 0) qa_nil)) (q_var 1) (nomark _))))) (qs_one (qs_ret q_non)) qs_nil)
      (qs_cons (qs_setLc (i := 3) (own := [("_law_thing", 4)]) (g := (.nm 4)) rfl rfl sc__law_all_scaled.nd rfl rfl (sw_true rfl rfl rfl (by decide +kernel)) (qi_seq rfl (q_var 0)) (blkOk_by (N := ["_law_things", "_law_many", "_law_parts_here", "_law_found", "_law_thing"]) (sc := defScope (top 58)) (by decide +kernel)) (fun _ _ _ _ _ => (qr_nm (Γ := Gm K) (i := 4) sc__law_all_scaled.nd)) (fun _ _ _ _ _ => qts_nil) (fun _ _ _ _ _ => (q_call G__law_scaled (hr.mono (by decide : 5 ≤ 5)) (T.glo 59) k__law_scaled b__law_scaled takes0 (qa_cons (q_var 4) (qa_cons (q_var 2) qa_nil)))))
      (qs_cons (qs_if (qt_cmp (or_inZ rfl (hr.mono (by decide : 0 ≤ 5))) ok_inZ q_non (q_var 3) (by rfl)) (qs_one (qs_ret q_non)) qs_nil)
      (qs_one (qs_ret (q_var 3))))))
theorem sc__law_right : FnScope ["_law_net", "_law_parts_here", "_law_spans_here", "_law_moments", "_law_things", "_law_move", "_law_told_here", "_law_due", "_law_event", "_law_index"] ["_law_net", "_law_parts_here", "_law_spans_here", "_law_moments", "_law_things", "_law_move"] (defScope (top 64)) := ⟨rfl, rfl, rfl, by decide +kernel, rfl, by decide +kernel, by decide +kernel⟩
theorem ok__law_right (T : Txt K mg) : ∃ fd, FnOk P w K mg base (L2.CX P w) 14 (He.ga K "_law_right") fd ["_law_net", "_law_parts_here", "_law_spans_here", "_law_moments", "_law_things", "_law_move"] (spOf (Gm K) 6 f__law_right) ∧ Binds K fd ["_law_net", "_law_parts_here", "_law_spans_here", "_law_moments", "_law_things", "_law_move"] [] ∧ PySem.W.keepIn K (.ref (He.ga K "_law_right")) = true := by
  obtain ⟨fd, Fd⟩ := T.says.def_ 51
  obtain ⟨d__law_told, G__law_told, b__law_told, k__law_told⟩ := ok__law_told (P := P) (w := w) (base := base) T
  obtain ⟨d__law_first_broken, G__law_first_broken, b__law_first_broken, k__law_first_broken⟩ := ok__law_first_broken (P := P) (w := w) (base := base) T
  obtain ⟨d__law_is_move, G__law_is_move, b__law_is_move, k__law_is_move⟩ := ok__law_is_move (P := P) (w := w) (base := base) T
  obtain ⟨d__law_all_scaled, G__law_all_scaled, b__law_all_scaled, k__law_all_scaled⟩ := ok__law_all_scaled (P := P) (w := w) (base := base) T
  refine ⟨fd, ?_, Fd.bindsN fun _ _ _ _ _ _ us hl => match us, hl with | [_, _, _, _, _, _], _ => rfl, Fd.kp⟩
  refine ok_def (Γ := Gm K) (n := 10) (m := b__law_right) rfl Fd sc__law_right rfl fun cdv A outer s H E0 hr => ?_
  unfold b__law_right
  exact (qs_cons (qs_set (i := 6) sc__law_right.nd (q_call G__law_told (hr.mono (by decide : 13 ≤ 13)) (T.glo 60) k__law_told b__law_told (takes_of rfl rfl rfl rfl) (qa_cons (q_var 0) (qa_cons (q_var 4) (qa_cons (q_var 5) qa_nil)))))
      (qs_cons (qs_if (qt_cmp op_notN ok_notN (q_call G__law_first_broken (hr.mono (by decide : 1 ≤ 13)) (T.glo 61) k__law_first_broken b__law_first_broken (takes_of rfl rfl rfl rfl) (qa_cons (q_fld T.pl rfl (q_var 0)) (qa_cons (q_var 1) (qa_cons (q_var 2) (qa_cons (q_var 3) qa_nil))))) q_non (nomark _)) (qs_one (qs_ret (q_cmp (or_eqZ rfl (hr.mono (by decide : 3 ≤ 13)) (eqc T)) (ok_eqZ T.ins) (q_var 6) (q_tup (qa_cons q_str (qa_cons (q_tup (qa_cons q_bl (qa_cons q_bl (qa_cons q_bl qa_nil)))) qa_nil))) (nomark _)))) qs_nil)
      (qs_cons (qs_if (qt_not (qt_val (q_call G__law_is_move (hr.mono (by decide : 5 ≤ 13)) (T.glo 62) k__law_is_move b__law_is_move (takes_of rfl rfl rfl rfl) (qa_cons (q_fld T.pl rfl (q_var 0)) (qa_cons (q_var 5) qa_nil))))) (qs_one (qs_ret (q_cmp (or_eqZ rfl (hr.mono (by decide : 3 ≤ 13)) (eqc T)) (ok_eqZ T.ins) (q_var 6) (q_tup (qa_cons q_str (qa_cons (q_tup (qa_cons q_bl (qa_cons q_bl (qa_cons q_bl qa_nil)))) qa_nil))) (nomark _)))) qs_nil)
      (qs_cons (qs_set (i := 7) sc__law_right.nd (q_callTy call_list_of ok_list (T.free 26) (by decide +kernel) (qa_cons (q_var 3) qa_nil)))
      (qs_cons (qs_for (passes_of rfl) rfl (qi_seq rfl (q_ix ix_seq ok_ix (q_var 5) q_int (fun _ _ => rfl))) (qg_name (i := 8) sc__law_right.nd) (qs_one (qs_asg (q_op op_modN ok_mod (q_callTy call_int1 ok_int (T.free 1) (by decide +kernel) (qa_cons (q_op or_add ok_add (q_ix ix_seq ok_ix (q_var 7) (q_var 8) (fun _ _ => rfl)) (q_op or_mul ok_mul (q_ix ix_seq ok_ix (q_var 5) q_int (fun _ _ => rfl)) (q_var 1))) qa_nil)) (q_op or_mul ok_mul (q_fld T.pl rfl (q_var 0)) (q_var 1))) (qg_sub (W := WF E0) (q_var 7) (q_var 8)))))
      (qs_cons (qs_set (i := 9) sc__law_right.nd (q_call G__law_first_broken (hr.mono (by decide : 1 ≤ 13)) (T.glo 61) k__law_first_broken b__law_first_broken (takes_of rfl rfl rfl rfl) (qa_cons (q_fld T.pl rfl (q_var 0)) (qa_cons (q_var 1) (qa_cons (q_var 2) (qa_cons (q_var 7) qa_nil))))))
      (qs_cons (qs_if (qt_cmp op_notN ok_notN (q_var 9) q_non (nomark _)) (qs_one (qs_ret (q_cmp (or_eqZ rfl (hr.mono (by decide : 3 ≤ 13)) (eqc T)) (ok_eqZ T.ins) (q_var 6) (q_tup (qa_cons q_str (qa_cons (q_var 9) qa_nil))) (nomark _)))) qs_nil)
      (qs_one (qs_ret (q_and (q_cmp (or_eqZ rfl (hr.mono (by decide : 3 ≤ 13)) (eqc T)) (ok_eqZ T.ins) (q_ix ix_seq ok_ix (q_var 6) q_int (fun _ _ => rfl)) q_str (nomark _)) (q_one (q_cmp (or_eqZ rfl (hr.mono (by decide : 3 ≤ 13)) (eqc T)) (ok_eqZ T.ins) (q_call G__law_all_scaled (hr.mono (by decide : 6 ≤ 13)) (T.glo 63) k__law_all_scaled b__law_all_scaled (takes_of rfl rfl rfl rfl) (qa_cons (q_ix ix_seq ok_ix (q_var 6) q_int (fun _ _ => rfl)) (qa_cons (q_fld T.pl rfl (q_var 0)) (qa_cons (q_var 1) qa_nil)))) (q_var 7) (nomark _)))))))))))))
theorem sc__law_handed : FnScope ["_law_source_here", "_law_top", "_law_parts_here"] ["_law_source_here", "_law_top", "_law_parts_here"] (defScope (top 54)) := ⟨rfl, rfl, rfl, by decide +kernel, rfl, by decide +kernel, by decide +kernel⟩
theorem ok__law_handed (T : Txt K mg) : ∃ fd, FnOk P w K mg base (L2.CX P w) 6 (He.ga K "_law_handed") fd ["_law_source_here", "_law_top", "_law_parts_here"] (spOf (Gm K) 3 f__law_handed) ∧ Binds K fd ["_law_source_here", "_law_top", "_law_parts_here"] [] ∧ PySem.W.keepIn K (.ref (He.ga K "_law_handed")) = true := by
  obtain ⟨fd, Fd⟩ := T.says.def_ 52
  obtain ⟨d__law_draw, G__law_draw, b__law_draw, k__law_draw⟩ := ok__law_draw (P := P) (w := w) (base := base) T
  obtain ⟨d_Ratio___init__, G_Ratio___init__, b_Ratio___init__, k_Ratio___init__⟩ := ok_Ratio___init__ (P := P) (w := w) (base := base) T
  refine ⟨fd, ?_, Fd.bindsN fun _ _ _ _ _ _ us hl => match us, hl with | [_, _, _], _ => rfl, Fd.kp⟩
  refine ok_def (Γ := Gm K) (n := 3) (m := b__law_handed) rfl Fd sc__law_handed rfl fun cdv A outer s H E0 hr => ?_
  unfold b__law_handed
  exact (qs_cons (qs_if (PW.pt (qw_and (qt_cmp (or_eqZ rfl (hr.mono (by decide : 3 ≤ 5)) (eqc T)) (ok_eqZ T.ins) (q_op op_modN ok_mod (q_callTy call_int1 ok_int (T.free 1) (by decide +kernel) (qa_cons (q_var 1) qa_nil)) (q_var 2)) q_int (nomark _)) (qw_and1 (qt_cmp op_gt ok_cmp (q_call G__law_draw (hr.mono (by decide : 4 ≤ 5)) (T.glo 14) k__law_draw b__law_draw (takes_of rfl rfl rfl rfl) (qa_cons (q_var 0) (qa_cons q_int qa_nil))) q_int (nomark _))))) (qs_one (qs_ret (q_op op_fdivA ok_div (q_var 1) (q_var 2)))) qs_nil)
      (qs_one (qs_ret (q_make (C := "Ratio") (T.pl.1 _ (by decide)).sub (T.mkr 36) G_Ratio___init__ (hr.mono (by decide : 5 ≤ 5)) (T.glo 6) b_Ratio___init__ (takes_of rfl rfl rfl rfl) (qa_cons (q_var 1) (qa_cons (q_var 2) qa_nil))))))
theorem sc_law : FnScope ["_law_script", "_law_source_here", "_law_beat_here", "_law_parts_here", "_law_events", "_law_moments", "_law_k", "_law_width", "_law_spans_here", "_law_net", "_law_move", "_law_given", "_law_at", "_law_things", "_law_moment_here", "_law_odd_here"] ["_law_script"] (defScope (top 65)) := ⟨rfl, rfl, rfl, by decide +kernel, rfl, by decide +kernel, by decide +kernel⟩
theorem ok_law (T : Txt K mg) : ∃ fd, (∀ (s : Shared) (u : Value), BindsTo s fd ⟨[u], []⟩ [("_law_script", u)]) ∧ ∀ base : Heap, FnOk P w K mg base (L2.CX P w) 15 (He.ga K "law") fd ["_law_script"] (spOf (Gm K) 1 f_law) := by
  obtain ⟨fd, Fd⟩ := T.says.def_ 53
  refine ⟨fd, fun s v => FunD.bindsA (ps := ["_law_script"]) Fd (fun _ _ _ _ _ _ us hl => match us, hl with | [_], _ => rfl) s [v] rfl, fun base => ?_⟩
  obtain ⟨d__law_source, G__law_source, b__law_source, k__law_source⟩ := ok__law_source (P := P) (w := w) (base := base) T
  obtain ⟨d__law_beat, G__law_beat, b__law_beat, k__law_beat⟩ := ok__law_beat (P := P) (w := w) (base := base) T
  obtain ⟨d__law_parts, G__law_parts, b__law_parts, k__law_parts⟩ := ok__law_parts (P := P) (w := w) (base := base) T
  obtain ⟨d__law_draw, G__law_draw, b__law_draw, k__law_draw⟩ := ok__law_draw (P := P) (w := w) (base := base) T
  obtain ⟨d__law_moment, G__law_moment, b__law_moment, k__law_moment⟩ := ok__law_moment (P := P) (w := w) (base := base) T
  obtain ⟨d__law_spans, G__law_spans, b__law_spans, k__law_spans⟩ := ok__law_spans (P := P) (w := w) (base := base) T
  obtain ⟨d_Net___init__, G_Net___init__, b_Net___init__, k_Net___init__⟩ := ok_Net___init__ (P := P) (w := w) (base := base) T
  obtain ⟨d__law_block, G__law_block, b__law_block, k__law_block⟩ := ok__law_block (P := P) (w := w) (base := base) T
  obtain ⟨d__law_changed, G__law_changed, b__law_changed, k__law_changed⟩ := ok__law_changed (P := P) (w := w) (base := base) T
  obtain ⟨d__law_handed, G__law_handed, b__law_handed, k__law_handed⟩ := ok__law_handed (P := P) (w := w) (base := base) T
  obtain ⟨d__law_right, G__law_right, b__law_right, k__law_right⟩ := ok__law_right (P := P) (w := w) (base := base) T
  obtain ⟨d__law_odd, G__law_odd, b__law_odd, k__law_odd⟩ := ok__law_odd (P := P) (w := w) (base := base) T
  obtain ⟨d__law_told, G__law_told, b__law_told, k__law_told⟩ := ok__law_told (P := P) (w := w) (base := base) T
  refine ok_def (Γ := Gm K) (n := 16) (m := b_law) rfl Fd sc_law rfl fun cdv A outer s H E0 hr => ?_
  unfold b_law b_law_t1 b_law_t2 b_law_t3 b_law_t4 b_law_t5 b_law_t6 b_law_t7 b_law_t8 b_law_t9 b_law_t10 b_law_t11
  exact (qs_cons (qs_set (i := 1) sc_law.nd (q_call G__law_source (hr.mono (by decide : 1 ≤ 14)) (T.glo 64) k__law_source b__law_source (takes_of rfl rfl rfl rfl) (qa_cons (q_var 0) (qa_cons q_int qa_nil))))
      (qs_cons (qs_set (i := 2) sc_law.nd (q_call G__law_beat (hr.mono (by decide : 5 ≤ 14)) (T.glo 65) k__law_beat b__law_beat (takes_of rfl rfl rfl rfl) (qa_cons (q_var 1) qa_nil)))
      (qs_cons (qs_set (i := 3) sc_law.nd (q_call G__law_parts (hr.mono (by decide : 5 ≤ 14)) (T.glo 66) k__law_parts b__law_parts (takes_of rfl rfl rfl rfl) (qa_cons (q_var 1) qa_nil)))
      (qs_cons (qs_set (i := 4) sc_law.nd (q_op or_add ok_add q_int (q_call G__law_draw (hr.mono (by decide : 4 ≤ 14)) (T.glo 14) k__law_draw b__law_draw (takes_of rfl rfl rfl rfl) (qa_cons (q_var 1) (qa_cons (q_ix ix_seq ok_ix (q_lst (qa_cons q_int (qa_cons q_int qa_nil))) (q_call G__law_draw (hr.mono (by decide : 4 ≤ 14)) (T.glo 14) k__law_draw b__law_draw (takes_of rfl rfl rfl rfl) (qa_cons (q_var 1) (qa_cons q_int qa_nil))) (fun _ _ => rfl)) qa_nil)))))
      (qs_cons (qs_setLc (i := 5) (own := [("_law_k", 6)]) (g := (.nm 6)) rfl rfl sc_law.nd rfl rfl (sw_true rfl rfl rfl (by decide +kernel)) (qi_rng1 (T.free 15) (qa_cons (q_var 4) qa_nil)) (blkOk_by (N := ["_law_script", "_law_source_here", "_law_beat_here", "_law_parts_here", "_law_events", "_law_moments", "_law_k", "_law_width", "_law_spans_here", "_law_net", "_law_move", "_law_given", "_law_at", "_law_things", "_law_moment_here", "_law_odd_here"]) (sc := defScope (top 65)) (by decide +kernel)) (fun _ _ _ _ _ => (qr_nm (Γ := Gm K) (i := 6) sc_law.nd)) (fun _ _ _ _ _ => qts_nil) (fun _ _ _ _ _ => (q_call G__law_moment (hr.mono (by decide : 5 ≤ 14)) (T.glo 67) k__law_moment b__law_moment takes0 (qa_cons (q_call G__law_source (hr.mono (by decide : 1 ≤ 14)) (T.glo 64) k__law_source b__law_source takes0 (qa_cons (q_var 0) (qa_cons (q_op or_add ok_add q_int (q_var 6)) qa_nil))) (qa_cons (q_var 2) (qa_cons (q_var 3) qa_nil))))))
      (qs_cons (qs_set (i := 7) sc_law.nd (q_ix ix_seq ok_ix (q_lst (qa_cons q_int (qa_cons q_int (qa_cons (q_var 2) qa_nil)))) (q_call G__law_draw (hr.mono (by decide : 4 ≤ 14)) (T.glo 14) k__law_draw b__law_draw (takes_of rfl rfl rfl rfl) (qa_cons (q_var 1) (qa_cons q_int qa_nil))) (fun _ _ => rfl)))
      (qs_cons (qs_set (i := 8) sc_law.nd (q_call G__law_spans (hr.mono (by decide : 6 ≤ 14)) (T.glo 68) k__law_spans b__law_spans (takes_of rfl rfl rfl rfl) (qa_cons (q_call G__law_source (hr.mono (by decide : 1 ≤ 14)) (T.glo 64) k__law_source b__law_source (takes_of rfl rfl rfl rfl) (qa_cons (q_var 0) (qa_cons q_int qa_nil))) (qa_cons (q_var 2) (qa_cons (q_var 3) (qa_cons (q_var 5) (qa_cons (q_call G__law_draw (hr.mono (by decide : 4 ≤ 14)) (T.glo 14) k__law_draw b__law_draw (takes_of rfl rfl rfl rfl) (qa_cons (q_var 1) (qa_cons q_int qa_nil))) (qa_cons (q_var 7) qa_nil))))))))
      (qs_cons (qs_set (i := 9) sc_law.nd (q_make (C := "Net") (T.pl.1 _ (by decide)).sub (T.mkr 69) G_Net___init__ (hr.mono (by decide : 8 ≤ 14)) (T.glo 12) b_Net___init__ (takes_of rfl rfl rfl rfl) (qa_cons (q_var 2) (qa_cons (q_var 4) (qa_cons (q_var 8) qa_nil)))))
      (qs_cons (qs_for (passes_of rfl) rfl (qi_rng2 (T.free 15) (qa_cons q_int (qa_cons (q_callB (call_max2 rfl) ok_max2 (T.free 17) (by decide +kernel) (qa_cons q_int (qa_cons (q_callB (call_min2 rfl) ok_min2 (T.free 16) (by decide +kernel) (qa_cons (q_callB cr_len ok_len (T.free 0) (by decide +kernel) (qa_cons (q_var 0) qa_nil)) (qa_cons q_int qa_nil))) qa_nil))) qa_nil))) (qg_name (i := 6) sc_law.nd) (qs_cons (qs_set (i := 1) sc_law.nd (q_call G__law_source (hr.mono (by decide : 1 ≤ 14)) (T.glo 64) k__law_source b__law_source (takes_of rfl rfl rfl rfl) (qa_cons (q_var 0) (qa_cons (q_var 6) qa_nil))))
      (qs_cons (qs_set (i := 10) sc_law.nd (q_tup (qa_cons (q_call G__law_block (hr.mono (by decide : 5 ≤ 14)) (T.glo 70) k__law_block b__law_block (takes_of rfl rfl rfl rfl) (qa_cons (q_var 1) (qa_cons (q_var 4) qa_nil))) (qa_cons (q_op op_sub ok_sub q_int (q_op or_mul ok_mul q_int (q_call G__law_draw (hr.mono (by decide : 4 ≤ 14)) (T.glo 14) k__law_draw b__law_draw (takes_of rfl rfl rfl rfl) (qa_cons (q_var 1) (qa_cons q_int qa_nil))))) qa_nil))))
      (qs_cons (qs_if (qt_cmp (or_eqZ rfl (hr.mono (by decide : 3 ≤ 14)) (eqc T)) (ok_eqZ T.ins) (q_call G__law_draw (hr.mono (by decide : 4 ≤ 14)) (T.glo 14) k__law_draw b__law_draw (takes_of rfl rfl rfl rfl) (qa_cons (q_var 1) (qa_cons q_int qa_nil))) q_int (nomark _)) (qs_one (qs_set (i := 10) sc_law.nd (q_call G__law_changed (hr.mono (by decide : 7 ≤ 14)) (T.glo 71) k__law_changed b__law_changed (takes_of rfl rfl rfl rfl) (qa_cons (q_var 1) (qa_cons (q_var 10) (qa_cons (q_var 4) qa_nil)))))) qs_nil)
      (qs_cons (qs_set (i := 11) sc_law.nd (q_callTy call_list_of ok_list (T.free 26) (by decide +kernel) (qa_cons (q_var 5) qa_nil)))
      (qs_cons (qs_if (qt_cmp (or_eqZ rfl (hr.mono (by decide : 3 ≤ 14)) (eqc T)) (ok_eqZ T.ins) (q_call G__law_draw (hr.mono (by decide : 4 ≤ 14)) (T.glo 14) k__law_draw b__law_draw (takes_of rfl rfl rfl rfl) (qa_cons (q_var 1) (qa_cons q_int qa_nil))) q_int (nomark _)) (qs_cons (qs_set (i := 12) sc_law.nd (q_call G__law_draw (hr.mono (by decide : 4 ≤ 14)) (T.glo 14) k__law_draw b__law_draw (takes_of rfl rfl rfl rfl) (qa_cons (q_var 1) (qa_cons (q_var 4) qa_nil))))
      (qs_one (qs_asg (q_op op_modN ok_mod (q_callTy call_int1 ok_int (T.free 1) (by decide +kernel) (qa_cons (q_op or_add ok_add (q_ix ix_seq ok_ix (q_var 11) (q_var 12) (fun _ _ => rfl)) (q_op or_mul ok_mul (q_var 3) (q_call G__law_draw (hr.mono (by decide : 4 ≤ 14)) (T.glo 14) k__law_draw b__law_draw (takes_of rfl rfl rfl rfl) (qa_cons (q_var 1) (qa_cons (q_var 2) qa_nil))))) qa_nil)) (q_op or_mul ok_mul (q_var 2) (q_var 3))) (qg_sub (W := WF E0) (q_var 11) (q_var 12))))) qs_nil)
      (qs_cons (qs_set (i := 13) sc_law.nd (q_callTy call_tuple_of ok_tuple (T.free 20) (by decide +kernel) (qa_cons (q_lc (own := [("_law_moment_here", 14)]) (g := (.nm 14)) rfl rfl sc_law.nd (qi_seq rfl (q_var 11)) (blkOk_by (N := ["_law_script", "_law_source_here", "_law_beat_here", "_law_parts_here", "_law_events", "_law_moments", "_law_k", "_law_width", "_law_spans_here", "_law_net", "_law_move", "_law_given", "_law_at", "_law_things", "_law_moment_here", "_law_odd_here"]) (sc := defScope (top 65)) (by decide +kernel)) (fun _ _ _ _ _ => (qr_nm (Γ := Gm K) (i := 14) sc_law.nd)) (fun _ _ _ _ _ => qts_nil) (fun _ _ _ _ _ => (q_call G__law_handed (hr.mono (by decide : 6 ≤ 14)) (T.glo 72) k__law_handed b__law_handed takes0 (qa_cons (q_var 1) (qa_cons (q_var 14) (qa_cons (q_var 3) qa_nil)))))) qa_nil)))
      (qs_one (qs_if (qt_not (qt_val (q_call G__law_right (hr.mono (by decide : 14 ≤ 14)) (T.glo 73) k__law_right b__law_right (takes_of rfl rfl rfl rfl) (qa_cons (q_var 9) (qa_cons (q_var 3) (qa_cons (q_var 8) (qa_cons (q_var 11) (qa_cons (q_var 13) (qa_cons (q_var 10) qa_nil))))))))) (qs_one (qs_ret q_bl)) qs_nil)))))))))
      (qs_cons (qs_set (i := 15) sc_law.nd (q_call G__law_odd (hr.mono (by decide : 6 ≤ 14)) (T.glo 58) k__law_odd b__law_odd (takes_of rfl rfl rfl rfl) (qa_cons (q_var 1) qa_nil)))
      (qs_cons (qs_if (qt_val (q_isi (T := (.bi "tuple")) rfl T.ins (T.is_ 21) (T.free 4) (q_var 15) (pe_bltn (v := .ty "tuple") rfl (T.free 20) (by decide +kernel) rfl))) (qs_one (qs_set (i := 15) sc_law.nd q_non)) qs_nil)
      (qs_one (qs_ret (q_cmp (or_eqZ rfl (hr.mono (by decide : 3 ≤ 14)) (eqc T)) (ok_eqZ T.ins) (q_call G__law_told (hr.mono (by decide : 13 ≤ 14)) (T.glo 60) k__law_told b__law_told (takes_of rfl rfl rfl rfl) (qa_cons (q_var 9) (qa_cons (q_var 15) (qa_cons (q_var 15) qa_nil)))) (q_tup (qa_cons q_str (qa_cons (q_tup (qa_cons q_bl (qa_cons q_bl (qa_cons q_bl qa_nil)))) qa_nil))) (nomark _)))))))))))))))
end
/-! ### the head -/
theorem ob_eq (s : PySem.W.SharedT) : ob s = hk.obs s.abs := obsLG_eq (HandSHeadRun.getT_eq s)
end Mi_k20
open PySem PySem.W PySem.Calls PyProof.Rows in
theorem Mi_k20.holds_of (h : ∀ ns : List Int, ns.length ≤ 63 → ∃ S', Mi_k20.f_law [.rol (ns.map Lk.D.int)] [] = .ok (.bl true) S') : PySem.Challenge.rw_likespans_k20_moves_kept_or_broken.Holds := by
  w_on; o_law
  refine HandSHeadRun.head_imp (r := OpenLaw.row PySem.Challenge.rw_likespans_k20_moves_kept_or_broken) (q := view (OpenLaw.row PySem.Challenge.rw_likespans_k20_moves_kept_or_broken).prog [0, 65]) (H := Mi_k20.hk) (ob := Mi_k20.ob) (M := 12000) (loose := Mi_k20.loose) (d := HandSHeadRun.topDef (OpenLaw.row PySem.Challenge.rw_likespans_k20_moves_kept_or_broken).prog 65) (kwd := []) Mi_k20.ob_eq
     Mi_k20.run (by kernel_rfl) (by kernel_rfl) (by kernel_rfl) (by rfl) (by first | assumption | decide +kernel) (by decide +kernel) ⟨rfl, rfl, rfl, rfl, rfl, by decide +kernel⟩ ?hw ?hc
  case hw => w_witness2
  case hc =>
    refine Lk.walk_fin (l := PySem.Challenge.rw_likespans_k20_moves_kept_or_broken) (n := 63) (k := 15) (x := "_law_script") (m := Mi_k20.f_law) rfl (by decide) (by kernel_rfl) ⟨rfl, by decide, by decide⟩ h ?F
    intro w mg fa h' Y G hmg0
    obtain ⟨K, KX, c⟩ := Y
    have hmg : mg ("law" : PySem.Str) = some (.ref fa) := by
      have e : (HandSHeadRun.topDef (OpenLaw.row PySem.Challenge.rw_likespans_k20_moves_kept_or_broken).prog 65).name = ("law" : PySem.Str) := by kernel_rfl
      rw [← e]
      exact hmg0
    have T : Mi_k20.Txt K mg := ⟨c, h', KX, G⟩
    obtain ⟨fd, b, F⟩ := Mi_k20.ok_law (P := (PySem.Challenge.rw_likespans_k20_moves_kept_or_broken).prog) (w := w) T
    have e := hmg.symm.trans (T.glo 74)
    cases e
    exact ⟨Mi_k20.Gm K, fd, rfl, KX, b, fun base _ _ => F base⟩

set_option linter.all false
set_option autoImplicit false
set_option maxRecDepth 100000
set_option maxHeartbeats 4000000
namespace Mi_k20
open PySem Lk L2
theorem eqd_int (S : Store) (i j : Int) : gEqX cs oe (.int i) (.int j) S = .ok (.bl (decide (i = j))) S := by
  unfold gEqX eqData
  simp only [pyD]
  have sh : ∀ k : Int, SeqAt.shaped (.int k) = true := fun k => by
    simp [SeqAt.shaped, PyData.canLay0, PyData.depth]
  simp only [sh, and_self, if_true, PyData.eqv]
  rfl
theorem eqz_int (S : Store) (i j : Int) : gEqZ cs oe (.int i) (.int j) S = .ok (.bl (decide (i = j))) S := by
  unfold gEqZ
  exact eqd_int S i j
theorem at40 (x y z w : D) : atI [x, y, z, w] 0 = some x := rfl
theorem at41 (x y z w : D) : atI [x, y, z, w] 1 = some y := rfl
theorem at42 (x y z w : D) : atI [x, y, z, w] 2 = some z := rfl
theorem at43 (x y z w : D) : atI [x, y, z, w] 3 = some w := rfl
theorem ix40 : ixN 4 0 = some 0 := rfl
theorem ix41 : ixN 4 1 = some 1 := rfl
theorem ix42 : ixN 4 2 = some 2 := rfl
theorem ix43 : ixN 4 3 = some 3 := rfl
theorem pow1010 (S : Store) : Lk.gPow (.int 10) (.int 10) S = .ok (.int 10000000000) S := by
  unfold Lk.gPow
  dsimp only
  rw [if_pos (by decide)]
  rfl
theorem pow1018 (S : Store) : Lk.gPow (.int 10) (.int 18) S = .ok (.int 1000000000000000000) S := by
  unfold Lk.gPow
  dsimp only
  rw [if_pos (by decide)]
  rfl
theorem pow1019 (S : Store) : Lk.gPow (.int 10) (.int 19) S = .ok (.int 10000000000000000000) S := by
  unfold Lk.gPow
  dsimp only
  rw [if_pos (by decide)]
  rfl
theorem gc_len {S S' : Store} {d : D} (h : S'.length = S.length) : gc S d S' = .ok d S' := by
  unfold Lk.gc
  split
  · rename_i c
    have : S'.take S.length = S' := by rw [← h, List.take_length]
    rw [← this, c.2]
  · rfl
theorem bits_lt {i : Int} (k : Nat) (h : i.natAbs < 2 ^ k) (hk : 0 < k) : bits i < k := by
  unfold bits
  by_cases z : i.natAbs = 0
  · rw [z]; simpa using hk
  · exact (Nat.log2_lt z).mpr h
theorem mul_ok {i j : Int} (h1 : i.natAbs < 2 ^ 1000) (h2 : j.natAbs < 2 ^ 1000) : bits i + bits j < 1000000 := by
  have := bits_lt 1000 h1 (by decide)
  have := bits_lt 1000 h2 (by decide)
  omega
theorem small {i : Int} (h1 : -1606938044258990275541962092341162602522202993782792835301376 ≤ i) (h2 : i ≤ 1606938044258990275541962092341162602522202993782792835301376) : i.natAbs < 2 ^ 1000 := by
  have e : (1606938044258990275541962092341162602522202993782792835301376 : Nat) < 2 ^ 1000 := by decide +kernel
  have : i.natAbs ≤ 1606938044258990275541962092341162602522202993782792835301376 := by omega
  exact Nat.lt_of_le_of_lt this e
theorem fmd_pos {i j : Int} (h : 0 < j) : 0 ≤ fmd i j ∧ fmd i j < j := by
  unfold fmd
  rw [if_pos h]
  exact ⟨Int.emod_nonneg _ (by omega), Int.emod_lt_of_pos _ h⟩
theorem fdv_pos {i j : Int} (h : 0 < j) : fdv i j = i / j := if_pos h
def Src4 (S : Store) (n : Nat) (a b c d : Int) : Prop := S[n]? = some (.lst [.int a, .int b, .int c, .int d])
theorem draw_ok {S : Store} {n : Nat} {a b c d m : Int} (h : Src4 S n a b c d) (hm : 0 < m) (hm2 : bits m < 9000) (hc : 0 ≤ c ∧ c < 2 ^ 60) (hd : 0 ≤ d ∧ d < 2 ^ 60) :
    ∃ r a' c', 0 ≤ r ∧ r < m ∧ c ≤ c' ∧ c' ≤ c + 1 ∧ f__law_draw [.ref n, .int m] S = .ok (.int r) (S.set n (.lst [.int a', .int b, .int c', .int d])) := by
  unfold Src4 at h
  have hn : n < S.length := by
    rcases Nat.lt_or_ge n S.length with z | z
    · exact z
    · rw [List.getElem?_eq_none z] at h; cases h
  have hm0 : m ≠ 0 := by omega
  by_cases hb : b = 1 ∧ 0 < a
  · obtain ⟨hb, ha⟩ := hb
    subst hb
    unfold f__law_draw mDef b__law_draw
    simp only [mSeq, RS.seq, mIfS, mTest, mSet, mRet, mVar, mC, mNil, mCons, Lk.m1, Lk.m2, mB, mAnd, mOr, mNot, mAndT, mOrT, mNotT, mIf, mAsg, mNext, mCall, R.bind, R.bindS, R.nxt, asB, gSub', mTup, mLst, List.getElem?_cons_succ, List.getElem?_cons_zero, List.getElem?_nil, List.set_cons_succ, List.set_cons_zero, List.map_cons, List.map_nil, List.cons_append, List.nil_append, List.length_cons, List.length_nil, List.replicate, Lk.gIx, Lk.gAdd, Lk.gSub, Lk.gMul, Lk.gDiv, Lk.gMod, gInt, gCmp, gNeg, gAbs, gGcd, gLen, List.length_map, Lk.listOf, stIx, if_true, if_false, Bool.false_eq_true, reduceIte, Nat.reduceAdd, Nat.reduceSub, Nat.zero_add, eqz_int, pow1010, pow1018, pow1019, Int.reduceMul, Int.reduceAdd, ix40, ix41, ix42, ix43, at40, at41, at42, at43, and_true, true_and, and_self, ne_eq, not_false_eq_true, decide_true, decide_false, decide_eq_true_eq, Bool.and_true, Bool.true_and, *]
    exact ⟨_, _, _, (fmd_pos hm).1, (fmd_pos hm).2, by omega, by omega, gc_len (by simp)⟩
  · have hg : ∀ x, (List.set S n x)[n]? = some x := fun x => by simp [hn]
    obtain ⟨x1, hx1⟩ : ∃ x, fmd ((d + 7919 * (c + 1) + 1) * 48271) 2147483647 = x := ⟨_, rfl⟩
    have b1 := hx1 ▸ fmd_pos (i := (d + 7919 * (c + 1) + 1) * 48271) (j := 2147483647) (by decide)
    obtain ⟨y1, hy1⟩ : ∃ x, fdv x1 1009 = x := ⟨_, rfl⟩
    obtain ⟨x2, hx2⟩ : ∃ x, fmd (x1 * (y1 + 69621)) 2147483647 = x := ⟨_, rfl⟩
    have b2 := hx2 ▸ fmd_pos (i := x1 * (y1 + 69621)) (j := 2147483647) (by decide)
    obtain ⟨y2, hy2⟩ : ∃ x, fdv x2 2003 = x := ⟨_, rfl⟩
    obtain ⟨x3, hx3⟩ : ∃ x, fmd (x2 * (y2 + 40692)) 2147483399 = x := ⟨_, rfl⟩
    have c1 : y1 = x1 / 1009 := by rw [← hy1]; exact fdv_pos (by decide)
    have c2 : y2 = x2 / 2003 := by rw [← hy2]; exact fdv_pos (by decide)
    have m1 : bits 7919 + bits (c + 1) < 1000000 := mul_ok (small (by decide +kernel) (by decide +kernel)) (small (by omega) (by omega))
    have m2 : bits (d + 7919 * (c + 1) + 1) + bits 48271 < 1000000 := mul_ok (small (by omega) (by omega)) (small (by decide +kernel) (by decide +kernel))
    have m3 : bits x1 + bits (y1 + 69621) < 1000000 := mul_ok (small (by omega) (by omega)) (small (by omega) (by omega))
    have m4 : bits x2 + bits (y2 + 40692) < 1000000 := mul_ok (small (by omega) (by omega)) (small (by omega) (by omega))
    have d1 : bits 1009 < 9000 := by decide +kernel
    have d2 : bits 2003 < 9000 := by decide +kernel
    have k1 : ¬ (2147483647 : Int) = 0 := by decide
    have k2 : ¬ (2147483399 : Int) = 0 := by decide
    have k3 : ¬ (1009 : Int) = 0 := by decide
    have k4 : ¬ (2003 : Int) = 0 := by decide
    clear c1 c2
    refine ⟨fmd x3 m, a, c + 1, (fmd_pos hm).1, (fmd_pos hm).2, by omega, by omega, ?_⟩
    unfold f__law_draw mDef b__law_draw
    by_cases b0 : b = 1
    · have ha : ¬ 0 < a := fun z => hb ⟨b0, z⟩
      subst b0
      simp only [mSeq, RS.seq, mIfS, mTest, mSet, mRet, mVar, mC, mNil, mCons, Lk.m1, Lk.m2, mB, mAnd, mOr, mNot, mAndT, mOrT, mNotT, mIf, mAsg, mNext, mCall, R.bind, R.bindS, R.nxt, asB, gSub', mTup, mLst, List.getElem?_cons_succ, List.getElem?_cons_zero, List.getElem?_nil, List.set_cons_succ, List.set_cons_zero, List.map_cons, List.map_nil, List.cons_append, List.nil_append, List.length_cons, List.length_nil, List.replicate, Lk.gIx, Lk.gAdd, Lk.gSub, Lk.gMul, Lk.gDiv, Lk.gMod, gInt, gCmp, gNeg, gAbs, gGcd, gLen, List.length_map, Lk.listOf, stIx, if_true, if_false, Bool.false_eq_true, reduceIte, Nat.reduceAdd, Nat.reduceSub, Nat.zero_add, eqz_int, pow1010, pow1018, pow1019, Int.reduceMul, Int.reduceAdd, ix40, ix41, ix42, ix43, at40, at41, at42, at43, and_true, true_and, and_self, ne_eq, not_false_eq_true, decide_true, decide_false, decide_eq_true_eq, Bool.and_true, Bool.true_and, *]
      refine gc_len ?_
      simp
    · simp only [mSeq, RS.seq, mIfS, mTest, mSet, mRet, mVar, mC, mNil, mCons, Lk.m1, Lk.m2, mB, mAnd, mOr, mNot, mAndT, mOrT, mNotT, mIf, mAsg, mNext, mCall, R.bind, R.bindS, R.nxt, asB, gSub', mTup, mLst, List.getElem?_cons_succ, List.getElem?_cons_zero, List.getElem?_nil, List.set_cons_succ, List.set_cons_zero, List.map_cons, List.map_nil, List.cons_append, List.nil_append, List.length_cons, List.length_nil, List.replicate, Lk.gIx, Lk.gAdd, Lk.gSub, Lk.gMul, Lk.gDiv, Lk.gMod, gInt, gCmp, gNeg, gAbs, gGcd, gLen, List.length_map, Lk.listOf, stIx, if_true, if_false, Bool.false_eq_true, reduceIte, Nat.reduceAdd, Nat.reduceSub, Nat.zero_add, eqz_int, pow1010, pow1018, pow1019, Int.reduceMul, Int.reduceAdd, ix40, ix41, ix42, ix43, at40, at41, at42, at43, and_true, true_and, and_self, ne_eq, not_false_eq_true, decide_true, decide_false, decide_eq_true_eq, Bool.and_true, Bool.true_and, *]
      exact gc_len (by simp)
/-- the source after some draws -/
def Src (S : Store) (n : Nat) (k : Int) : Prop := ∃ a b c d, Src4 S n a b c d ∧ 0 ≤ c ∧ c ≤ k ∧ 0 ≤ d ∧ d < 2 ^ 60
/-- what a draw leaves: the source alone is changed -/
def Ch (S : Store) (n : Nat) (S' : Store) : Prop := ∃ o, S' = S.set n o
theorem Src.mono {S : Store} {n : Nat} {j k : Int} (h : Src S n j) (hk : j ≤ k) : Src S n k := by
  obtain ⟨a, b, c, d, h, h1, h2, h3, h4⟩ := h
  exact ⟨a, b, c, d, h, h1, by omega, h3, h4⟩
theorem Ch.len {S S' : Store} {n : Nat} (h : Ch S n S') : S'.length = S.length := by
  obtain ⟨o, rfl⟩ := h; simp
theorem Ch.trans {S S' S'' : Store} {n : Nat} (h : Ch S n S') (h' : Ch S' n S'') : Ch S n S'' := by
  obtain ⟨o, rfl⟩ := h
  obtain ⟨o', rfl⟩ := h'
  exact ⟨o', by simp⟩
theorem draw {S : Store} {n : Nat} {k m : Int} (h : Src S n k) (hk : k < 2 ^ 50) (hm : 0 < m) (hm2 : bits m < 9000) : ∃ r S', 0 ≤ r ∧ r < m ∧ f__law_draw [.ref n, .int m] S = .ok (.int r) S' ∧ Src S' n (k + 1) ∧ Ch S n S' := by
  obtain ⟨a, b, c, d, h, h1, h2, h3, h4⟩ := h
  have hn : n < S.length := by
    rcases Nat.lt_or_ge n S.length with z | z
    · exact z
    · unfold Src4 at h; rw [List.getElem?_eq_none z] at h; cases h
  obtain ⟨r, a', c', r1, r2, c1, c2, e⟩ := draw_ok h hm hm2 ⟨h1, by omega⟩ ⟨h3, h4⟩
  exact ⟨r, _, r1, r2, e, ⟨a', b, c', d, by unfold Src4; simp [hn], by omega, by omega, h3, h4⟩, ⟨_, rfl⟩⟩
theorem bits_small {i : Int} (h1 : -1606938044258990275541962092341162602522202993782792835301376 ≤ i) (h2 : i ≤ 1606938044258990275541962092341162602522202993782792835301376) : bits i < 1000 := bits_lt 1000 (small h1 h2) (by decide)
/-- the source from a script -/
theorem source (ns : List Int) (hl : ns.length ≤ 63) (k : Nat) (hk : k ≤ 100) (S : Store) : ∃ S', f__law_source [.rol (ns.map D.int), .int k] S = .ok (.ref S.length) (S ++ S') ∧ S'.length = 1 ∧ Src (S ++ S') S.length 0 := by
  have g0 : ∀ l : List D, ∀ i : Nat, ∀ d, l[i]? = some d → atI l (i : Int) = some d := fun l i d h => by
    have hi : i < l.length := by
      rcases Nat.lt_or_ge i l.length with z | z
      · exact z
      · rw [List.getElem?_eq_none z] at h; cases h
    unfold atI ixN
    have : l[i] = d := by
      rw [List.getElem?_eq_getElem hi] at h
      exact Option.some.inj h
    simp [hi, this]
  have key : ∀ (a b d : Int), 0 ≤ d → d < 2 ^ 60 → Src (S ++ [.lst [.int a, .int b, .int 0, .int d]]) S.length 0 := fun a b d h1 h2 => ⟨a, b, 0, d, by unfold Src4; simp, by omega, by omega, h1, h2⟩
  have gcl : ∀ T : Store, T.length = 1 → gc S (.ref S.length) (S ++ T) = .ok (.ref S.length) (S ++ T) := fun T hT => by
    unfold Lk.gc
    rw [if_neg]
    rintro ⟨c, _⟩
    simp [D.cl] at c
  unfold f__law_source mDef b__law_source
  have hlen : ((ns.map D.int).length : Int) = (ns.length : Int) := by simp
  have km : ¬ (2147483629 : Int) = 0 := by decide
  have mk : bits 104729 + bits (k : Int) < 1000000 := mul_ok (small (by decide +kernel) (by decide +kernel)) (small (by omega) (by omega))
  have z1 : (1 : Nat) ≤ lim := by decide
  have z4 : (4 : Nat) ≤ lim := by decide
  by_cases hk2 : (k : Int) < (ns.length : Int)
  · obtain ⟨x, hx⟩ : ∃ x, ns[k]? = some x := ⟨ns[k]'(by omega), List.getElem?_eq_getElem (by omega)⟩
    have fb := fmd_pos (i := x) (j := 2147483629) (by decide)
    have ex : atI (ns.map D.int) (k : Int) = some (D.int x) := g0 _ _ _ (by rw [List.getElem?_map, hx]; rfl)
    simp only [mSeq, RS.seq, mIfS, mTest, mSet, mRet, mVar, mC, mNil, mCons, Lk.m1, Lk.m2, mB, mAnd, mOr, mNot, mAndT, mOrT, mNotT, mIf, mAsg, mNext, mCall, R.bind, R.bindS, R.nxt, asB, gSub', mTup, mLst, List.getElem?_cons_succ, List.getElem?_cons_zero, List.getElem?_nil, List.set_cons_succ, List.set_cons_zero, List.map_cons, List.map_nil, List.cons_append, List.nil_append, List.length_cons, List.length_nil, List.replicate, Lk.gIx, Lk.gAdd, Lk.gSub, Lk.gMul, Lk.gDiv, Lk.gMod, gInt, gCmp, gNeg, gAbs, gGcd, gLen, List.length_map, Lk.listOf, stIx, if_true, if_false, Bool.false_eq_true, reduceIte, Nat.reduceAdd, Nat.reduceSub, Nat.zero_add, eqz_int, pow1010, pow1018, pow1019, Int.reduceMul, Int.reduceAdd, ix40, ix41, ix42, ix43, at40, at41, at42, at43, and_true, true_and, and_self, ne_eq, not_false_eq_true, decide_true, decide_false, decide_eq_true_eq, Bool.and_true, Bool.true_and, *]
    exact ⟨_, rfl, rfl, key _ _ _ fb.1 (by omega)⟩
  · have hk3 : decide ((k : Int) < (ns.length : Int)) = false := decide_eq_false hk2
    by_cases h0 : 0 < (ns.length : Int)
    · obtain ⟨x, hx⟩ : ∃ x, ns[0]? = some x := ⟨ns[0]'(by omega), List.getElem?_eq_getElem (by omega)⟩
      have ex : atI (ns.map D.int) (0 : Int) = some (D.int x) := g0 _ 0 _ (by rw [List.getElem?_map, hx]; rfl)
      have fb := fmd_pos (i := x) (j := 2147483629) (by decide)
      simp only [mSeq, RS.seq, mIfS, mTest, mSet, mRet, mVar, mC, mNil, mCons, Lk.m1, Lk.m2, mB, mAnd, mOr, mNot, mAndT, mOrT, mNotT, mIf, mAsg, mNext, mCall, R.bind, R.bindS, R.nxt, asB, gSub', mTup, mLst, List.getElem?_cons_succ, List.getElem?_cons_zero, List.getElem?_nil, List.set_cons_succ, List.set_cons_zero, List.map_cons, List.map_nil, List.cons_append, List.nil_append, List.length_cons, List.length_nil, List.replicate, Lk.gIx, Lk.gAdd, Lk.gSub, Lk.gMul, Lk.gDiv, Lk.gMod, gInt, gCmp, gNeg, gAbs, gGcd, gLen, List.length_map, Lk.listOf, stIx, if_true, if_false, Bool.false_eq_true, reduceIte, Nat.reduceAdd, Nat.reduceSub, Nat.zero_add, eqz_int, pow1010, pow1018, pow1019, Int.reduceMul, Int.reduceAdd, ix40, ix41, ix42, ix43, at40, at41, at42, at43, and_true, true_and, and_self, ne_eq, not_false_eq_true, decide_true, decide_false, decide_eq_true_eq, Bool.and_true, Bool.true_and, *]
      exact ⟨_, rfl, rfl, key _ _ _ (by omega) (by omega)⟩
    · simp only [mSeq, RS.seq, mIfS, mTest, mSet, mRet, mVar, mC, mNil, mCons, Lk.m1, Lk.m2, mB, mAnd, mOr, mNot, mAndT, mOrT, mNotT, mIf, mAsg, mNext, mCall, R.bind, R.bindS, R.nxt, asB, gSub', mTup, mLst, List.getElem?_cons_succ, List.getElem?_cons_zero, List.getElem?_nil, List.set_cons_succ, List.set_cons_zero, List.map_cons, List.map_nil, List.cons_append, List.nil_append, List.length_cons, List.length_nil, List.replicate, Lk.gIx, Lk.gAdd, Lk.gSub, Lk.gMul, Lk.gDiv, Lk.gMod, gInt, gCmp, gNeg, gAbs, gGcd, gLen, List.length_map, Lk.listOf, stIx, if_true, if_false, Bool.false_eq_true, reduceIte, Nat.reduceAdd, Nat.reduceSub, Nat.zero_add, eqz_int, pow1010, pow1018, pow1019, Int.reduceMul, Int.reduceAdd, ix40, ix41, ix42, ix43, at40, at41, at42, at43, and_true, true_and, and_self, ne_eq, not_false_eq_true, decide_true, decide_false, decide_eq_true_eq, Bool.and_true, Bool.true_and, *]
      exact ⟨_, rfl, rfl, key _ _ _ (by omega) (by omega)⟩
def isInt : D → Bool | .int _ => true | _ => false
def isBl : D → Bool | .bl _ => true | _ => false
def isR : D → Bool | .ins C _ => C == ("Ratio" : Str) | _ => false
def isTup : D → Bool | .tup _ => true | _ => false
def Kn (S : Store) (d : D) : Prop := ∃ t, tyK S d = some t ∧ okK cs t = true
theorem gI_any {S : Store} {d : D} (h : Kn S d) : gIsi cs [.bi "int"] d S = .ok (.bl (isInt d || isBl d)) S ∧ gIsi cs [.bi "bool"] d S = .ok (.bl (isBl d)) S ∧ gIsi cs [.own "Ratio"] d S = .ok (.bl (isR d)) S := by
  obtain ⟨t, h1, h2⟩ := h
  unfold gIsi
  rw [h1]
  dsimp only
  rw [if_pos h2, if_pos h2, if_pos h2]
  have key : ∀ (t : CK) (x y z : Bool), isA t (.bi "int") = x → isA t (.bi "bool") = y → isA t (.own "Ratio") = z → (R.ok (D.bl ([CK.bi "int"].any fun T => isA t T)) S = R.ok (D.bl x) S ∧ R.ok (D.bl ([CK.bi "bool"].any fun T => isA t T)) S = R.ok (D.bl y) S ∧ R.ok (D.bl ([CK.own "Ratio"].any fun T => isA t T)) S = R.ok (D.bl z) S) := fun t x y z h1 h2 h3 => by
    simp [h1, h2, h3]
  cases d with
  | non => cases h1; exact key _ _ _ _ (by decide) (by decide) (by decide)
  | bl b => cases h1; exact key _ _ _ _ (by simp [isInt, isBl, isA]) (by simp [isInt, isBl, isA]) (by simp [isR, isA])
  | int b => cases h1; exact key _ _ _ _ (by simp [isInt, isBl, isA]) (by simp [isInt, isBl, isA]) (by simp [isR, isA])
  | str b => cases h1; exact key _ _ _ _ (by simp [isInt, isBl, isA]) (by simp [isInt, isBl, isA]) (by simp [isR, isA])
  | tup b => cases h1; exact key _ _ _ _ (by simp [isInt, isBl, isA]) (by simp [isInt, isBl, isA]) (by simp [isR, isA])
  | rol b => cases h1; exact key _ _ _ _ (by simp [isInt, isBl, isA]) (by simp [isInt, isBl, isA]) (by simp [isR, isA])
  | ref n =>
    have h1 : (match S[n]? with
      | some (.lst _) => some (CK.bi "list")
      | some (.dk _) => some (.bi "dict")
      | some (.dt _) => some (.bi "dict")
      | _ => none) = some t := h1
    split at h1 <;> cases h1 <;> exact key _ _ _ _ (by simp [isInt, isBl, isA]) (by simp [isInt, isBl, isA]) (by simp [isR, isA])
  | ins C ds => cases h1; exact key _ _ _ _ (by simp [isInt, isBl, isA]) (by simp [isInt, isBl, isA]) (by simp [isR, isA])
theorem gc_eq {S : Store} {d : D} : gc S d S = .ok d S := gc_self
theorem isint {S : Store} {d : D} (h : Kn S d) : f_is_integer [d] S = .ok (.bl (isInt d)) S := by
  obtain ⟨h1, h2, h3⟩ := gI_any h
  unfold f_is_integer mDef b_is_integer
  cases q : isInt d <;> cases q2 : isBl d <;> rw [q, q2] at h1 <;> rw [q2] at h2 <;> simp only [mSeq, RS.seq, mIfS, mTest, mSet, mRet, mVar, mC, mNil, mCons, Lk.m1, Lk.m2, mB, mAnd, mOr, mNot, mAndT, mOrT, mNotT, mIf, mAsg, mNext, mCall, R.bind, R.bindS, R.nxt, asB, gSub', mTup, mLst, List.getElem?_cons_succ, List.getElem?_cons_zero, List.getElem?_nil, List.set_cons_succ, List.set_cons_zero, List.map_cons, List.map_nil, List.cons_append, List.nil_append, List.length_cons, List.length_nil, List.replicate, Lk.gIx, Lk.gAdd, Lk.gSub, Lk.gMul, Lk.gDiv, Lk.gMod, gInt, gCmp, gNeg, gAbs, gGcd, gLen, List.length_map, Lk.listOf, stIx, if_true, if_false, Bool.false_eq_true, reduceIte, Nat.reduceAdd, Nat.reduceSub, Nat.zero_add, eqz_int, pow1010, pow1018, pow1019, Int.reduceMul, Int.reduceAdd, ix40, ix41, ix42, ix43, at40, at41, at42, at43, and_true, true_and, and_self, ne_eq, not_false_eq_true, decide_true, decide_false, decide_eq_true_eq, Bool.and_true, Bool.true_and, *] <;> first | exact gc_eq | (cases d <;> cases q <;> cases q2) | trace_state
theorem lint : f__law_integer = f_is_integer := rfl
theorem kn_int (S : Store) (i : Int) : Kn S (.int i) := ⟨.bi "int", rfl, by decide⟩
theorem kn_bl (S : Store) (i : Bool) : Kn S (.bl i) := ⟨.bi "bool", rfl, by decide⟩
theorem kn_rat (S : Store) (i : List D) : Kn S (.ins "Ratio" i) := ⟨.own "Ratio", rfl, by decide⟩
/-- the things that are no integers -/
inductive Odd (S : Store) : D → Prop
  | non : Odd S .non
  | bl (b : Bool) : Odd S (.bl b)
  | str (x : Str) : PyData.strOk x = true → Odd S (.str x)
  | rt (p q : Int) : Odd S (.ins "Ratio" [.int p, .int q])
  | t0 : Odd S (.tup [])
  | t1 : Odd S (.tup [.int 3])
  | l0 {n : Nat} : S[n]? = some (.lst []) → Odd S (.ref n)
  | l1 {n : Nat} : S[n]? = some (.lst [.int 5]) → Odd S (.ref n)
  | d0 {n : Nat} : S[n]? = some (.dk []) → Odd S (.ref n)
  | d1 {n : Nat} : S[n]? = some (.dk [(.inl 1, .int 2)]) → Odd S (.ref n)
theorem Odd.kn {S : Store} {d : D} (h : Odd S d) : Kn S d := by
  cases h with
  | l0 h => exact ⟨.bi "list", by simp [tyK, h], by decide⟩
  | l1 h => exact ⟨.bi "list", by simp [tyK, h], by decide⟩
  | d0 h => exact ⟨.bi "dict", by simp [tyK, h], by decide⟩
  | d1 h => exact ⟨.bi "dict", by simp [tyK, h], by decide⟩
  | non => exact ⟨.bi "NoneType", rfl, by decide⟩
  | bl b => exact kn_bl S b
  | str => exact ⟨.bi "str", rfl, by decide⟩
  | rt p q => exact kn_rat S _
  | t0 => exact ⟨.bi "tuple", rfl, by decide⟩
  | t1 => exact ⟨.bi "tuple", rfl, by decide⟩
theorem Odd.notInt {S : Store} {d : D} (h : Odd S d) : isInt d = false := by cases h <;> rfl
theorem getlt {S : Store} {n : Nat} {o : Ob} (h : S[n]? = some o) : n < S.length := by
  rcases Nat.lt_or_ge n S.length with z | z
  · exact z
  · rw [List.getElem?_eq_none z] at h; cases h
theorem forGo_n {g : MG} {mb : MS} {env : Lk.Env} {S : Store} : forGo (fun _ => True) g mb [] env S = .nx env S := by unfold forGo; exact if_pos trivial
theorem lim_le {n : Nat} (h : n ≤ 100) : (n ≤ lim) = True := by
  have : lim = 16777216 := rfl
  simp only [eq_iff_iff, iff_true]
  omega
theorem forGo_c {g : MG} {mb : MS} {env : Lk.Env} {S : Store} {d : D} {ds : List D} : forGo (fun _ => True) g mb (d :: ds) env S = (match g d env S with
    | .ok e1 S1 => (match mb e1 S1 with
      | .nx e2 S2 => forGo (fun _ => True) g mb ds e2 S2
      | .ct e2 S2 => forGo (fun _ => True) g mb ds e2 S2
      | .bk e2 S2 => .nx e2 S2
      | r => r)
    | _ => .bad) := by
  rw [forGo, if_pos trivial]
  all_goals (cases g d env S <;> first | rfl | (rename_i e1 S1; dsimp only; cases mb e1 S1 <;> rfl))
/-- integers and odd things -/
def Pt (S : Store) (d : D) : Prop := (∃ i, d = .int i) ∨ Odd S d
theorem Pt.kn {S : Store} {d : D} (h : Pt S d) : Kn S d := by
  rcases h with ⟨i, rfl⟩ | h
  · exact kn_int S i
  · exact h.kn
theorem Kn.app {S T : Store} {d : D} (h : Kn S d) : Kn (S ++ T) d := by
  obtain ⟨t, h1, h2⟩ := h
  refine ⟨t, ?_, h2⟩
  cases d with
  | ref n =>
    have h1 : (match S[n]? with
      | some (.lst _) => some (CK.bi "list")
      | some (.dk _) => some (.bi "dict")
      | some (.dt _) => some (.bi "dict")
      | _ => none) = some t := h1
    show (match (S ++ T)[n]? with
      | some (.lst _) => some (CK.bi "list")
      | some (.dk _) => some (.bi "dict")
      | some (.dt _) => some (.bi "dict")
      | _ => none) = some t
    have hn : n < S.length := by
      rcases Nat.lt_or_ge n S.length with z | z
      · exact z
      · rw [List.getElem?_eq_none z] at h1; cases h1
    rw [List.getElem?_append_left hn]
    exact h1
  | _ => exact h1
/-- what may stand in a row of spans -/
inductive SV (S : Store) : D → Prop
  | odd {d : D} : Odd S d → SV S d
  | int (i : Int) : SV S (.int i)
  | tup {xs : List D} : xs.length ≤ 5 → (∀ x ∈ xs, Pt S x) → SV S (.tup xs)
  | lst {n : Nat} {a b c d : Int} : S[n]? = some (.lst [.int a, .int b, .int c, .int d]) → SV S (.ref n)
theorem SV.kn {S : Store} {d : D} (h : SV S d) : Kn S d := by
  cases h with
  | odd h => exact h.kn
  | int i => exact kn_int S i
  | tup _ _ => exact ⟨.bi "tuple", rfl, by decide⟩
  | lst h => exact ⟨.bi "list", by simp [tyK, h], by decide⟩
def spanB (b e : Int) : D → Bool
  | .tup [.int i, .int j, .int lo, .int hi] => decide (0 ≤ i ∧ i < e ∧ 0 ≤ j ∧ j < e ∧ i ≠ j ∧ 0 ≤ lo ∧ lo ≤ hi ∧ hi ≤ 2880 ∧ hi - lo ≤ b - 2)
  | _ => false
theorem gIt {S : Store} {d : D} (h : Kn S d) : gIsi cs [.bi "tuple"] d S = .ok (.bl (isTup d)) S := by
  obtain ⟨t, h1, h2⟩ := h
  unfold gIsi
  rw [h1]
  dsimp only
  rw [if_pos h2]
  have key : ∀ (t : CK) (x : Bool), isA t (.bi "tuple") = x → R.ok (D.bl ([CK.bi "tuple"].any fun T => isA t T)) S = R.ok (D.bl x) S := fun t x h1 => by simp [h1]
  cases d with
  | non => cases h1; exact key _ _ (by decide)
  | bl b => cases h1; exact key _ _ (by simp [isTup, isA])
  | int b => cases h1; exact key _ _ (by simp [isTup, isA])
  | str b => cases h1; exact key _ _ (by simp [isTup, isA])
  | tup b => cases h1; exact key _ _ (by simp [isTup, isA])
  | rol b => cases h1; exact key _ _ (by simp [isTup, isA])
  | ref n =>
    have h1 : (match S[n]? with
      | some (.lst _) => some (CK.bi "list")
      | some (.dk _) => some (.bi "dict")
      | some (.dt _) => some (.bi "dict")
      | _ => none) = some t := h1
    split at h1 <;> cases h1 <;> exact key _ _ (by simp [isTup, isA])
  | ins C ds => cases h1; exact key _ _ (by simp [isTup, isA])
theorem gn_int {S : Store} {i j : Int} : gNeX oe (.int i) (.int j) S = .ok (.bl (!decide (i = j))) S := by
  have sh : ∀ k : Int, SeqAt.shaped (.int k) = true := fun k => by
    simp [SeqAt.shaped, PyData.canLay0, PyData.depth]
  have e : eqData S (.int i) (.int j) = some (decide (i = j)) := by
    unfold eqData
    simp only [pyD, sh, and_self, if_true, PyData.eqv]
    rfl
  show gNe (.int i) (.int j) S = _
  unfold gNe
  rw [e]
theorem all_ints {S : Store} {bs : List Bool} : gAll [.ref S.length] (S ++ [.lst (bs.map D.bl)]) = .ok (.bl (bs.all id)) (S ++ [.lst (bs.map D.bl)]) := by
  have e : ∀ bs : List Bool, dBools (bs.map D.bl) = some bs := fun bs => by
    induction bs with
    | nil => rfl
    | cons b bs ih => simp [dBools, ih]
  unfold gAll onL
  simp [e, Lk.listOf]
theorem gc_bl {S : Store} {v : Bool} {T : Store} : gc S (.bl v) (S ++ T) = .ok (.bl v) S := gc_ok (by simp [D.cl])
theorem below {S : Store} {l i : Int} : f_is_below [.int l, .int i] S = .ok (.bl (decide (0 ≤ i ∧ i < l))) S := by
  have hi := isint (kn_int S i)
  simp only [isInt] at hi
  unfold f_is_below mDef b_is_below
  by_cases h1 : 0 ≤ i
  · by_cases h2 : i < l
    · rw [decide_eq_true ⟨h1, h2⟩]
      simp only [mSeq, RS.seq, mIfS, mTest, mSet, mRet, mVar, mC, mNil, mCons, Lk.m1, Lk.m2, mB, mAnd, mOr, mNot, mAndT, mOrT, mNotT, mIf, mAsg, mNext, mCall, R.bind, R.bindS, R.nxt, asB, gSub', mTup, mLst, List.getElem?_cons_succ, List.getElem?_cons_zero, List.getElem?_nil, List.set_cons_succ, List.set_cons_zero, List.map_cons, List.map_nil, List.cons_append, List.nil_append, List.length_cons, List.length_nil, List.replicate, Lk.gIx, Lk.gAdd, Lk.gSub, Lk.gMul, Lk.gDiv, Lk.gMod, gInt, gCmp, gNeg, gAbs, gGcd, gLen, List.length_map, Lk.listOf, stIx, if_true, if_false, Bool.false_eq_true, reduceIte, Nat.reduceAdd, Nat.reduceSub, Nat.zero_add, eqz_int, pow1010, pow1018, pow1019, Int.reduceMul, Int.reduceAdd, ix40, ix41, ix42, ix43, at40, at41, at42, at43, and_true, true_and, and_self, ne_eq, not_false_eq_true, decide_true, decide_false, decide_eq_true_eq, Bool.and_true, Bool.true_and, mFor, iSeq, srcOf, vals, forGo_n, forGo_c, gSet, mRaise1, mSetF, setF, lim_le, Nat.reduceLeDiff, Bool.not_false, Bool.not_true, Nat.lt_irrefl, List.length_append, List.append_assoc, hi, mCh2, mLink, mLast, h1, h2]
      exact gc_self
    · rw [decide_eq_false (fun z => h2 z.2)]
      simp only [mSeq, RS.seq, mIfS, mTest, mSet, mRet, mVar, mC, mNil, mCons, Lk.m1, Lk.m2, mB, mAnd, mOr, mNot, mAndT, mOrT, mNotT, mIf, mAsg, mNext, mCall, R.bind, R.bindS, R.nxt, asB, gSub', mTup, mLst, List.getElem?_cons_succ, List.getElem?_cons_zero, List.getElem?_nil, List.set_cons_succ, List.set_cons_zero, List.map_cons, List.map_nil, List.cons_append, List.nil_append, List.length_cons, List.length_nil, List.replicate, Lk.gIx, Lk.gAdd, Lk.gSub, Lk.gMul, Lk.gDiv, Lk.gMod, gInt, gCmp, gNeg, gAbs, gGcd, gLen, List.length_map, Lk.listOf, stIx, if_true, if_false, Bool.false_eq_true, reduceIte, Nat.reduceAdd, Nat.reduceSub, Nat.zero_add, eqz_int, pow1010, pow1018, pow1019, Int.reduceMul, Int.reduceAdd, ix40, ix41, ix42, ix43, at40, at41, at42, at43, and_true, true_and, and_self, ne_eq, not_false_eq_true, decide_true, decide_false, decide_eq_true_eq, Bool.and_true, Bool.true_and, mFor, iSeq, srcOf, vals, forGo_n, forGo_c, gSet, mRaise1, mSetF, setF, lim_le, Nat.reduceLeDiff, Bool.not_false, Bool.not_true, Nat.lt_irrefl, List.length_append, List.append_assoc, hi, mCh2, mLink, mLast, h1, h2]
      exact gc_self
  · rw [decide_eq_false (fun z => h1 z.1)]
    simp only [mSeq, RS.seq, mIfS, mTest, mSet, mRet, mVar, mC, mNil, mCons, Lk.m1, Lk.m2, mB, mAnd, mOr, mNot, mAndT, mOrT, mNotT, mIf, mAsg, mNext, mCall, R.bind, R.bindS, R.nxt, asB, gSub', mTup, mLst, List.getElem?_cons_succ, List.getElem?_cons_zero, List.getElem?_nil, List.set_cons_succ, List.set_cons_zero, List.map_cons, List.map_nil, List.cons_append, List.nil_append, List.length_cons, List.length_nil, List.replicate, Lk.gIx, Lk.gAdd, Lk.gSub, Lk.gMul, Lk.gDiv, Lk.gMod, gInt, gCmp, gNeg, gAbs, gGcd, gLen, List.length_map, Lk.listOf, stIx, if_true, if_false, Bool.false_eq_true, reduceIte, Nat.reduceAdd, Nat.reduceSub, Nat.zero_add, eqz_int, pow1010, pow1018, pow1019, Int.reduceMul, Int.reduceAdd, ix40, ix41, ix42, ix43, at40, at41, at42, at43, and_true, true_and, and_self, ne_eq, not_false_eq_true, decide_true, decide_false, decide_eq_true_eq, Bool.and_true, Bool.true_and, mFor, iSeq, srcOf, vals, forGo_n, forGo_c, gSet, mRaise1, mSetF, setF, lim_le, Nat.reduceLeDiff, Bool.not_false, Bool.not_true, Nat.lt_irrefl, List.length_append, List.append_assoc, hi, mCh2, mLink, mLast, h1]
    exact gc_self
theorem own_span {S : Store} {d : D} {b e : Int} (h : SV S d) : f_is_span [.int b, .int e, d] S = .ok (.bl (spanB b e d)) S := by
  have ht := gIt h.kn
  by_cases tp : isTup d = true
  · rw [tp] at ht
    obtain ⟨xs, rfl⟩ : ∃ xs, d = .tup xs := by cases d <;> first | exact ⟨_, rfl⟩ | cases tp
    have hp : xs.length ≤ 5 ∧ ∀ x ∈ xs, Pt S x := by
      cases h with
      | odd h =>
        cases h with
        | t0 => exact ⟨by simp, by simp⟩
        | t1 => exact ⟨by simp, fun x hx => .inl ⟨3, by simpa using hx⟩⟩
      | tup h1 h2 => exact ⟨h1, h2⟩
    by_cases l4 : xs.length = 4
    · have hl : ([] : List D).length + xs.length ≤ lim := by
        have : lim = 16777216 := rfl
        simp only [List.length_nil]
        omega
      have cm := lc_map (i := 3) (env := [some (.int b), some (.int e), some (D.tup xs), none, none, none, none, none]) (me := mCall 1 f_is_integer (mCons (mVar 3) mNil)) (S := S) (fun d => D.bl (isInt d)) xs [] hl fun x hx a => by
        have hi := isint ((hp.2 x hx).kn.app (T := [.lst a]))
        simp only [mSeq, RS.seq, mIfS, mTest, mSet, mRet, mVar, mC, mNil, mCons, Lk.m1, Lk.m2, mB, mAnd, mOr, mNot, mAndT, mOrT, mNotT, mIf, mAsg, mNext, mCall, R.bind, R.bindS, R.nxt, asB, gSub', mTup, mLst, List.getElem?_cons_succ, List.getElem?_cons_zero, List.getElem?_nil, List.set_cons_succ, List.set_cons_zero, List.map_cons, List.map_nil, List.cons_append, List.nil_append, List.length_cons, List.length_nil, List.replicate, Lk.gIx, Lk.gAdd, Lk.gSub, Lk.gMul, Lk.gDiv, Lk.gMod, gInt, gCmp, gNeg, gAbs, gGcd, gLen, List.length_map, Lk.listOf, stIx, if_true, if_false, Bool.false_eq_true, reduceIte, Nat.reduceAdd, Nat.reduceSub, Nat.zero_add, eqz_int, pow1010, pow1018, pow1019, Int.reduceMul, Int.reduceAdd, ix40, ix41, ix42, ix43, at40, at41, at42, at43, and_true, true_and, and_self, ne_eq, not_false_eq_true, decide_true, decide_false, decide_eq_true_eq, Bool.and_true, Bool.true_and, mFor, iSeq, srcOf, vals, forGo_n, forGo_c, gSet, mRaise1, mSetF, setF, lim_le, Nat.reduceLeDiff, Bool.not_false, Bool.not_true, Nat.lt_irrefl, List.length_append, List.append_assoc, hi]
      have em : xs.map (fun d => D.bl (isInt d)) = (xs.map isInt).map D.bl := by simp
      rw [List.nil_append, em] at cm
      have ga := all_ints (S := S) (bs := xs.map isInt)
      have hn : gNeX oe (.int (xs.length : Nat)) (.int 4) S = .ok (.bl false) S := by
        rw [l4]
        exact gn_int
      unfold f_is_span mDef b_is_span
      by_cases ai : (xs.map isInt).all id = true
      · rw [ai] at ga
        obtain ⟨i, j, lo, hi, rfl⟩ : ∃ i j lo hi, xs = [.int i, .int j, .int lo, .int hi] := by
          match xs, l4, ai with
          | [x1, x2, x3, x4], _, ai =>
            simp only [List.map_cons, List.map_nil, List.all_cons, List.all_nil, Bool.and_true, Bool.and_eq_true, id] at ai
            obtain ⟨a1, a2, a3, a4⟩ := ai
            cases x1 <;> first | cases a1 | skip
            cases x2 <;> first | cases a2 | skip
            cases x3 <;> first | cases a3 | skip
            cases x4 <;> first | cases a4 | skip
            exact ⟨_, _, _, _, rfl⟩
        simp only [List.map_cons, List.map_nil, isInt, List.length_cons, List.length_nil, Nat.zero_add, Nat.reduceAdd] at cm ga hn
        have tr : spanB b e (.tup [.int i, .int j, .int lo, .int hi]) = decide (0 ≤ i ∧ i < e ∧ 0 ≤ j ∧ j < e ∧ i ≠ j ∧ 0 ≤ lo ∧ lo ≤ hi ∧ hi ≤ 2880 ∧ hi - lo ≤ b - 2) := rfl
        rw [tr]
        have b1 : ∀ S : Store, f_is_below [.int e, .int i] S = .ok (.bl (decide (0 ≤ i ∧ i < e))) S := fun S => below
        have b2 : ∀ S : Store, f_is_below [.int e, .int j] S = .ok (.bl (decide (0 ≤ j ∧ j < e))) S := fun S => below
        by_cases h1 : 0 ≤ i ∧ i < e
        rotate_left
        · rw [decide_eq_false (by omega)]
          rw [decide_eq_false h1] at b1
          simp only [mSeq, RS.seq, mIfS, mTest, mSet, mRet, mVar, mC, mNil, mCons, Lk.m1, Lk.m2, mB, mAnd, mOr, mNot, mAndT, mOrT, mNotT, mIf, mAsg, mNext, mCall, R.bind, R.bindS, R.nxt, asB, gSub', mTup, mLst, List.getElem?_cons_succ, List.getElem?_cons_zero, List.getElem?_nil, List.set_cons_succ, List.set_cons_zero, List.map_cons, List.map_nil, List.cons_append, List.nil_append, List.length_cons, List.length_nil, List.replicate, Lk.gIx, Lk.gAdd, Lk.gSub, Lk.gMul, Lk.gDiv, Lk.gMod, gInt, gCmp, gNeg, gAbs, gGcd, gLen, List.length_map, Lk.listOf, stIx, if_true, if_false, Bool.false_eq_true, reduceIte, Nat.reduceAdd, Nat.reduceSub, Nat.zero_add, eqz_int, pow1010, pow1018, pow1019, Int.reduceMul, Int.reduceAdd, ix40, ix41, ix42, ix43, at40, at41, at42, at43, and_true, true_and, and_self, ne_eq, not_false_eq_true, decide_true, decide_false, decide_eq_true_eq, Bool.and_true, Bool.true_and, mFor, iSeq, srcOf, vals, forGo_n, forGo_c, gSet, mRaise1, mSetF, setF, lim_le, Nat.reduceLeDiff, Bool.not_false, Bool.not_true, Nat.lt_irrefl, List.length_append, List.append_assoc, ht, hn, mLc, wipeE, cm, ga, gUnpack, gCons', gNil', b1]
          exact gc_bl
        rw [decide_eq_true h1] at b1
        by_cases h2 : 0 ≤ j ∧ j < e
        rotate_left
        · rw [decide_eq_false (by omega)]
          rw [decide_eq_false h2] at b2
          simp only [mSeq, RS.seq, mIfS, mTest, mSet, mRet, mVar, mC, mNil, mCons, Lk.m1, Lk.m2, mB, mAnd, mOr, mNot, mAndT, mOrT, mNotT, mIf, mAsg, mNext, mCall, R.bind, R.bindS, R.nxt, asB, gSub', mTup, mLst, List.getElem?_cons_succ, List.getElem?_cons_zero, List.getElem?_nil, List.set_cons_succ, List.set_cons_zero, List.map_cons, List.map_nil, List.cons_append, List.nil_append, List.length_cons, List.length_nil, List.replicate, Lk.gIx, Lk.gAdd, Lk.gSub, Lk.gMul, Lk.gDiv, Lk.gMod, gInt, gCmp, gNeg, gAbs, gGcd, gLen, List.length_map, Lk.listOf, stIx, if_true, if_false, Bool.false_eq_true, reduceIte, Nat.reduceAdd, Nat.reduceSub, Nat.zero_add, eqz_int, pow1010, pow1018, pow1019, Int.reduceMul, Int.reduceAdd, ix40, ix41, ix42, ix43, at40, at41, at42, at43, and_true, true_and, and_self, ne_eq, not_false_eq_true, decide_true, decide_false, decide_eq_true_eq, Bool.and_true, Bool.true_and, mFor, iSeq, srcOf, vals, forGo_n, forGo_c, gSet, mRaise1, mSetF, setF, lim_le, Nat.reduceLeDiff, Bool.not_false, Bool.not_true, Nat.lt_irrefl, List.length_append, List.append_assoc, ht, hn, mLc, wipeE, cm, ga, gUnpack, gCons', gNil', b1, b2]
          exact gc_bl
        rw [decide_eq_true h2] at b2
        by_cases h5 : i = j
        · subst h5
          rw [decide_eq_false (by omega)]
          simp only [mSeq, RS.seq, mIfS, mTest, mSet, mRet, mVar, mC, mNil, mCons, Lk.m1, Lk.m2, mB, mAnd, mOr, mNot, mAndT, mOrT, mNotT, mIf, mAsg, mNext, mCall, R.bind, R.bindS, R.nxt, asB, gSub', mTup, mLst, List.getElem?_cons_succ, List.getElem?_cons_zero, List.getElem?_nil, List.set_cons_succ, List.set_cons_zero, List.map_cons, List.map_nil, List.cons_append, List.nil_append, List.length_cons, List.length_nil, List.replicate, Lk.gIx, Lk.gAdd, Lk.gSub, Lk.gMul, Lk.gDiv, Lk.gMod, gInt, gCmp, gNeg, gAbs, gGcd, gLen, List.length_map, Lk.listOf, stIx, if_true, if_false, Bool.false_eq_true, reduceIte, Nat.reduceAdd, Nat.reduceSub, Nat.zero_add, eqz_int, pow1010, pow1018, pow1019, Int.reduceMul, Int.reduceAdd, ix40, ix41, ix42, ix43, at40, at41, at42, at43, and_true, true_and, and_self, ne_eq, not_false_eq_true, decide_true, decide_false, decide_eq_true_eq, Bool.and_true, Bool.true_and, mFor, iSeq, srcOf, vals, forGo_n, forGo_c, gSet, mRaise1, mSetF, setF, lim_le, Nat.reduceLeDiff, Bool.not_false, Bool.not_true, Nat.lt_irrefl, List.length_append, List.append_assoc, ht, hn, mLc, wipeE, cm, ga, gUnpack, gCons', gNil', b1, b2, eq_self]
          exact gc_bl
        by_cases k1 : 0 ≤ lo
        rotate_left
        · rw [decide_eq_false (by omega)]
          simp only [mSeq, RS.seq, mIfS, mTest, mSet, mRet, mVar, mC, mNil, mCons, Lk.m1, Lk.m2, mB, mAnd, mOr, mNot, mAndT, mOrT, mNotT, mIf, mAsg, mNext, mCall, R.bind, R.bindS, R.nxt, asB, gSub', mTup, mLst, List.getElem?_cons_succ, List.getElem?_cons_zero, List.getElem?_nil, List.set_cons_succ, List.set_cons_zero, List.map_cons, List.map_nil, List.cons_append, List.nil_append, List.length_cons, List.length_nil, List.replicate, Lk.gIx, Lk.gAdd, Lk.gSub, Lk.gMul, Lk.gDiv, Lk.gMod, gInt, gCmp, gNeg, gAbs, gGcd, gLen, List.length_map, Lk.listOf, stIx, if_true, if_false, Bool.false_eq_true, reduceIte, Nat.reduceAdd, Nat.reduceSub, Nat.zero_add, eqz_int, pow1010, pow1018, pow1019, Int.reduceMul, Int.reduceAdd, ix40, ix41, ix42, ix43, at40, at41, at42, at43, and_true, true_and, and_self, ne_eq, not_false_eq_true, decide_true, decide_false, decide_eq_true_eq, Bool.and_true, Bool.true_and, mFor, iSeq, srcOf, vals, forGo_n, forGo_c, gSet, mRaise1, mSetF, setF, lim_le, Nat.reduceLeDiff, Bool.not_false, Bool.not_true, Nat.lt_irrefl, List.length_append, List.append_assoc, ht, hn, mLc, wipeE, cm, ga, gUnpack, gCons', gNil', b1, b2, h5, mCh3, mLink, mLast, k1]
          exact gc_bl
        by_cases k2 : lo ≤ hi
        rotate_left
        · rw [decide_eq_false (by omega)]
          simp only [mSeq, RS.seq, mIfS, mTest, mSet, mRet, mVar, mC, mNil, mCons, Lk.m1, Lk.m2, mB, mAnd, mOr, mNot, mAndT, mOrT, mNotT, mIf, mAsg, mNext, mCall, R.bind, R.bindS, R.nxt, asB, gSub', mTup, mLst, List.getElem?_cons_succ, List.getElem?_cons_zero, List.getElem?_nil, List.set_cons_succ, List.set_cons_zero, List.map_cons, List.map_nil, List.cons_append, List.nil_append, List.length_cons, List.length_nil, List.replicate, Lk.gIx, Lk.gAdd, Lk.gSub, Lk.gMul, Lk.gDiv, Lk.gMod, gInt, gCmp, gNeg, gAbs, gGcd, gLen, List.length_map, Lk.listOf, stIx, if_true, if_false, Bool.false_eq_true, reduceIte, Nat.reduceAdd, Nat.reduceSub, Nat.zero_add, eqz_int, pow1010, pow1018, pow1019, Int.reduceMul, Int.reduceAdd, ix40, ix41, ix42, ix43, at40, at41, at42, at43, and_true, true_and, and_self, ne_eq, not_false_eq_true, decide_true, decide_false, decide_eq_true_eq, Bool.and_true, Bool.true_and, mFor, iSeq, srcOf, vals, forGo_n, forGo_c, gSet, mRaise1, mSetF, setF, lim_le, Nat.reduceLeDiff, Bool.not_false, Bool.not_true, Nat.lt_irrefl, List.length_append, List.append_assoc, ht, hn, mLc, wipeE, cm, ga, gUnpack, gCons', gNil', b1, b2, h5, mCh3, mLink, mLast, k1, k2]
          exact gc_bl
        by_cases k3 : hi ≤ 2880
        rotate_left
        · rw [decide_eq_false (by omega)]
          simp only [mSeq, RS.seq, mIfS, mTest, mSet, mRet, mVar, mC, mNil, mCons, Lk.m1, Lk.m2, mB, mAnd, mOr, mNot, mAndT, mOrT, mNotT, mIf, mAsg, mNext, mCall, R.bind, R.bindS, R.nxt, asB, gSub', mTup, mLst, List.getElem?_cons_succ, List.getElem?_cons_zero, List.getElem?_nil, List.set_cons_succ, List.set_cons_zero, List.map_cons, List.map_nil, List.cons_append, List.nil_append, List.length_cons, List.length_nil, List.replicate, Lk.gIx, Lk.gAdd, Lk.gSub, Lk.gMul, Lk.gDiv, Lk.gMod, gInt, gCmp, gNeg, gAbs, gGcd, gLen, List.length_map, Lk.listOf, stIx, if_true, if_false, Bool.false_eq_true, reduceIte, Nat.reduceAdd, Nat.reduceSub, Nat.zero_add, eqz_int, pow1010, pow1018, pow1019, Int.reduceMul, Int.reduceAdd, ix40, ix41, ix42, ix43, at40, at41, at42, at43, and_true, true_and, and_self, ne_eq, not_false_eq_true, decide_true, decide_false, decide_eq_true_eq, Bool.and_true, Bool.true_and, mFor, iSeq, srcOf, vals, forGo_n, forGo_c, gSet, mRaise1, mSetF, setF, lim_le, Nat.reduceLeDiff, Bool.not_false, Bool.not_true, Nat.lt_irrefl, List.length_append, List.append_assoc, ht, hn, mLc, wipeE, cm, ga, gUnpack, gCons', gNil', b1, b2, h5, mCh3, mLink, mLast, k1, k2, k3]
          exact gc_bl
        by_cases k4 : hi - lo ≤ b - 2
        · rw [decide_eq_true (by omega)]
          simp only [mSeq, RS.seq, mIfS, mTest, mSet, mRet, mVar, mC, mNil, mCons, Lk.m1, Lk.m2, mB, mAnd, mOr, mNot, mAndT, mOrT, mNotT, mIf, mAsg, mNext, mCall, R.bind, R.bindS, R.nxt, asB, gSub', mTup, mLst, List.getElem?_cons_succ, List.getElem?_cons_zero, List.getElem?_nil, List.set_cons_succ, List.set_cons_zero, List.map_cons, List.map_nil, List.cons_append, List.nil_append, List.length_cons, List.length_nil, List.replicate, Lk.gIx, Lk.gAdd, Lk.gSub, Lk.gMul, Lk.gDiv, Lk.gMod, gInt, gCmp, gNeg, gAbs, gGcd, gLen, List.length_map, Lk.listOf, stIx, if_true, if_false, Bool.false_eq_true, reduceIte, Nat.reduceAdd, Nat.reduceSub, Nat.zero_add, eqz_int, pow1010, pow1018, pow1019, Int.reduceMul, Int.reduceAdd, ix40, ix41, ix42, ix43, at40, at41, at42, at43, and_true, true_and, and_self, ne_eq, not_false_eq_true, decide_true, decide_false, decide_eq_true_eq, Bool.and_true, Bool.true_and, mFor, iSeq, srcOf, vals, forGo_n, forGo_c, gSet, mRaise1, mSetF, setF, lim_le, Nat.reduceLeDiff, Bool.not_false, Bool.not_true, Nat.lt_irrefl, List.length_append, List.append_assoc, ht, hn, mLc, wipeE, cm, ga, gUnpack, gCons', gNil', b1, b2, h5, mCh3, mLink, mLast, k1, k2, k3, k4]
          exact gc_bl
        · rw [decide_eq_false (by omega)]
          simp only [mSeq, RS.seq, mIfS, mTest, mSet, mRet, mVar, mC, mNil, mCons, Lk.m1, Lk.m2, mB, mAnd, mOr, mNot, mAndT, mOrT, mNotT, mIf, mAsg, mNext, mCall, R.bind, R.bindS, R.nxt, asB, gSub', mTup, mLst, List.getElem?_cons_succ, List.getElem?_cons_zero, List.getElem?_nil, List.set_cons_succ, List.set_cons_zero, List.map_cons, List.map_nil, List.cons_append, List.nil_append, List.length_cons, List.length_nil, List.replicate, Lk.gIx, Lk.gAdd, Lk.gSub, Lk.gMul, Lk.gDiv, Lk.gMod, gInt, gCmp, gNeg, gAbs, gGcd, gLen, List.length_map, Lk.listOf, stIx, if_true, if_false, Bool.false_eq_true, reduceIte, Nat.reduceAdd, Nat.reduceSub, Nat.zero_add, eqz_int, pow1010, pow1018, pow1019, Int.reduceMul, Int.reduceAdd, ix40, ix41, ix42, ix43, at40, at41, at42, at43, and_true, true_and, and_self, ne_eq, not_false_eq_true, decide_true, decide_false, decide_eq_true_eq, Bool.and_true, Bool.true_and, mFor, iSeq, srcOf, vals, forGo_n, forGo_c, gSet, mRaise1, mSetF, setF, lim_le, Nat.reduceLeDiff, Bool.not_false, Bool.not_true, Nat.lt_irrefl, List.length_append, List.append_assoc, ht, hn, mLc, wipeE, cm, ga, gUnpack, gCons', gNil', b1, b2, h5, mCh3, mLink, mLast, k1, k2, k3, k4]
          exact gc_bl
      · have ai : (xs.map isInt).all id = false := eq_false_of_ne_true ai
        rw [ai] at ga
        have eb : spanB b e (.tup xs) = false := by
          unfold spanB
          split
          · rename_i i j lo hi heq
            cases heq
            simp [isInt] at ai
          · rfl
        rw [eb]
        simp only [mSeq, RS.seq, mIfS, mTest, mSet, mRet, mVar, mC, mNil, mCons, Lk.m1, Lk.m2, mB, mAnd, mOr, mNot, mAndT, mOrT, mNotT, mIf, mAsg, mNext, mCall, R.bind, R.bindS, R.nxt, asB, gSub', mTup, mLst, List.getElem?_cons_succ, List.getElem?_cons_zero, List.getElem?_nil, List.set_cons_succ, List.set_cons_zero, List.map_cons, List.map_nil, List.cons_append, List.nil_append, List.length_cons, List.length_nil, List.replicate, Lk.gIx, Lk.gAdd, Lk.gSub, Lk.gMul, Lk.gDiv, Lk.gMod, gInt, gCmp, gNeg, gAbs, gGcd, gLen, List.length_map, Lk.listOf, stIx, if_true, if_false, Bool.false_eq_true, reduceIte, Nat.reduceAdd, Nat.reduceSub, Nat.zero_add, eqz_int, pow1010, pow1018, pow1019, Int.reduceMul, Int.reduceAdd, ix40, ix41, ix42, ix43, at40, at41, at42, at43, and_true, true_and, and_self, ne_eq, not_false_eq_true, decide_true, decide_false, decide_eq_true_eq, Bool.and_true, Bool.true_and, mFor, iSeq, srcOf, vals, forGo_n, forGo_c, gSet, mRaise1, mSetF, setF, lim_le, Nat.reduceLeDiff, Bool.not_false, Bool.not_true, Nat.lt_irrefl, List.length_append, List.append_assoc, ht, hn, mLc, wipeE, cm, ga]
        exact gc_ok (by simp [D.cl])
    · have hn : gNeX oe (.int (xs.length : Nat)) (.int 4) S = .ok (.bl true) S := by
        rw [gn_int, decide_eq_false (by omega)]
        rfl
      have eb : spanB b e (.tup xs) = false := by
        unfold spanB
        split
        · rename_i heq
          cases heq
          exact absurd rfl l4
        · rfl
      rw [eb]
      unfold f_is_span mDef b_is_span
      simp only [mSeq, RS.seq, mIfS, mTest, mSet, mRet, mVar, mC, mNil, mCons, Lk.m1, Lk.m2, mB, mAnd, mOr, mNot, mAndT, mOrT, mNotT, mIf, mAsg, mNext, mCall, R.bind, R.bindS, R.nxt, asB, gSub', mTup, mLst, List.getElem?_cons_succ, List.getElem?_cons_zero, List.getElem?_nil, List.set_cons_succ, List.set_cons_zero, List.map_cons, List.map_nil, List.cons_append, List.nil_append, List.length_cons, List.length_nil, List.replicate, Lk.gIx, Lk.gAdd, Lk.gSub, Lk.gMul, Lk.gDiv, Lk.gMod, gInt, gCmp, gNeg, gAbs, gGcd, gLen, List.length_map, Lk.listOf, stIx, if_true, if_false, Bool.false_eq_true, reduceIte, Nat.reduceAdd, Nat.reduceSub, Nat.zero_add, eqz_int, pow1010, pow1018, pow1019, Int.reduceMul, Int.reduceAdd, ix40, ix41, ix42, ix43, at40, at41, at42, at43, and_true, true_and, and_self, ne_eq, not_false_eq_true, decide_true, decide_false, decide_eq_true_eq, Bool.and_true, Bool.true_and, mFor, iSeq, srcOf, vals, forGo_n, forGo_c, gSet, mRaise1, mSetF, setF, lim_le, Nat.reduceLeDiff, Bool.not_false, Bool.not_true, Nat.lt_irrefl, List.length_append, List.append_assoc, ht, hn]
      exact gc_self
  · have tp : isTup d = false := eq_false_of_ne_true tp
    rw [tp] at ht
    have eb : spanB b e d = false := by
      cases d <;> first | rfl | cases tp
    rw [eb]
    unfold f_is_span mDef b_is_span
    simp only [mSeq, RS.seq, mIfS, mTest, mSet, mRet, mVar, mC, mNil, mCons, Lk.m1, Lk.m2, mB, mAnd, mOr, mNot, mAndT, mOrT, mNotT, mIf, mAsg, mNext, mCall, R.bind, R.bindS, R.nxt, asB, gSub', mTup, mLst, List.getElem?_cons_succ, List.getElem?_cons_zero, List.getElem?_nil, List.set_cons_succ, List.set_cons_zero, List.map_cons, List.map_nil, List.cons_append, List.nil_append, List.length_cons, List.length_nil, List.replicate, Lk.gIx, Lk.gAdd, Lk.gSub, Lk.gMul, Lk.gDiv, Lk.gMod, gInt, gCmp, gNeg, gAbs, gGcd, gLen, List.length_map, Lk.listOf, stIx, if_true, if_false, Bool.false_eq_true, reduceIte, Nat.reduceAdd, Nat.reduceSub, Nat.zero_add, eqz_int, pow1010, pow1018, pow1019, Int.reduceMul, Int.reduceAdd, ix40, ix41, ix42, ix43, at40, at41, at42, at43, and_true, true_and, and_self, ne_eq, not_false_eq_true, decide_true, decide_false, decide_eq_true_eq, Bool.and_true, Bool.true_and, mFor, iSeq, srcOf, vals, forGo_n, forGo_c, gSet, mRaise1, mSetF, setF, lim_le, Nat.reduceLeDiff, Bool.not_false, Bool.not_true, Nat.lt_irrefl, List.length_append, List.append_assoc, ht]
    exact gc_self
/-- a row: a tuple, or a list in the store -/
def Row (S : Store) (th : D) (ds : List D) : Prop := th = .tup ds ∨ ∃ n, th = .ref n ∧ S[n]? = some (.lst ds)
theorem Row.app {S T : Store} {th : D} {ds : List D} (h : Row S th ds) : Row (S ++ T) th ds := by
  rcases h with h | ⟨n, e, h⟩
  · exact .inl h
  · exact .inr ⟨n, e, by rw [List.getElem?_append_left (getlt h)]; exact h⟩
def V4 (d : D) : Prop := ∃ i j lo hi, d = .tup [.int i, .int j, .int lo, .int hi]
def pv : D → PyData
  | .tup [.int i, .int j, .int lo, .int hi] => .tuple [.int i, .int j, .int lo, .int hi]
  | _ => .none
theorem spanB_v4 {b e : Int} {d : D} (h : spanB b e d = true) : V4 d := by
  unfold spanB at h
  split at h
  · exact ⟨_, _, _, _, rfl⟩
  · cases h
theorem pyD_v4 {S : Store} {d : D} {n : Nat} (h : V4 d) : pyD S (n + 2) d = some (pv d) := by
  obtain ⟨i, j, lo, hi, rfl⟩ := h
  simp [pyD, pv]
theorem pyD_all {S : Store} {n : Nat} : ∀ {ds : List D}, (∀ d ∈ ds, V4 d) → ds.mapM (pyD S (n + 2)) = some (ds.map pv)
  | [], _ => rfl
  | d :: ds, h => by
    rw [List.mapM_cons, pyD_v4 (h d List.mem_cons_self), pyD_all fun x hx => h x (List.mem_cons_of_mem _ hx)]
    rfl
theorem lay_v4 {d : D} (h : V4 d) : (pv d).canLay0 = true ∧ (pv d).depth ≤ 2 := by
  obtain ⟨i, j, lo, hi, rfl⟩ := h
  simp [pv, PyData.canLay0, PyData.depth, PyData.canLayAll0, PyData.depthAll]
theorem lay_all : ∀ {ds : List D}, (∀ d ∈ ds, V4 d) → PyData.canLayAll0 (ds.map pv) = true ∧ PyData.depthAll (ds.map pv) ≤ 2
  | [], _ => by simp [PyData.canLayAll0, PyData.depthAll]
  | d :: ds, h => by
    obtain ⟨a1, a2⟩ := lay_v4 (h d List.mem_cons_self)
    obtain ⟨b1, b2⟩ := lay_all fun x hx => h x (List.mem_cons_of_mem _ hx)
    simp only [List.map_cons, PyData.canLayAll0, PyData.depthAll, a1, b1, Bool.and_true]
    exact ⟨trivial, by omega⟩
def inB (d : D) (ds : List D) : Bool := (ds.map pv).any fun z => PyData.eqv z (pv d)
theorem sh1 {d : D} (h : V4 d) : SeqAt.shaped (pv d) = true := by
  obtain ⟨a, b⟩ := lay_v4 h
  have b' : (pv d).depth ≤ 64 := by omega
  simp [SeqAt.shaped, a, b']
theorem sh2 {ds : List D} (h : ∀ d ∈ ds, V4 d) : SeqAt.shaped (.list (ds.map pv)) = true := by
  obtain ⟨a, b⟩ := lay_all h
  have b' : (PyData.list (ds.map pv)).depth ≤ 64 := by simp only [PyData.depth]; omega
  have a' : (PyData.list (ds.map pv)).canLay0 = true := by simpa only [PyData.canLay0] using a
  simp [SeqAt.shaped, a', b']
theorem sh3 {ds : List D} (h : ∀ d ∈ ds, V4 d) : SeqAt.shaped (.tuple (ds.map pv)) = true := by
  obtain ⟨a, b⟩ := lay_all h
  have b' : (PyData.tuple (ds.map pv)).depth ≤ 64 := by simp only [PyData.depth]; omega
  have a' : (PyData.tuple (ds.map pv)).canLay0 = true := by simpa only [PyData.canLay0] using a
  simp [SeqAt.shaped, a', b']
/-- in, not in: of a span, in a row of spans -/
theorem in_row {S : Store} {th d : D} {ds : List D} {neg : Bool} (hr : Row S th ds) (hd : V4 d) (hs : ∀ x ∈ ds, V4 x) : gInZ neg d th S = .ok (.bl (if neg then !inB d ds else inB d ds)) S := by
  have f1 : flatD d = none := by obtain ⟨i, j, lo, hi, rfl⟩ := hd; rfl
  have g1 : gIn neg d th S = .bad := by
    unfold gIn
    rcases hr with e | ⟨n, e, h⟩
    · subst e
      simp [Lk.listOf, f1]
    · subst e
      simp [Lk.listOf, h, f1]
  have p1 : pyD S 12 d = some (pv d) := pyD_v4 (n := 10) hd
  have p2 : ds.mapM (pyD S 11) = some (ds.map pv) := pyD_all (n := 9) hs
  unfold gInZ
  rw [g1]
  dsimp only
  rcases hr with e | ⟨n, e, h⟩
  · subst e
    have q : pyD S 12 (.tup ds) = some (.tuple (ds.map pv)) := by
      show (ds.mapM (pyD S 11)).map PyData.tuple = _
      rw [p2]
      rfl
    have g2 : gInD neg d (.tup ds) S = .bad := by
      unfold gInD
      rw [p1, q]
    rw [g2]
    dsimp only
    unfold gInT
    rw [p1, q]
    dsimp only
    rw [if_pos ⟨sh1 hd, sh3 hs⟩]
    rfl
  · subst e
    have q : pyD S 12 (.ref n) = some (.list (ds.map pv)) := by
      show (match S[n]? with
        | some (.lst ds) => (ds.mapM (pyD S 11)).map PyData.list
        | _ => none) = _
      rw [h]
      dsimp only
      rw [p2]
      rfl
    have g2 : gInD neg d (.ref n) S = .ok (.bl (if neg then !inB d ds else inB d ds)) S := by
      unfold gInD
      rw [p1, q]
      dsimp only
      rw [if_pos ⟨sh1 hd, sh2 hs⟩]
      rfl
    rw [g2]
/-- the first fault of a row: k told, pre gone through -/
def fault (b e : Int) : List D → Nat → List D → Option Nat
  | _, _, [] => none
  | pre, k, d :: ds => if spanB b e d = true ∧ inB d pre = false then fault b e (pre ++ [d]) (k + 1) ds else some k
theorem Odd.app {S T : Store} {d : D} (h : Odd S d) : Odd (S ++ T) d := by
  have k : ∀ {n : Nat} {o : Ob}, S[n]? = some o → (S ++ T)[n]? = some o := fun h => by rw [List.getElem?_append_left (getlt h)]; exact h
  cases h with
  | l0 h => exact .l0 (k h)
  | l1 h => exact .l1 (k h)
  | d0 h => exact .d0 (k h)
  | d1 h => exact .d1 (k h)
  | non => exact .non
  | bl b => exact .bl b
  | str x hx => exact .str x hx
  | rt p q => exact .rt p q
  | t0 => exact .t0
  | t1 => exact .t1
theorem SV.app {S T : Store} {d : D} (h : SV S d) : SV (S ++ T) d := by
  cases h with
  | odd h => exact .odd h.app
  | int i => exact .int i
  | tup h1 h2 => exact .tup h1 fun x hx => (h2 x hx).imp (fun z => z) fun z => z.app
  | lst h => exact .lst (by rw [List.getElem?_append_left (getlt h)]; exact h)
theorem cut_pre {pre rest : List D} : cutD (pre ++ rest) none (some (pre.length : Nat)) = pre := by
  unfold cutD
  rw [HT.sIx_none, HT.sIx_nat]
  simp
theorem slice_row {S : Store} {th : D} {pre rest : List D} (h : Row S th (pre ++ rest)) : ∃ th' T, gSl th none (some (pre.length : Nat)) S = .ok th' (S ++ T) ∧ Row (S ++ T) th' pre := by
  rcases h with e | ⟨n, e, h⟩
  · subst e
    refine ⟨.tup pre, [], ?_, .inl rfl⟩
    simp [gSl, Lk.listOf, cut_pre]
  · subst e
    refine ⟨.ref S.length, [.lst pre], ?_, .inr ⟨S.length, rfl, by simp⟩⟩
    simp [gSl, Lk.listOf, h, cut_pre]
def pairI (p : D × Nat) : D := .tup [.int (p.2 : Nat), p.1]
theorem forGo_gn {gd : Store → Prop} {g : MG} {mb : MS} {env : Lk.Env} {S : Store} (h : gd S) : forGo gd g mb [] env S = .nx env S := by unfold forGo; exact if_pos h
theorem forGo_gc {gd : Store → Prop} {g : MG} {mb : MS} {env e1 : Lk.Env} {S S1 : Store} {d : D} {ds : List D} (h : gd S) (hg : g d env S = .ok e1 S1) : forGo gd g mb (d :: ds) env S = (match mb e1 S1 with
    | .nx e2 S2 => forGo gd g mb ds e2 S2
    | .ct e2 S2 => forGo gd g mb ds e2 S2
    | .bk e2 S2 => .nx e2 S2
    | r => r) := by
  rw [forGo, if_pos h, hg]
  all_goals (dsimp only; cases mb e1 S1 <;> rfl)
theorem own_loop {b e : Int} {th : D} {ds : List D} {S0 : Store} {gd : Store → Prop} (hgd : ∀ T, gd (S0 ++ T)) (hr : Row S0 th ds) : ∀ (ds' pre : List D) (T : Store) (r3 r4 : Option D), pre ++ ds' = ds → (∀ x ∈ pre, V4 x) → (∀ x ∈ ds', SV S0 x) →
    ∃ T', match fault b e pre pre.length ds' with
      | some k => forGo gd (gUnpack 2 (gCons' (gSet 3) (gCons' (gSet 4) gNil'))) (mIfS (mOrT (mNotT (mTest (mCall 3 f_is_span (mCons (mVar 0) (mCons (mVar 1) (mCons (mVar 4) mNil)))))) (mTest (m2 (gInZ false) (mVar 4) (mSl (mVar 2) none (some (mVar 3)))))) (mRet (mVar 3)) mNext) ((ds'.zipIdx pre.length).map pairI) [some (.int b), some (.int e), some th, r3, r4] (S0 ++ T) = .rt (.int (k : Nat)) (S0 ++ T')
      | none => ∃ q3 q4, forGo gd (gUnpack 2 (gCons' (gSet 3) (gCons' (gSet 4) gNil'))) (mIfS (mOrT (mNotT (mTest (mCall 3 f_is_span (mCons (mVar 0) (mCons (mVar 1) (mCons (mVar 4) mNil)))))) (mTest (m2 (gInZ false) (mVar 4) (mSl (mVar 2) none (some (mVar 3)))))) (mRet (mVar 3)) mNext) ((ds'.zipIdx pre.length).map pairI) [some (.int b), some (.int e), some th, r3, r4] (S0 ++ T) = .nx [some (.int b), some (.int e), some th, q3, q4] (S0 ++ T')
  | [], pre, T, r3, r4, hp, hv, hs => ⟨T, r3, r4, by rw [List.zipIdx_nil, List.map_nil, forGo_gn (hgd T)]⟩
  | d :: ds', pre, T, r3, r4, hp, hv, hs => by
    have hsp := own_span (b := b) (e := e) (SV.app (T := T) (hs d List.mem_cons_self))
    have hg : gUnpack 2 (gCons' (gSet 3) (gCons' (gSet 4) gNil')) (pairI (d, pre.length)) [some (.int b), some (.int e), some th, r3, r4] (S0 ++ T) = .ok [some (.int b), some (.int e), some th, some (.int (pre.length : Nat)), some d] (S0 ++ T) := by
      unfold pairI
      simp only [mSeq, RS.seq, mIfS, mTest, mSet, mRet, mVar, mC, mNil, mCons, Lk.m1, Lk.m2, mB, mAnd, mOr, mNot, mAndT, mOrT, mNotT, mIf, mAsg, mNext, mCall, R.bind, R.bindS, R.nxt, asB, gSub', mTup, mLst, List.getElem?_cons_succ, List.getElem?_cons_zero, List.getElem?_nil, List.set_cons_succ, List.set_cons_zero, List.map_cons, List.map_nil, List.cons_append, List.nil_append, List.length_cons, List.length_nil, List.replicate, Lk.gIx, Lk.gAdd, Lk.gSub, Lk.gMul, Lk.gDiv, Lk.gMod, gInt, gCmp, gNeg, gAbs, gGcd, gLen, List.length_map, Lk.listOf, stIx, if_true, if_false, Bool.false_eq_true, reduceIte, Nat.reduceAdd, Nat.reduceSub, Nat.zero_add, eqz_int, pow1010, pow1018, pow1019, Int.reduceMul, Int.reduceAdd, ix40, ix41, ix42, ix43, at40, at41, at42, at43, and_true, true_and, and_self, ne_eq, not_false_eq_true, decide_true, decide_false, decide_eq_true_eq, Bool.and_true, Bool.true_and, mFor, iSeq, srcOf, vals, forGo_n, forGo_c, gSet, mRaise1, mSetF, setF, lim_le, Nat.reduceLeDiff, Bool.not_false, Bool.not_true, Nat.lt_irrefl, List.length_append, List.append_assoc, gUnpack, gCons', gNil']
    rw [List.zipIdx_cons, List.map_cons, forGo_gc (hgd T) hg]
    by_cases sp : spanB b e d = true
    · rw [sp] at hsp
      have hv4 := spanB_v4 sp
      obtain ⟨th', T1, hsl, hrow⟩ := slice_row (S := S0 ++ T) (th := th) (pre := pre) (rest := d :: ds') (by rw [hp]; exact hr.app)
      have hin := in_row (neg := false) hrow hv4 hv
      simp only [Bool.false_eq_true, if_false] at hin
      have hsl' : mSl (mVar 2) none (some (mVar 3)) [some (.int b), some (.int e), some th, some (.int (pre.length : Nat)), some d] (S0 ++ T) = .ok th' (S0 ++ T ++ T1) := by
        unfold mSl
        simp only [mSeq, RS.seq, mIfS, mTest, mSet, mRet, mVar, mC, mNil, mCons, Lk.m1, Lk.m2, mB, mAnd, mOr, mNot, mAndT, mOrT, mNotT, mIf, mAsg, mNext, mCall, R.bind, R.bindS, R.nxt, asB, gSub', mTup, mLst, List.getElem?_cons_succ, List.getElem?_cons_zero, List.getElem?_nil, List.set_cons_succ, List.set_cons_zero, List.map_cons, List.map_nil, List.cons_append, List.nil_append, List.length_cons, List.length_nil, List.replicate, Lk.gIx, Lk.gAdd, Lk.gSub, Lk.gMul, Lk.gDiv, Lk.gMod, gInt, gCmp, gNeg, gAbs, gGcd, gLen, List.length_map, Lk.listOf, stIx, if_true, if_false, Bool.false_eq_true, reduceIte, Nat.reduceAdd, Nat.reduceSub, Nat.zero_add, eqz_int, pow1010, pow1018, pow1019, Int.reduceMul, Int.reduceAdd, ix40, ix41, ix42, ix43, at40, at41, at42, at43, and_true, true_and, and_self, ne_eq, not_false_eq_true, decide_true, decide_false, decide_eq_true_eq, Bool.and_true, Bool.true_and, mFor, iSeq, srcOf, vals, forGo_n, forGo_c, gSet, mRaise1, mSetF, setF, lim_le, Nat.reduceLeDiff, Bool.not_false, Bool.not_true, Nat.lt_irrefl, List.length_append, List.append_assoc, toO, hsl]
      by_cases ib : inB d pre = true
      · rw [ib] at hin
        have ef : fault b e pre pre.length (d :: ds') = some pre.length := by
          unfold fault
          rw [if_neg (fun z => by rw [ib] at z; cases z.2)]
        rw [ef]
        refine ⟨T ++ T1, ?_⟩
        dsimp only
        rw [List.append_assoc] at hin hsl'
        simp only [mSeq, RS.seq, mIfS, mTest, mSet, mRet, mVar, mC, mNil, mCons, Lk.m1, Lk.m2, mB, mAnd, mOr, mNot, mAndT, mOrT, mNotT, mIf, mAsg, mNext, mCall, R.bind, R.bindS, R.nxt, asB, gSub', mTup, mLst, List.getElem?_cons_succ, List.getElem?_cons_zero, List.getElem?_nil, List.set_cons_succ, List.set_cons_zero, List.map_cons, List.map_nil, List.cons_append, List.nil_append, List.length_cons, List.length_nil, List.replicate, Lk.gIx, Lk.gAdd, Lk.gSub, Lk.gMul, Lk.gDiv, Lk.gMod, gInt, gCmp, gNeg, gAbs, gGcd, gLen, List.length_map, Lk.listOf, stIx, if_true, if_false, Bool.false_eq_true, reduceIte, Nat.reduceAdd, Nat.reduceSub, Nat.zero_add, eqz_int, pow1010, pow1018, pow1019, Int.reduceMul, Int.reduceAdd, ix40, ix41, ix42, ix43, at40, at41, at42, at43, and_true, true_and, and_self, ne_eq, not_false_eq_true, decide_true, decide_false, decide_eq_true_eq, Bool.and_true, Bool.true_and, mFor, iSeq, srcOf, vals, forGo_n, forGo_c, gSet, mRaise1, mSetF, setF, lim_le, Nat.reduceLeDiff, Bool.not_false, Bool.not_true, Nat.lt_irrefl, List.length_append, List.append_assoc, hsp, hsl', hin]
      · have ib : inB d pre = false := eq_false_of_ne_true ib
        rw [ib] at hin
        have ef : fault b e pre pre.length (d :: ds') = fault b e (pre ++ [d]) (pre ++ [d]).length ds' := by
          rw [fault, if_pos ⟨sp, ib⟩, List.length_append]
          rfl
        rw [ef]
        rw [List.append_assoc] at hin hsl'
        have ih := own_loop (b := b) (e := e) hgd hr ds' (pre ++ [d]) (T ++ T1) (some (.int (pre.length : Nat))) (some d) (by rw [← hp]; simp) (fun x hx => by
          rcases List.mem_append.mp hx with z | z
          · exact hv x z
          · rw [List.mem_singleton.mp z]; exact hv4) (fun x hx => hs x (List.mem_cons_of_mem _ hx))
        have el : (pre ++ [d]).length = pre.length + 1 := by simp
        rw [el] at ih ⊢
        have eb : (mIfS (mOrT (mNotT (mTest (mCall 3 f_is_span (mCons (mVar 0) (mCons (mVar 1) (mCons (mVar 4) mNil)))))) (mTest (m2 (gInZ false) (mVar 4) (mSl (mVar 2) none (some (mVar 3)))))) (mRet (mVar 3)) mNext) [some (.int b), some (.int e), some th, some (.int (pre.length : Nat)), some d] (S0 ++ T) = .nx [some (.int b), some (.int e), some th, some (.int (pre.length : Nat)), some d] (S0 ++ (T ++ T1)) := by
          simp only [mSeq, RS.seq, mIfS, mTest, mSet, mRet, mVar, mC, mNil, mCons, Lk.m1, Lk.m2, mB, mAnd, mOr, mNot, mAndT, mOrT, mNotT, mIf, mAsg, mNext, mCall, R.bind, R.bindS, R.nxt, asB, gSub', mTup, mLst, List.getElem?_cons_succ, List.getElem?_cons_zero, List.getElem?_nil, List.set_cons_succ, List.set_cons_zero, List.map_cons, List.map_nil, List.cons_append, List.nil_append, List.length_cons, List.length_nil, List.replicate, Lk.gIx, Lk.gAdd, Lk.gSub, Lk.gMul, Lk.gDiv, Lk.gMod, gInt, gCmp, gNeg, gAbs, gGcd, gLen, List.length_map, Lk.listOf, stIx, if_true, if_false, Bool.false_eq_true, reduceIte, Nat.reduceAdd, Nat.reduceSub, Nat.zero_add, eqz_int, pow1010, pow1018, pow1019, Int.reduceMul, Int.reduceAdd, ix40, ix41, ix42, ix43, at40, at41, at42, at43, and_true, true_and, and_self, ne_eq, not_false_eq_true, decide_true, decide_false, decide_eq_true_eq, Bool.and_true, Bool.true_and, mFor, iSeq, srcOf, vals, forGo_n, forGo_c, gSet, mRaise1, mSetF, setF, lim_le, Nat.reduceLeDiff, Bool.not_false, Bool.not_true, Nat.lt_irrefl, List.length_append, List.append_assoc, hsp, hsl', hin]
        rw [eb]
        exact ih
    · have sp : spanB b e d = false := eq_false_of_ne_true sp
      rw [sp] at hsp
      have ef : fault b e pre pre.length (d :: ds') = some pre.length := by
        unfold fault
        rw [if_neg (fun z => by rw [sp] at z; cases z.1)]
      rw [ef]
      refine ⟨T, ?_⟩
      dsimp only
      simp only [mSeq, RS.seq, mIfS, mTest, mSet, mRet, mVar, mC, mNil, mCons, Lk.m1, Lk.m2, mB, mAnd, mOr, mNot, mAndT, mOrT, mNotT, mIf, mAsg, mNext, mCall, R.bind, R.bindS, R.nxt, asB, gSub', mTup, mLst, List.getElem?_cons_succ, List.getElem?_cons_zero, List.getElem?_nil, List.set_cons_succ, List.set_cons_zero, List.map_cons, List.map_nil, List.cons_append, List.nil_append, List.length_cons, List.length_nil, List.replicate, Lk.gIx, Lk.gAdd, Lk.gSub, Lk.gMul, Lk.gDiv, Lk.gMod, gInt, gCmp, gNeg, gAbs, gGcd, gLen, List.length_map, Lk.listOf, stIx, if_true, if_false, Bool.false_eq_true, reduceIte, Nat.reduceAdd, Nat.reduceSub, Nat.zero_add, eqz_int, pow1010, pow1018, pow1019, Int.reduceMul, Int.reduceAdd, ix40, ix41, ix42, ix43, at40, at41, at42, at43, and_true, true_and, and_self, ne_eq, not_false_eq_true, decide_true, decide_false, decide_eq_true_eq, Bool.and_true, Bool.true_and, mFor, iSeq, srcOf, vals, forGo_n, forGo_c, gSet, mRaise1, mSetF, setF, lim_le, Nat.reduceLeDiff, Bool.not_false, Bool.not_true, Nat.lt_irrefl, List.length_append, List.append_assoc, hsp]
theorem Row.kn {S : Store} {th : D} {ds : List D} (h : Row S th ds) : Kn S th := by
  rcases h with e | ⟨n, e, h⟩
  · subst e; exact ⟨.bi "tuple", rfl, by decide⟩
  · subst e; exact ⟨.bi "list", by simp [tyK, h], by decide⟩
theorem gSeq {S : Store} {th : D} {ds : List D} (h : Row S th ds) : gIsi cs [.bi "list", .bi "tuple"] th S = .ok (.bl true) S := by
  rcases h with e | ⟨n, e, h⟩
  · subst e
    unfold gIsi
    show (if okK cs (.bi "tuple") = true then R.ok (D.bl _) S else R.bad) = _
    rw [if_pos (by decide)]
    congr 2
  · subst e
    have ht : tyK S (.ref n) = some (.bi "list") := by simp [tyK, h]
    unfold gIsi
    rw [ht]
    dsimp only
    rw [if_pos (by decide)]
    congr 2
theorem gLenR {S : Store} {th : D} {ds : List D} (h : Row S th ds) : gLen [th] S = .ok (.int (ds.length : Nat)) S := by
  rcases h with e | ⟨n, e, h⟩
  · subst e; rfl
  · subst e; simp [gLen, h]
theorem srcR {S : Store} {th : D} {ds : List D} (h : Row S th ds) : ∃ gd : Store → Prop, srcEZ th S = .ok ⟨enumD ds, gd⟩ S ∧ ∀ T, gd (S ++ T) := by
  rcases h with e | ⟨n, e, h⟩
  · subst e; exact ⟨fun _ => True, rfl, fun _ => trivial⟩
  · subst e
    refine ⟨fun S => S[n]? = some (.lst ds), ?_, fun T => by
      show (S ++ T)[n]? = some (.lst ds)
      rw [List.getElem?_append_left (getlt h)]; exact h⟩
    simp [srcEZ, srcE, h]
def res (o : Option Nat) : D := match o with
  | some k => .int (k : Nat)
  | none => .non
theorem own_fault {S : Store} {th : D} {ds : List D} {b e : Int} (h : Row S th ds) (hs : ∀ x ∈ ds, SV S x) : f_spans_fault [.int b, .int e, th] S = .ok (if 60 < ds.length then .int (-1) else res (fault b e [] 0 ds)) S := by
  have g1 := gSeq h
  have g2 := gLenR h
  have cl : ∀ i : Int, (D.int i).cl S.length = true := fun i => by simp [D.cl]
  unfold f_spans_fault mDef b_spans_fault
  by_cases hl : 60 < ds.length
  · have hl' : (60 : Int) < (ds.length : Nat) := by omega
    rw [if_pos hl]
    rcases h with z | ⟨n, z, hn⟩ <;> subst z
    · simp only [mSeq, RS.seq, mIfS, mTest, mSet, mRet, mVar, mC, mNil, mCons, Lk.m1, Lk.m2, mB, mAnd, mOr, mNot, mAndT, mOrT, mNotT, mIf, mAsg, mNext, mCall, R.bind, R.bindS, R.nxt, asB, gSub', mTup, mLst, List.getElem?_cons_succ, List.getElem?_cons_zero, List.getElem?_nil, List.set_cons_succ, List.set_cons_zero, List.map_cons, List.map_nil, List.cons_append, List.nil_append, List.length_cons, List.length_nil, List.replicate, Lk.gIx, Lk.gAdd, Lk.gSub, Lk.gMul, Lk.gDiv, Lk.gMod, gInt, gCmp, gNeg, gAbs, gGcd, gLen, List.length_map, Lk.listOf, stIx, if_true, if_false, Bool.false_eq_true, reduceIte, Nat.reduceAdd, Nat.reduceSub, Nat.zero_add, eqz_int, pow1010, pow1018, pow1019, Int.reduceMul, Int.reduceAdd, ix40, ix41, ix42, ix43, at40, at41, at42, at43, and_true, true_and, and_self, ne_eq, not_false_eq_true, decide_true, decide_false, decide_eq_true_eq, Bool.and_true, Bool.true_and, mFor, iSeq, srcOf, vals, forGo_n, forGo_c, gSet, mRaise1, mSetF, setF, lim_le, Nat.reduceLeDiff, Bool.not_false, Bool.not_true, Nat.lt_irrefl, List.length_append, List.append_assoc, g1, hl']
      exact gc_self
    · simp only [mSeq, RS.seq, mIfS, mTest, mSet, mRet, mVar, mC, mNil, mCons, Lk.m1, Lk.m2, mB, mAnd, mOr, mNot, mAndT, mOrT, mNotT, mIf, mAsg, mNext, mCall, R.bind, R.bindS, R.nxt, asB, gSub', mTup, mLst, List.getElem?_cons_succ, List.getElem?_cons_zero, List.getElem?_nil, List.set_cons_succ, List.set_cons_zero, List.map_cons, List.map_nil, List.cons_append, List.nil_append, List.length_cons, List.length_nil, List.replicate, Lk.gIx, Lk.gAdd, Lk.gSub, Lk.gMul, Lk.gDiv, Lk.gMod, gInt, gCmp, gNeg, gAbs, gGcd, gLen, List.length_map, Lk.listOf, stIx, if_true, if_false, Bool.false_eq_true, reduceIte, Nat.reduceAdd, Nat.reduceSub, Nat.zero_add, eqz_int, pow1010, pow1018, pow1019, Int.reduceMul, Int.reduceAdd, ix40, ix41, ix42, ix43, at40, at41, at42, at43, and_true, true_and, and_self, ne_eq, not_false_eq_true, decide_true, decide_false, decide_eq_true_eq, Bool.and_true, Bool.true_and, mFor, iSeq, srcOf, vals, forGo_n, forGo_c, gSet, mRaise1, mSetF, setF, lim_le, Nat.reduceLeDiff, Bool.not_false, Bool.not_true, Nat.lt_irrefl, List.length_append, List.append_assoc, g1, hn, hl']
      exact gc_self
  · have hl' : ¬ (60 : Int) < (ds.length : Nat) := by omega
    rw [if_neg hl]
    obtain ⟨gd, s1, s2⟩ := srcR h
    obtain ⟨T', lp⟩ := own_loop (b := b) (e := e) (th := th) s2 h ds [] [] none none (by simp) (by simp) hs
    have en : (ds.zipIdx ([] : List D).length).map pairI = enumD ds := rfl
    rw [en, List.append_nil] at lp
    have e0 : ([] : List D).length = 0 := rfl
    rw [e0] at lp
    cases q : fault b e [] 0 ds with
    | some k =>
      rw [q] at lp
      dsimp only at lp
      rcases h with z | ⟨n, z, hn⟩ <;> subst z
      · simp only [mSeq, RS.seq, mIfS, mTest, mSet, mRet, mVar, mC, mNil, mCons, Lk.m1, Lk.m2, mB, mAnd, mOr, mNot, mAndT, mOrT, mNotT, mIf, mAsg, mNext, mCall, R.bind, R.bindS, R.nxt, asB, gSub', mTup, mLst, List.getElem?_cons_succ, List.getElem?_cons_zero, List.getElem?_nil, List.set_cons_succ, List.set_cons_zero, List.map_cons, List.map_nil, List.cons_append, List.nil_append, List.length_cons, List.length_nil, List.replicate, Lk.gIx, Lk.gAdd, Lk.gSub, Lk.gMul, Lk.gDiv, Lk.gMod, gInt, gCmp, gNeg, gAbs, gGcd, gLen, List.length_map, Lk.listOf, stIx, if_true, if_false, Bool.false_eq_true, reduceIte, Nat.reduceAdd, Nat.reduceSub, Nat.zero_add, eqz_int, pow1010, pow1018, pow1019, Int.reduceMul, Int.reduceAdd, ix40, ix41, ix42, ix43, at40, at41, at42, at43, and_true, true_and, and_self, ne_eq, not_false_eq_true, decide_true, decide_false, decide_eq_true_eq, Bool.and_true, Bool.true_and, mFor, iSeq, srcOf, vals, forGo_n, forGo_c, gSet, mRaise1, mSetF, setF, lim_le, Nat.reduceLeDiff, Bool.not_false, Bool.not_true, Nat.lt_irrefl, List.length_append, List.append_assoc, g1, hl', iEnuZ, s1, lp]
        exact gc_ok (cl _)
      · simp only [mSeq, RS.seq, mIfS, mTest, mSet, mRet, mVar, mC, mNil, mCons, Lk.m1, Lk.m2, mB, mAnd, mOr, mNot, mAndT, mOrT, mNotT, mIf, mAsg, mNext, mCall, R.bind, R.bindS, R.nxt, asB, gSub', mTup, mLst, List.getElem?_cons_succ, List.getElem?_cons_zero, List.getElem?_nil, List.set_cons_succ, List.set_cons_zero, List.map_cons, List.map_nil, List.cons_append, List.nil_append, List.length_cons, List.length_nil, List.replicate, Lk.gIx, Lk.gAdd, Lk.gSub, Lk.gMul, Lk.gDiv, Lk.gMod, gInt, gCmp, gNeg, gAbs, gGcd, gLen, List.length_map, Lk.listOf, stIx, if_true, if_false, Bool.false_eq_true, reduceIte, Nat.reduceAdd, Nat.reduceSub, Nat.zero_add, eqz_int, pow1010, pow1018, pow1019, Int.reduceMul, Int.reduceAdd, ix40, ix41, ix42, ix43, at40, at41, at42, at43, and_true, true_and, and_self, ne_eq, not_false_eq_true, decide_true, decide_false, decide_eq_true_eq, Bool.and_true, Bool.true_and, mFor, iSeq, srcOf, vals, forGo_n, forGo_c, gSet, mRaise1, mSetF, setF, lim_le, Nat.reduceLeDiff, Bool.not_false, Bool.not_true, Nat.lt_irrefl, List.length_append, List.append_assoc, g1, hn, hl', iEnuZ, s1, lp]
        exact gc_ok (cl _)
    | none =>
      rw [q] at lp
      obtain ⟨q3, q4, lp⟩ := lp
      rcases h with z | ⟨n, z, hn⟩ <;> subst z
      · simp only [mSeq, RS.seq, mIfS, mTest, mSet, mRet, mVar, mC, mNil, mCons, Lk.m1, Lk.m2, mB, mAnd, mOr, mNot, mAndT, mOrT, mNotT, mIf, mAsg, mNext, mCall, R.bind, R.bindS, R.nxt, asB, gSub', mTup, mLst, List.getElem?_cons_succ, List.getElem?_cons_zero, List.getElem?_nil, List.set_cons_succ, List.set_cons_zero, List.map_cons, List.map_nil, List.cons_append, List.nil_append, List.length_cons, List.length_nil, List.replicate, Lk.gIx, Lk.gAdd, Lk.gSub, Lk.gMul, Lk.gDiv, Lk.gMod, gInt, gCmp, gNeg, gAbs, gGcd, gLen, List.length_map, Lk.listOf, stIx, if_true, if_false, Bool.false_eq_true, reduceIte, Nat.reduceAdd, Nat.reduceSub, Nat.zero_add, eqz_int, pow1010, pow1018, pow1019, Int.reduceMul, Int.reduceAdd, ix40, ix41, ix42, ix43, at40, at41, at42, at43, and_true, true_and, and_self, ne_eq, not_false_eq_true, decide_true, decide_false, decide_eq_true_eq, Bool.and_true, Bool.true_and, mFor, iSeq, srcOf, vals, forGo_n, forGo_c, gSet, mRaise1, mSetF, setF, lim_le, Nat.reduceLeDiff, Bool.not_false, Bool.not_true, Nat.lt_irrefl, List.length_append, List.append_assoc, g1, hl', iEnuZ, s1, lp]
        exact gc_ok (by simp [D.cl, res])
      · simp only [mSeq, RS.seq, mIfS, mTest, mSet, mRet, mVar, mC, mNil, mCons, Lk.m1, Lk.m2, mB, mAnd, mOr, mNot, mAndT, mOrT, mNotT, mIf, mAsg, mNext, mCall, R.bind, R.bindS, R.nxt, asB, gSub', mTup, mLst, List.getElem?_cons_succ, List.getElem?_cons_zero, List.getElem?_nil, List.set_cons_succ, List.set_cons_zero, List.map_cons, List.map_nil, List.cons_append, List.nil_append, List.length_cons, List.length_nil, List.replicate, Lk.gIx, Lk.gAdd, Lk.gSub, Lk.gMul, Lk.gDiv, Lk.gMod, gInt, gCmp, gNeg, gAbs, gGcd, gLen, List.length_map, Lk.listOf, stIx, if_true, if_false, Bool.false_eq_true, reduceIte, Nat.reduceAdd, Nat.reduceSub, Nat.zero_add, eqz_int, pow1010, pow1018, pow1019, Int.reduceMul, Int.reduceAdd, ix40, ix41, ix42, ix43, at40, at41, at42, at43, and_true, true_and, and_self, ne_eq, not_false_eq_true, decide_true, decide_false, decide_eq_true_eq, Bool.and_true, Bool.true_and, mFor, iSeq, srcOf, vals, forGo_n, forGo_c, gSet, mRaise1, mSetF, setF, lim_le, Nat.reduceLeDiff, Bool.not_false, Bool.not_true, Nat.lt_irrefl, List.length_append, List.append_assoc, g1, hn, hl', iEnuZ, s1, lp]
        exact gc_ok (by simp [D.cl, res])
theorem iRng1_of {m : MA} {env : Lk.Env} {S S1 : Store} {j : Int} (h : m env S = .ok [.int j] S1) (hb : bd j) : iRng1' m env S = .ok (vals (rngI 0 j.toNat)) S1 := by
  unfold iRng1'
  rw [h]
  exact if_pos hb
theorem bd_small {n : Nat} (h : n ≤ 60) : bd ((n : Nat) : Int) := by
  have e : (2 : Int) ^ 62 = 4611686018427387904 := by decide
  unfold bd
  rw [e]
  constructor <;> omega
theorem gcX_self {S : Store} {C : Str} {ds : List D} : gcX S C ds S = .ex C ds S := by
  unfold Lk.gcX
  split <;> rfl
theorem are_ev {S : Store} {e : Int} (he : 1 ≤ e ∧ e ≤ 24) : f_are_events [.int e] S = .ok (.bl true) S := by
  have h6 := isint (kn_int S e)
  simp only [isInt] at h6
  unfold f_are_events mDef b_are_events
  simp only [mSeq, RS.seq, mIfS, mTest, mSet, mRet, mVar, mC, mNil, mCons, Lk.m1, Lk.m2, mB, mAnd, mOr, mNot, mAndT, mOrT, mNotT, mIf, mAsg, mNext, mCall, R.bind, R.bindS, R.nxt, asB, gSub', mTup, mLst, List.getElem?_cons_succ, List.getElem?_cons_zero, List.getElem?_nil, List.set_cons_succ, List.set_cons_zero, List.map_cons, List.map_nil, List.cons_append, List.nil_append, List.length_cons, List.length_nil, List.replicate, Lk.gIx, Lk.gAdd, Lk.gSub, Lk.gMul, Lk.gDiv, Lk.gMod, gInt, gCmp, gNeg, gAbs, gGcd, gLen, List.length_map, Lk.listOf, stIx, if_true, if_false, Bool.false_eq_true, reduceIte, Nat.reduceAdd, Nat.reduceSub, Nat.zero_add, eqz_int, pow1010, pow1018, pow1019, Int.reduceMul, Int.reduceAdd, ix40, ix41, ix42, ix43, at40, at41, at42, at43, and_true, true_and, and_self, ne_eq, not_false_eq_true, decide_true, decide_false, decide_eq_true_eq, Bool.and_true, Bool.true_and, mFor, iSeq, srcOf, vals, forGo_n, forGo_c, gSet, mRaise1, mSetF, setF, lim_le, Nat.reduceLeDiff, Bool.not_false, Bool.not_true, Nat.lt_irrefl, List.length_append, List.append_assoc, h6, mCh2, mLink, mLast, he.1, he.2]
  exact gc_self
theorem net_good {S : Store} {th : D} {ds : List D} {b e : Int} (hb : 3 ≤ b ∧ b ≤ 1440) (he : 1 ≤ e ∧ e ≤ 24) (h : Row S th ds) (hs : ∀ x ∈ ds, SV S x) (hv : ∀ x ∈ ds, V4 x)
    (hl : ¬ 60 < ds.length) (hf : fault b e [] 0 ds = none) : mkOf "Net" f_Net___init__ [.int b, .int e, th] S = .ok (.ins "Net" [.int b, .int e, .tup ds]) S := by
  have hf1 := own_fault (b := b) (e := e) (h.app (T := [.obj "Net" []])) fun x hx => (hs x hx).app
  rw [if_neg hl, hf] at hf1
  have h5 := isint (kn_int (S ++ [Ob.obj "Net" []]) b)
  have h6 := isint (kn_int (S ++ [Ob.obj "Net" []]) e)
  simp only [isInt] at h5 h6
  have hg : ∀ x, (S ++ [x])[S.length]? = some x := fun x => by simp
  have hset : ∀ x y : Ob, (S ++ [x]).set S.length y = S ++ [y] := fun x y => by simp
  have f0 : (flds "Net")[0]? = some (Str.ofString "beat") := by decide
  have f1 : (flds "Net")[1]? = some (Str.ofString "events") := by decide
  have f2 : (flds "Net")[2]? = some (Str.ofString "spans") := by decide
  have t0 : (flds "Net").take 0 = [] := rfl
  have t1 : (flds "Net").take 1 = [Str.ofString "beat"] := by decide
  have t2 : (flds "Net").take 2 = [Str.ofString "beat", Str.ofString "events"] := by decide
  have n0 : Str.ofString "beat" ∉ ([] : List Str) := by decide
  have n1 : Str.ofString "events" ∉ ([Str.ofString "beat"] : List Str) := by decide
  have n2 : Str.ofString "spans" ∉ ([Str.ofString "beat", Str.ofString "events"] : List Str) := by decide
  have q0 : (0 : Nat) < 900 := by decide
  have q1 : (1 : Nat) < 900 := by decide
  have q2 : (2 : Nat) < 900 := by decide
  have hrow : ∀ o : Ob, gTuple [th] (S ++ [o]) = .ok (.tup ds) (S ++ [o]) := fun o => by
    rcases h with z | ⟨n, z, hn⟩
    · subst z; rfl
    · subst z
      have : (S ++ [o])[n]? = some (.lst ds) := by rw [List.getElem?_append_left (getlt hn)]; exact hn
      unfold gTuple
      simp [Lk.listOf, this]
  have ei : f_Net___init__ [.ref S.length, .int b, .int e, th] (S ++ [Ob.obj "Net" []]) = .ok .non (S ++ [Ob.obj "Net" [.int b, .int e, .tup ds]]) := by
    unfold f_Net___init__ mDef b_Net___init__
    simp only [mSeq, RS.seq, mIfS, mTest, mSet, mRet, mVar, mC, mNil, mCons, Lk.m1, Lk.m2, mB, mAnd, mOr, mNot, mAndT, mOrT, mNotT, mIf, mAsg, mNext, mCall, R.bind, R.bindS, R.nxt, asB, gSub', mTup, mLst, List.getElem?_cons_succ, List.getElem?_cons_zero, List.getElem?_nil, List.set_cons_succ, List.set_cons_zero, List.map_cons, List.map_nil, List.cons_append, List.nil_append, List.length_cons, List.length_nil, List.replicate, Lk.gIx, Lk.gAdd, Lk.gSub, Lk.gMul, Lk.gDiv, Lk.gMod, gInt, gCmp, gNeg, gAbs, gGcd, gLen, List.length_map, Lk.listOf, stIx, if_true, if_false, Bool.false_eq_true, reduceIte, Nat.reduceAdd, Nat.reduceSub, Nat.zero_add, eqz_int, pow1010, pow1018, pow1019, Int.reduceMul, Int.reduceAdd, ix40, ix41, ix42, ix43, at40, at41, at42, at43, and_true, true_and, and_self, ne_eq, not_false_eq_true, decide_true, decide_false, decide_eq_true_eq, Bool.and_true, Bool.true_and, mFor, iSeq, srcOf, vals, forGo_n, forGo_c, gSet, mRaise1, mSetF, setF, lim_le, Nat.reduceLeDiff, Bool.not_false, Bool.not_true, Nat.lt_irrefl, List.length_append, List.append_assoc, h5, are_ev he, mCh2, mLink, mLast, hb.1, hb.2, hf1, res, gNotN, isNonD, hg, hset, f0, f1, f2, t0, t1, t2, n0, n1, n2, q0, q1, q2, hrow]
    refine gc_len ?_
    simp
  have cv : ∀ d ∈ ds, d.cl S.length = true := fun d hd => by
    obtain ⟨i, j, lo, hi, z⟩ := hv d hd
    subst z
    simp [D.cl, clL]
  have call : ∀ l : List D, (∀ d ∈ l, d.cl S.length = true) → clL S.length l = true := fun l => by
    induction l with
    | nil => intro _; simp [clL]
    | cons d l ih => intro hl; simp [clL, hl d List.mem_cons_self, ih fun x hx => hl x (List.mem_cons_of_mem _ hx)]
  unfold mkOf
  rw [ei]
  simp only [hg, if_true]
  unfold mkEnd
  rw [if_pos ⟨by simp [clL, D.cl, call ds cv], by simp⟩]
/-- what is kept but for the source n -/
def Ag (S : Store) (n : Nat) (S' : Store) : Prop := S.length ≤ S'.length ∧ ∀ m, m < S.length → m ≠ n → S'[m]? = S[m]?
theorem Ch.ag {S S' : Store} {n : Nat} (h : Ch S n S') : Ag S n S' := by
  obtain ⟨o, rfl⟩ := h
  exact ⟨by simp, fun m _ hm => by simp [List.getElem?_set, Ne.symm hm]⟩
theorem Ag.trans {S S' S'' : Store} {n : Nat} (h : Ag S n S') (h' : Ag S' n S'') : Ag S n S'' := ⟨Nat.le_trans h.1 h'.1, fun m hm hn => by rw [h'.2 m (Nat.lt_of_lt_of_le hm h.1) hn, h.2 m hm hn]⟩
theorem Ag.app (S : Store) (n : Nat) (T : Store) : Ag S n (S ++ T) := ⟨by simp, fun m hm _ => by rw [List.getElem?_append_left hm]⟩
theorem Ag.refl (S : Store) (n : Nat) : Ag S n S := ⟨Nat.le_refl _, fun _ _ _ => rfl⟩
theorem gc_either {S S' : Store} {d : D} : (gc S d S' = .ok d S ∧ d.cl S.length = true ∧ S'.take S.length = S) ∨ gc S d S' = .ok d S' := by
  unfold Lk.gc
  split
  · rename_i c; exact .inl ⟨rfl, c⟩
  · exact .inr rfl
theorem Odd.imp {S S' : Store} {d : D} (h : Odd S d) (k : ∀ m o, S[m]? = some o → d = .ref m → S'[m]? = some o) : Odd S' d := by
  cases h with
  | l0 h => exact .l0 (k _ _ h rfl)
  | l1 h => exact .l1 (k _ _ h rfl)
  | d0 h => exact .d0 (k _ _ h rfl)
  | d1 h => exact .d1 (k _ _ h rfl)
  | non => exact .non
  | bl b => exact .bl b
  | str x hx => exact .str x hx
  | rt p q => exact .rt p q
  | t0 => exact .t0
  | t1 => exact .t1
def ra (p q : Int) : D := .ins "Ratio" [.int p, .int q]
theorem fl_top {S : Store} {p q : Int} : fieldOf flds S "top" (ra p q) = some (.int p) := by
  have e : flds "Ratio" = ([Str.ofString "top", Str.ofString "bottom"] : List Str) := by decide
  show ((flds "Ratio").zip [D.int p, .int q]).lookup (Str.ofString "top") = _
  rw [e]
  simp [List.lookup]
theorem fl_bot {S : Store} {p q : Int} : fieldOf flds S "bottom" (ra p q) = some (.int q) := by
  have e : flds "Ratio" = ([Str.ofString "top", Str.ofString "bottom"] : List Str) := by decide
  have n : ((Str.ofString "bottom") == (Str.ofString "top")) = false := by decide
  show ((flds "Ratio").zip [D.int p, .int q]).lookup (Str.ofString "bottom") = _
  rw [e]
  simp [List.lookup, n]
theorem num_int {S : Store} {v : Int} : f_is_number [.int v] S = .ok (.bl true) S := by
  have h1 := isint (kn_int S v)
  simp only [isInt] at h1
  unfold f_is_number mDef b_is_number
  simp only [mSeq, RS.seq, mIfS, mTest, mSet, mRet, mVar, mC, mNil, mCons, Lk.m1, Lk.m2, mB, mAnd, mOr, mNot, mAndT, mOrT, mNotT, mIf, mAsg, mNext, mCall, R.bind, R.bindS, R.nxt, asB, gSub', mTup, mLst, List.getElem?_cons_succ, List.getElem?_cons_zero, List.getElem?_nil, List.set_cons_succ, List.set_cons_zero, List.map_cons, List.map_nil, List.cons_append, List.nil_append, List.length_cons, List.length_nil, List.replicate, Lk.gIx, Lk.gAdd, Lk.gSub, Lk.gMul, Lk.gDiv, Lk.gMod, gInt, gCmp, gNeg, gAbs, gGcd, gLen, List.length_map, Lk.listOf, stIx, if_true, if_false, Bool.false_eq_true, reduceIte, Nat.reduceAdd, Nat.reduceSub, Nat.zero_add, eqz_int, pow1010, pow1018, pow1019, Int.reduceMul, Int.reduceAdd, ix40, ix41, ix42, ix43, at40, at41, at42, at43, and_true, true_and, and_self, ne_eq, not_false_eq_true, decide_true, decide_false, decide_eq_true_eq, Bool.and_true, Bool.true_and, mFor, iSeq, srcOf, vals, forGo_n, forGo_c, gSet, mRaise1, mSetF, setF, lim_le, Nat.reduceLeDiff, Bool.not_false, Bool.not_true, Nat.lt_irrefl, List.length_append, List.append_assoc, h1]
  exact gc_self
theorem num_ra {S : Store} {p q : Int} : f_is_number [ra p q] S = .ok (.bl true) S := by
  have h1 := isint (kn_rat S [.int p, .int q])
  have h2 := (gI_any (kn_rat S [.int p, .int q])).2.2
  simp only [isInt] at h1
  have e : isR (.ins "Ratio" [.int p, .int q]) = true := by simp [isR]
  rw [e] at h2
  unfold f_is_number mDef b_is_number ra
  simp only [mSeq, RS.seq, mIfS, mTest, mSet, mRet, mVar, mC, mNil, mCons, Lk.m1, Lk.m2, mB, mAnd, mOr, mNot, mAndT, mOrT, mNotT, mIf, mAsg, mNext, mCall, R.bind, R.bindS, R.nxt, asB, gSub', mTup, mLst, List.getElem?_cons_succ, List.getElem?_cons_zero, List.getElem?_nil, List.set_cons_succ, List.set_cons_zero, List.map_cons, List.map_nil, List.cons_append, List.nil_append, List.length_cons, List.length_nil, List.replicate, Lk.gIx, Lk.gAdd, Lk.gSub, Lk.gMul, Lk.gDiv, Lk.gMod, gInt, gCmp, gNeg, gAbs, gGcd, gLen, List.length_map, Lk.listOf, stIx, if_true, if_false, Bool.false_eq_true, reduceIte, Nat.reduceAdd, Nat.reduceSub, Nat.zero_add, eqz_int, pow1010, pow1018, pow1019, Int.reduceMul, Int.reduceAdd, ix40, ix41, ix42, ix43, at40, at41, at42, at43, and_true, true_and, and_self, ne_eq, not_false_eq_true, decide_true, decide_false, decide_eq_true_eq, Bool.and_true, Bool.true_and, mFor, iSeq, srcOf, vals, forGo_n, forGo_c, gSet, mRaise1, mSetF, setF, lim_le, Nat.reduceLeDiff, Bool.not_false, Bool.not_true, Nat.lt_irrefl, List.length_append, List.append_assoc, h1, h2]
  exact gc_self
theorem num_no {S : Store} {d : D} (h : Kn S d) (h1 : isInt d = false) (h2 : isR d = false) : f_is_number [d] S = .ok (.bl false) S := by
  have h3 := isint h
  have h4 := (gI_any h).2.2
  rw [h1] at h3
  rw [h2] at h4
  unfold f_is_number mDef b_is_number
  simp only [mSeq, RS.seq, mIfS, mTest, mSet, mRet, mVar, mC, mNil, mCons, Lk.m1, Lk.m2, mB, mAnd, mOr, mNot, mAndT, mOrT, mNotT, mIf, mAsg, mNext, mCall, R.bind, R.bindS, R.nxt, asB, gSub', mTup, mLst, List.getElem?_cons_succ, List.getElem?_cons_zero, List.getElem?_nil, List.set_cons_succ, List.set_cons_zero, List.map_cons, List.map_nil, List.cons_append, List.nil_append, List.length_cons, List.length_nil, List.replicate, Lk.gIx, Lk.gAdd, Lk.gSub, Lk.gMul, Lk.gDiv, Lk.gMod, gInt, gCmp, gNeg, gAbs, gGcd, gLen, List.length_map, Lk.listOf, stIx, if_true, if_false, Bool.false_eq_true, reduceIte, Nat.reduceAdd, Nat.reduceSub, Nat.zero_add, eqz_int, pow1010, pow1018, pow1019, Int.reduceMul, Int.reduceAdd, ix40, ix41, ix42, ix43, at40, at41, at42, at43, and_true, true_and, and_self, ne_eq, not_false_eq_true, decide_true, decide_false, decide_eq_true_eq, Bool.and_true, Bool.true_and, mFor, iSeq, srcOf, vals, forGo_n, forGo_c, gSet, mRaise1, mSetF, setF, lim_le, Nat.reduceLeDiff, Bool.not_false, Bool.not_true, Nat.lt_irrefl, List.length_append, List.append_assoc, h3, h4]
  exact gc_self
theorem top_int {S : Store} {v : Int} : f_top_of [.int v] S = .ok (.int v) S := by
  have h2 := (gI_any (kn_int S v)).2.2
  simp only [isR] at h2
  unfold f_top_of mDef b_top_of
  simp only [mSeq, RS.seq, mIfS, mTest, mSet, mRet, mVar, mC, mNil, mCons, Lk.m1, Lk.m2, mB, mAnd, mOr, mNot, mAndT, mOrT, mNotT, mIf, mAsg, mNext, mCall, R.bind, R.bindS, R.nxt, asB, gSub', mTup, mLst, List.getElem?_cons_succ, List.getElem?_cons_zero, List.getElem?_nil, List.set_cons_succ, List.set_cons_zero, List.map_cons, List.map_nil, List.cons_append, List.nil_append, List.length_cons, List.length_nil, List.replicate, Lk.gIx, Lk.gAdd, Lk.gSub, Lk.gMul, Lk.gDiv, Lk.gMod, gInt, gCmp, gNeg, gAbs, gGcd, gLen, List.length_map, Lk.listOf, stIx, if_true, if_false, Bool.false_eq_true, reduceIte, Nat.reduceAdd, Nat.reduceSub, Nat.zero_add, eqz_int, pow1010, pow1018, pow1019, Int.reduceMul, Int.reduceAdd, ix40, ix41, ix42, ix43, at40, at41, at42, at43, and_true, true_and, and_self, ne_eq, not_false_eq_true, decide_true, decide_false, decide_eq_true_eq, Bool.and_true, Bool.true_and, mFor, iSeq, srcOf, vals, forGo_n, forGo_c, gSet, mRaise1, mSetF, setF, lim_le, Nat.reduceLeDiff, Bool.not_false, Bool.not_true, Nat.lt_irrefl, List.length_append, List.append_assoc, h2]
  exact gc_self
theorem bot_int {S : Store} {v : Int} : f_bottom_of [.int v] S = .ok (.int 1) S := by
  have h2 := (gI_any (kn_int S v)).2.2
  simp only [isR] at h2
  unfold f_bottom_of mDef b_bottom_of
  simp only [mSeq, RS.seq, mIfS, mTest, mSet, mRet, mVar, mC, mNil, mCons, Lk.m1, Lk.m2, mB, mAnd, mOr, mNot, mAndT, mOrT, mNotT, mIf, mAsg, mNext, mCall, R.bind, R.bindS, R.nxt, asB, gSub', mTup, mLst, List.getElem?_cons_succ, List.getElem?_cons_zero, List.getElem?_nil, List.set_cons_succ, List.set_cons_zero, List.map_cons, List.map_nil, List.cons_append, List.nil_append, List.length_cons, List.length_nil, List.replicate, Lk.gIx, Lk.gAdd, Lk.gSub, Lk.gMul, Lk.gDiv, Lk.gMod, gInt, gCmp, gNeg, gAbs, gGcd, gLen, List.length_map, Lk.listOf, stIx, if_true, if_false, Bool.false_eq_true, reduceIte, Nat.reduceAdd, Nat.reduceSub, Nat.zero_add, eqz_int, pow1010, pow1018, pow1019, Int.reduceMul, Int.reduceAdd, ix40, ix41, ix42, ix43, at40, at41, at42, at43, and_true, true_and, and_self, ne_eq, not_false_eq_true, decide_true, decide_false, decide_eq_true_eq, Bool.and_true, Bool.true_and, mFor, iSeq, srcOf, vals, forGo_n, forGo_c, gSet, mRaise1, mSetF, setF, lim_le, Nat.reduceLeDiff, Bool.not_false, Bool.not_true, Nat.lt_irrefl, List.length_append, List.append_assoc, h2]
  exact gc_self
theorem top_ra {S : Store} {p q : Int} : f_top_of [ra p q] S = .ok (.int p) S := by
  have h2 : gIsi cs [.own "Ratio"] (ra p q) S = .ok (.bl true) S := by
    have := (gI_any (kn_rat S [.int p, .int q])).2.2
    rwa [show isR (.ins "Ratio" [.int p, .int q]) = true by simp [isR]] at this
  unfold f_top_of mDef b_top_of
  simp only [mSeq, RS.seq, mIfS, mTest, mSet, mRet, mVar, mC, mNil, mCons, Lk.m1, Lk.m2, mB, mAnd, mOr, mNot, mAndT, mOrT, mNotT, mIf, mAsg, mNext, mCall, R.bind, R.bindS, R.nxt, asB, gSub', mTup, mLst, List.getElem?_cons_succ, List.getElem?_cons_zero, List.getElem?_nil, List.set_cons_succ, List.set_cons_zero, List.map_cons, List.map_nil, List.cons_append, List.nil_append, List.length_cons, List.length_nil, List.replicate, Lk.gIx, Lk.gAdd, Lk.gSub, Lk.gMul, Lk.gDiv, Lk.gMod, gInt, gCmp, gNeg, gAbs, gGcd, gLen, List.length_map, Lk.listOf, stIx, if_true, if_false, Bool.false_eq_true, reduceIte, Nat.reduceAdd, Nat.reduceSub, Nat.zero_add, eqz_int, pow1010, pow1018, pow1019, Int.reduceMul, Int.reduceAdd, ix40, ix41, ix42, ix43, at40, at41, at42, at43, and_true, true_and, and_self, ne_eq, not_false_eq_true, decide_true, decide_false, decide_eq_true_eq, Bool.and_true, Bool.true_and, mFor, iSeq, srcOf, vals, forGo_n, forGo_c, gSet, mRaise1, mSetF, setF, lim_le, Nat.reduceLeDiff, Bool.not_false, Bool.not_true, Nat.lt_irrefl, List.length_append, List.append_assoc, h2, mFld, fl_top]
  exact gc_self
theorem bot_ra {S : Store} {p q : Int} : f_bottom_of [ra p q] S = .ok (.int q) S := by
  have h2 : gIsi cs [.own "Ratio"] (ra p q) S = .ok (.bl true) S := by
    have := (gI_any (kn_rat S [.int p, .int q])).2.2
    rwa [show isR (.ins "Ratio" [.int p, .int q]) = true by simp [isR]] at this
  unfold f_bottom_of mDef b_bottom_of
  simp only [mSeq, RS.seq, mIfS, mTest, mSet, mRet, mVar, mC, mNil, mCons, Lk.m1, Lk.m2, mB, mAnd, mOr, mNot, mAndT, mOrT, mNotT, mIf, mAsg, mNext, mCall, R.bind, R.bindS, R.nxt, asB, gSub', mTup, mLst, List.getElem?_cons_succ, List.getElem?_cons_zero, List.getElem?_nil, List.set_cons_succ, List.set_cons_zero, List.map_cons, List.map_nil, List.cons_append, List.nil_append, List.length_cons, List.length_nil, List.replicate, Lk.gIx, Lk.gAdd, Lk.gSub, Lk.gMul, Lk.gDiv, Lk.gMod, gInt, gCmp, gNeg, gAbs, gGcd, gLen, List.length_map, Lk.listOf, stIx, if_true, if_false, Bool.false_eq_true, reduceIte, Nat.reduceAdd, Nat.reduceSub, Nat.zero_add, eqz_int, pow1010, pow1018, pow1019, Int.reduceMul, Int.reduceAdd, ix40, ix41, ix42, ix43, at40, at41, at42, at43, and_true, true_and, and_self, ne_eq, not_false_eq_true, decide_true, decide_false, decide_eq_true_eq, Bool.and_true, Bool.true_and, mFor, iSeq, srcOf, vals, forGo_n, forGo_c, gSet, mRaise1, mSetF, setF, lim_le, Nat.reduceLeDiff, Bool.not_false, Bool.not_true, Nat.lt_irrefl, List.length_append, List.append_assoc, h2, mFld, fl_bot]
  exact gc_self
theorem eq_data {S : Store} {x y : D} {b : Bool} (hx : ∀ C ds, x ≠ .ins C ds) (h : eqData S x y = some b) (hn : ∀ n kvs, x = .ref n → S[n]? ≠ some (.dk kvs)) : gEqZ cs oe x y S = .ok (.bl b) S := by
  have e : gEqX cs oe x y S = .ok (.bl b) S := by
    unfold gEqX
    split
    · rename_i C xs
      exact absurd rfl (hx C xs)
    · rw [h]
  unfold gEqZ
  split
  · rename_i n m
    split
    · rename_i kvs hk
      exact absurd hk (hn _ _ rfl)
    · exact e
  · exact e
def net (b e : Int) (ds : List D) : D := .ins "Net" [.int b, .int e, .tup ds]
theorem fn_e : flds "Net" = ([Str.ofString "beat", Str.ofString "events", Str.ofString "spans"] : List Str) := by decide
theorem fn_beat {S : Store} {b e : Int} {ds : List D} : fieldOf flds S "beat" (net b e ds) = some (.int b) := by
  show ((flds "Net").zip [D.int b, .int e, .tup ds]).lookup (Str.ofString "beat") = _
  rw [fn_e]
  simp [List.lookup]
theorem fn_ev {S : Store} {b e : Int} {ds : List D} : fieldOf flds S "events" (net b e ds) = some (.int e) := by
  have n : ((Str.ofString "events") == (Str.ofString "beat")) = false := by decide
  show ((flds "Net").zip [D.int b, .int e, .tup ds]).lookup (Str.ofString "events") = _
  rw [fn_e]
  simp [List.lookup, n]
theorem fn_sp {S : Store} {b e : Int} {ds : List D} : fieldOf flds S "spans" (net b e ds) = some (.tup ds) := by
  have n : ((Str.ofString "spans") == (Str.ofString "beat")) = false := by decide
  have n2 : ((Str.ofString "spans") == (Str.ofString "events")) = false := by decide
  show ((flds "Net").zip [D.int b, .int e, .tup ds]).lookup (Str.ofString "spans") = _
  rw [fn_e]
  simp [List.lookup, n, n2]
/-- rows are equal as data just if they are equal -/
theorem eqv_v4 {x y : D} (hx : V4 x) (hy : V4 y) : PyData.eqv (pv x) (pv y) = true ↔ x = y := by
  obtain ⟨i, j, lo, hi, rfl⟩ := hx
  obtain ⟨i', j', lo', hi', rfl⟩ := hy
  simp [pv, PyData.eqv, PyData.eqvAll]
theorem inB_iff {d : D} {ds : List D} (hd : V4 d) (hs : ∀ x ∈ ds, V4 x) : inB d ds = true ↔ d ∈ ds := by
  unfold inB
  rw [List.any_map, List.any_eq_true]
  constructor
  · rintro ⟨x, hx, e⟩
    rw [← (eqv_v4 (hs x hx) hd).mp e]
    exact hx
  · exact fun h => ⟨d, h, (eqv_v4 hd hd).mpr rfl⟩
theorem fault_none {b e : Int} : ∀ (ds pre : List D) (k : Nat), (∀ x ∈ pre, V4 x) → (fault b e pre k ds = none ↔ (∀ x ∈ ds, spanB b e x = true) ∧ ds.Nodup ∧ ∀ x ∈ ds, x ∉ pre)
  | [], pre, k, hp => by simp [fault]
  | d :: ds, pre, k, hp => by
    unfold fault
    by_cases h : spanB b e d = true ∧ inB d pre = false
    · rw [if_pos h]
      have hv := spanB_v4 h.1
      have hd : d ∉ pre := fun z => by
        rw [(inB_iff hv hp).mpr z] at h
        cases h.2
      rw [fault_none ds (pre ++ [d]) (k + 1) fun x hx => by
        rcases List.mem_append.mp hx with z | z
        · exact hp x z
        · rw [List.mem_singleton.mp z]; exact hv]
      constructor
      · rintro ⟨h1, h2, h3⟩
        refine ⟨?_, List.nodup_cons.mpr ⟨fun z => h3 d z (by simp), h2⟩, ?_⟩
        · intro x hx
          rcases List.mem_cons.mp hx with z | z
          · rw [z]; exact h.1
          · exact h1 x z
        · intro x hx
          rcases List.mem_cons.mp hx with z | z
          · rw [z]; exact hd
          · exact fun q => h3 x z (List.mem_append_left _ q)
      · rintro ⟨h1, h2, h3⟩
        obtain ⟨n1, n2⟩ := List.nodup_cons.mp h2
        refine ⟨fun x hx => h1 x (List.mem_cons_of_mem _ hx), n2, fun x hx q => ?_⟩
        rcases List.mem_append.mp q with z | z
        · exact h3 x (List.mem_cons_of_mem _ hx) z
        · rw [List.mem_singleton.mp z] at hx
          exact n1 hx
    · rw [if_neg h]
      constructor
      · intro z; cases z
      · rintro ⟨h1, h2, h3⟩
        exfalso
        have sp := h1 d List.mem_cons_self
        refine h ⟨sp, eq_false_of_ne_true fun q => ?_⟩
        exact h3 d List.mem_cons_self ((inB_iff (spanB_v4 sp) hp).mp q)
/-- what stands from L on stays -/
def Same (L : Nat) (S S' : Store) : Prop := S.length ≤ S'.length ∧ ∀ m, L ≤ m → m < S.length → S'[m]? = S[m]?
theorem Same.refl (L : Nat) (S : Store) : Same L S S := ⟨Nat.le_refl _, fun _ _ _ => rfl⟩
theorem Same.trans {L : Nat} {S S' S'' : Store} (h : Same L S S') (h' : Same L S' S'') : Same L S S'' :=
  ⟨Nat.le_trans h.1 h'.1, fun m h1 h2 => by rw [h'.2 m h1 (Nat.lt_of_lt_of_le h2 h.1), h.2 m h1 h2]⟩
theorem Same.app (L : Nat) (S T : Store) : Same L S (S ++ T) := ⟨by simp, fun m _ hm => by rw [List.getElem?_append_left hm]⟩
theorem Same.set {L : Nat} {S : Store} {p : Nat} {o : Ob} (h : p < L) : Same L S (S.set p o) := ⟨by simp, fun m hm _ => by rw [List.getElem?_set_ne (by omega)]⟩
/-- a fresh source is changed -/
theorem Same.ag {L n : Nat} {S0 S S' : Store} (h : Same L S0 S) (a : Ag S n S') (hn : S0.length ≤ n ∨ n < L) : Same L S0 S' :=
  ⟨Nat.le_trans h.1 a.1, fun m h1 h2 => by
    rw [a.2 m (Nat.lt_of_lt_of_le h2 h.1) (by omega), h.2 m h1 h2]⟩
theorem Src.lt {n : Nat} {k : Int} {S : Store} (h : Src S n k) : n < S.length := by
  obtain ⟨a, b, c, d, h, r⟩ := h
  exact getlt h
theorem Src.ag {n s : Nat} {k : Int} {S S' : Store} (h : Src S s k) (a : Ag S n S') (hn : s ≠ n) : Src S' s k := by
  have hl := h.lt
  obtain ⟨a1, b, c, d, h, r⟩ := h
  exact ⟨a1, b, c, d, by unfold Src4 at h ⊢; rw [a.2 s hl hn]; exact h, r⟩
theorem Src.app {s : Nat} {k : Int} {S T : Store} (h : Src S s k) : Src (S ++ T) s k := h.ag (.app S S.length T) (Nat.ne_of_lt h.lt)
def com (i j : Int) : Int := if 0 < j then ((Nat.gcd i.natAbs j.natAbs : Nat) : Int) else -((Nat.gcd i.natAbs j.natAbs : Nat) : Int)
def rat (i j : Int) : D := .ins "Ratio" [.int (fdv i (com i j)), .int (fdv j (com i j))]
theorem com_ne {i j : Int} (h : j ≠ 0) : com i j ≠ 0 := by
  have : 0 < Nat.gcd i.natAbs j.natAbs := Nat.gcd_pos_of_pos_right _ (by omega)
  unfold com
  split <;> omega
theorem com_le {i j : Int} (h : j ≠ 0) : (com i j).natAbs ≤ j.natAbs := by
  have : Nat.gcd i.natAbs j.natAbs ≤ j.natAbs := Nat.le_of_dvd (by omega) (Nat.gcd_dvd_right _ _)
  unfold com
  split <;> omega
theorem mk_ok {S : Store} {i j : Int} (hj : j ≠ 0) (hb : j.natAbs < 2 ^ 1000) : mkOf "Ratio" f_Ratio___init__ [.int i, .int j] S = .ok (rat i j) S := by
  have h1 := isint (kn_int (S ++ [Ob.obj "Ratio" []]) j)
  have h2 := isint (kn_int (S ++ [Ob.obj "Ratio" []]) i)
  simp only [isInt] at h2 h1
  have k1 := com_ne (i := i) hj
  have k2 : bits (com i j) < 9000 := by
    have := bits_lt (i := com i j) 1000 (Nat.lt_of_le_of_lt (com_le hj) hb) (by decide)
    omega
  have hg : ∀ x, (S ++ [x])[S.length]? = some x := fun x => by simp
  have hs : ∀ x y : Ob, (S ++ [x]).set S.length y = S ++ [y] := fun x y => by simp
  have f0 : (flds "Ratio")[0]? = some (Str.ofString "top") := by decide
  have f1 : (flds "Ratio")[1]? = some (Str.ofString "bottom") := by decide
  have f2 : (flds "Ratio").take 0 = [] := rfl
  have f3 : (flds "Ratio").take 1 = [Str.ofString "top"] := by decide
  have q0 : (0 : Nat) < 900 := by decide
  have q1 : (1 : Nat) < 900 := by decide
  have n1 : ("bottom" : Str) ∉ (["top"] : List Str) := by decide
  have n2 : ("top" : Str) ∉ ([] : List Str) := by decide
  have ei : f_Ratio___init__ [.ref S.length, .int i, .int j] (S ++ [Ob.obj "Ratio" []]) = .ok .non (S ++ [Ob.obj "Ratio" [.int (fdv i (com i j)), .int (fdv j (com i j))]]) := by
    unfold f_Ratio___init__ mDef b_Ratio___init__
    by_cases hp : 0 < j
    · have hc : com i j = ((Nat.gcd i.natAbs j.natAbs : Nat) : Int) := if_pos hp
      rw [hc] at k1 k2 ⊢
      simp only [mSeq, RS.seq, mIfS, mTest, mSet, mRet, mVar, mC, mNil, mCons, Lk.m1, Lk.m2, mB, mAnd, mOr, mNot, mAndT, mOrT, mNotT, mIf, mAsg, mNext, mCall, R.bind, R.bindS, R.nxt, asB, gSub', mTup, mLst, List.getElem?_cons_succ, List.getElem?_cons_zero, List.getElem?_nil, List.set_cons_succ, List.set_cons_zero, List.map_cons, List.map_nil, List.cons_append, List.nil_append, List.length_cons, List.length_nil, List.replicate, Lk.gIx, Lk.gAdd, Lk.gSub, Lk.gMul, Lk.gDiv, Lk.gMod, gInt, gCmp, gNeg, gAbs, gGcd, gLen, List.length_map, Lk.listOf, stIx, if_true, if_false, Bool.false_eq_true, reduceIte, Nat.reduceAdd, Nat.reduceSub, Nat.zero_add, eqz_int, pow1010, pow1018, pow1019, Int.reduceMul, Int.reduceAdd, ix40, ix41, ix42, ix43, at40, at41, at42, at43, and_true, true_and, and_self, ne_eq, not_false_eq_true, decide_true, decide_false, decide_eq_true_eq, Bool.and_true, Bool.true_and, mFor, iSeq, srcOf, vals, forGo_n, forGo_c, gSet, mRaise1, mSetF, setF, lim_le, Nat.reduceLeDiff, Bool.not_false, Bool.not_true, Nat.lt_irrefl, List.length_append, List.append_assoc, h1, h2, hp, hj, k1, k2, hg, hs, f0, f1, f2, f3, n1, n2, q0, q1]
      refine gc_len ?_
      simp
    · have hc : com i j = -((Nat.gcd i.natAbs j.natAbs : Nat) : Int) := if_neg hp
      rw [hc] at k1 k2 ⊢
      simp only [mSeq, RS.seq, mIfS, mTest, mSet, mRet, mVar, mC, mNil, mCons, Lk.m1, Lk.m2, mB, mAnd, mOr, mNot, mAndT, mOrT, mNotT, mIf, mAsg, mNext, mCall, R.bind, R.bindS, R.nxt, asB, gSub', mTup, mLst, List.getElem?_cons_succ, List.getElem?_cons_zero, List.getElem?_nil, List.set_cons_succ, List.set_cons_zero, List.map_cons, List.map_nil, List.cons_append, List.nil_append, List.length_cons, List.length_nil, List.replicate, Lk.gIx, Lk.gAdd, Lk.gSub, Lk.gMul, Lk.gDiv, Lk.gMod, gInt, gCmp, gNeg, gAbs, gGcd, gLen, List.length_map, Lk.listOf, stIx, if_true, if_false, Bool.false_eq_true, reduceIte, Nat.reduceAdd, Nat.reduceSub, Nat.zero_add, eqz_int, pow1010, pow1018, pow1019, Int.reduceMul, Int.reduceAdd, ix40, ix41, ix42, ix43, at40, at41, at42, at43, and_true, true_and, and_self, ne_eq, not_false_eq_true, decide_true, decide_false, decide_eq_true_eq, Bool.and_true, Bool.true_and, mFor, iSeq, srcOf, vals, forGo_n, forGo_c, gSet, mRaise1, mSetF, setF, lim_le, Nat.reduceLeDiff, Bool.not_false, Bool.not_true, Nat.lt_irrefl, List.length_append, List.append_assoc, h1, h2, hp, hj, k1, k2, hg, hs, f0, f1, f2, f3, n1, n2, q0, q1]
      refine gc_len ?_
      simp
  unfold mkOf
  rw [ei]
  simp only [hg, if_true]
  unfold mkEnd
  rw [if_pos ⟨by simp [clL, D.cl], by simp⟩]
  rfl
/-! sizes -/
def Sz (k : Nat) (i : Int) : Prop := i.natAbs < 2 ^ k
theorem Sz.mono {j k : Nat} {i : Int} (h : Sz j i) (hk : j ≤ k) : Sz k i := Nat.lt_of_lt_of_le h (Nat.pow_le_pow_right (by decide) hk)
theorem Sz.mul {j k : Nat} {a b : Int} (h1 : Sz j a) (h2 : Sz k b) : Sz (j + k) (a * b) := by
  unfold Sz at *
  rw [Int.natAbs_mul, Nat.pow_add]
  exact Nat.mul_lt_mul'' h1 h2
theorem Sz.add {k : Nat} {a b : Int} (h1 : Sz k a) (h2 : Sz k b) : Sz (k + 1) (a + b) := by
  unfold Sz at *
  have := Int.natAbs_add_le a b
  rw [Nat.pow_succ]
  omega
theorem Sz.neg {k : Nat} {a : Int} (h1 : Sz k a) : Sz k (-a) := by
  unfold Sz at *
  rw [Int.natAbs_neg]
  exact h1
theorem Sz.sub {k : Nat} {a b : Int} (h1 : Sz k a) (h2 : Sz k b) : Sz (k + 1) (a - b) := by
  rw [Int.sub_eq_add_neg]
  exact h1.add h2.neg
theorem mulok {j k : Nat} {a b : Int} (h1 : Sz j a) (h2 : Sz k b) (hj : j ≤ 1000 := by decide) (hk : k ≤ 1000 := by decide) : bits a + bits b < 1000000 := mul_ok (h1.mono hj) (h2.mono hk)
theorem Sz.of {k : Nat} {a : Int} (m : Nat) (h : a.natAbs ≤ m) (hk : m < 2 ^ k := by decide +kernel) : Sz k a := Nat.lt_of_le_of_lt h hk
/-! lowest terms -/
def nT (i j : Int) : Int := fdv i (com i j)
def nB (i j : Int) : Int := fdv j (com i j)
def Low (p q : Int) : Prop := 0 < q ∧ Nat.gcd p.natAbs q.natAbs = 1
theorem Low.ne {p q : Int} (h : Low p q) : q ≠ 0 := by have := h.1; omega
theorem fdv_one {i : Int} : fdv i 1 = i := by
  unfold fdv
  rw [if_pos (by decide)]
  exact Int.ediv_one i
theorem Low.nT {p q : Int} (h : Low p q) : nT p q = p := by
  unfold Mi_k20.nT com
  rw [if_pos h.1, h.2]
  exact fdv_one
theorem Low.nB {p q : Int} (h : Low p q) : nB p q = q := by
  unfold Mi_k20.nB com
  rw [if_pos h.1, h.2]
  exact fdv_one
theorem low_one (p : Int) : Low p 1 := ⟨by decide, by simp⟩
theorem Low.neg {p q : Int} (h : Low p q) : Low (-p) q := ⟨h.1, by rw [Int.natAbs_neg]; exact h.2⟩
/-- by a common factor of either sign -/
theorem fdv_g {i : Int} {g : Nat} (hg : 0 < g) (hd : g ∣ i.natAbs) : fdv i (g : Int) * g = i ∧ fdv i (-(g : Int)) = - fdv i (g : Int) := by
  have hd' : (g : Int) ∣ i := Int.ofNat_dvd_left.mpr hd
  obtain ⟨c, hc⟩ := hd'
  have hg' : (0 : Int) < (g : Int) := by omega
  have e1 : fdv i (g : Int) = c := by
    unfold fdv
    rw [if_pos hg', hc]
    exact Int.mul_ediv_cancel_left c (by omega)
  have e2 : fdv i (-(g : Int)) = -c := by
    unfold fdv
    rw [if_neg (by omega), Int.neg_neg, hc, ← Int.mul_neg]
    exact Int.mul_ediv_cancel_left (-c) (by omega)
  rw [e1, e2]
  exact ⟨by rw [hc]; exact Int.mul_comm c g, rfl⟩
theorem low_of {i j : Int} (hj : j ≠ 0) : Low (nT i j) (nB i j) ∧ (nT i j).natAbs ≤ i.natAbs ∧ (nB i j).natAbs ≤ j.natAbs := by
  obtain ⟨g, hg⟩ : ∃ g, g = Nat.gcd i.natAbs j.natAbs := ⟨_, rfl⟩
  have gp : 0 < g := by rw [hg]; exact Nat.gcd_pos_of_pos_right _ (by omega)
  have d1 : g ∣ i.natAbs := by rw [hg]; exact Nat.gcd_dvd_left _ _
  have d2 : g ∣ j.natAbs := by rw [hg]; exact Nat.gcd_dvd_right _ _
  obtain ⟨a1, a2⟩ := fdv_g gp d1
  obtain ⟨b1, b2⟩ := fdv_g gp d2
  obtain ⟨x, hx⟩ : ∃ x, x = fdv i (g : Int) := ⟨_, rfl⟩
  obtain ⟨y, hy⟩ : ∃ y, y = fdv j (g : Int) := ⟨_, rfl⟩
  rw [← hx] at a1 a2
  rw [← hy] at b1 b2
  have n1 : x.natAbs * g = i.natAbs := by rw [← a1, Int.natAbs_mul]; simp
  have n2 : y.natAbs * g = j.natAbs := by rw [← b1, Int.natAbs_mul]; simp
  have cop : Nat.gcd x.natAbs y.natAbs = 1 := by
    have := Nat.coprime_div_gcd_div_gcd (m := i.natAbs) (n := j.natAbs) (by rw [← hg]; exact gp)
    rw [← hg, ← n1, ← n2, Nat.mul_div_cancel _ gp, Nat.mul_div_cancel _ gp] at this
    exact this
  have l1 : x.natAbs ≤ i.natAbs := by rw [← n1]; exact Nat.le_mul_of_pos_right _ gp
  have l2 : y.natAbs ≤ j.natAbs := by rw [← n2]; exact Nat.le_mul_of_pos_right _ gp
  have yne : y ≠ 0 := fun z => by rw [z] at b1; simp at b1; omega
  by_cases hp : 0 < j
  · have c : com i j = (g : Int) := by unfold com; rw [if_pos hp, hg]
    have e1 : nT i j = x := by unfold nT; rw [c, hx]
    have e2 : nB i j = y := by unfold nB; rw [c, hy]
    have yp : 0 < y := by
      rcases Int.lt_or_gt_of_ne yne with z | z
      · have : y * g < 0 := Int.mul_neg_of_neg_of_pos z (by omega)
        omega
      · exact z
    rw [e1, e2]
    exact ⟨⟨yp, cop⟩, l1, l2⟩
  · have c : com i j = -(g : Int) := by unfold com; rw [if_neg hp, hg]
    have e1 : nT i j = -x := by unfold nT; rw [c, a2]
    have e2 : nB i j = -y := by unfold nB; rw [c, b2]
    have yp : y < 0 := by
      rcases Int.lt_or_gt_of_ne yne with z | z
      · exact z
      · have : 0 < y * g := Int.mul_pos z (by omega)
        omega
    rw [e1, e2, Int.natAbs_neg, Int.natAbs_neg]
    exact ⟨⟨by omega, by rw [Int.natAbs_neg, Int.natAbs_neg]; exact cop⟩, l1, l2⟩
/-! numbers -/
def Nm (d : D) (p q : Int) : Prop := (d = .int p ∧ q = 1) ∨ d = ra p q
theorem Nm.is {S : Store} {d : D} {p q : Int} (h : Nm d p q) : f_is_number [d] S = .ok (.bl true) S := by
  rcases h with ⟨rfl, _⟩ | rfl
  · exact num_int
  · exact num_ra
theorem Nm.top {S : Store} {d : D} {p q : Int} (h : Nm d p q) : f_top_of [d] S = .ok (.int p) S := by
  rcases h with ⟨rfl, _⟩ | rfl
  · exact top_int
  · exact top_ra
theorem Nm.bot {S : Store} {d : D} {p q : Int} (h : Nm d p q) : f_bottom_of [d] S = .ok (.int q) S := by
  rcases h with ⟨rfl, rfl⟩ | rfl
  · exact bot_int
  · exact bot_ra
theorem mk {S : Store} {t b : Int} (hb : b ≠ 0) (hs : Sz 900 b) : mkOf "Ratio" f_Ratio___init__ [.int t, .int b] S = .ok (ra (nT t b) (nB t b)) S := mk_ok hb (hs.mono (by decide))
theorem add_ok {S : Store} {d : D} {p q p' q' : Int} (h : Nm d p' q') (s1 : Sz 300 p) (s2 : Sz 300 q) (s3 : Sz 300 p') (s4 : Sz 300 q') (hq : q ≠ 0) (hq' : q' ≠ 0) : f_Ratio___add__ [ra p q, d] S = .ok (ra (nT (p * q' + p' * q) (q * q')) (nB (p * q' + p' * q) (q * q'))) S := by
  have m1 := mulok s1 s4
  have m2 := mulok s3 s2
  have m3 := mulok s2 s4
  have e := mk (S := S) (t := p * q' + p' * q) (b := q * q') (Int.mul_ne_zero hq hq') ((s2.mul s4).mono (by decide))
  have g1 := h.is (S := S)
  have g2 := h.top (S := S)
  have g3 := h.bot (S := S)
  unfold f_Ratio___add__ mDef b_Ratio___add__
  simp only [mSeq, RS.seq, mIfS, mTest, mSet, mRet, mVar, mC, mNil, mCons, Lk.m1, Lk.m2, mB, mAnd, mOr, mNot, mAndT, mOrT, mNotT, mIf, mAsg, mNext, mCall, R.bind, R.bindS, R.nxt, asB, gSub', mTup, mLst, List.getElem?_cons_succ, List.getElem?_cons_zero, List.getElem?_nil, List.set_cons_succ, List.set_cons_zero, List.map_cons, List.map_nil, List.cons_append, List.nil_append, List.length_cons, List.length_nil, List.replicate, Lk.gIx, Lk.gAdd, Lk.gSub, Lk.gMul, Lk.gDiv, Lk.gMod, gInt, gCmp, gNeg, gAbs, gGcd, gLen, List.length_map, Lk.listOf, stIx, if_true, if_false, Bool.false_eq_true, reduceIte, Nat.reduceAdd, Nat.reduceSub, Nat.zero_add, eqz_int, pow1010, pow1018, pow1019, Int.reduceMul, Int.reduceAdd, ix40, ix41, ix42, ix43, at40, at41, at42, at43, and_true, true_and, and_self, ne_eq, not_false_eq_true, decide_true, decide_false, decide_eq_true_eq, Bool.and_true, Bool.true_and, mFor, iSeq, srcOf, vals, forGo_n, forGo_c, gSet, mRaise1, mSetF, setF, lim_le, Nat.reduceLeDiff, Bool.not_false, Bool.not_true, Nat.lt_irrefl, List.length_append, List.append_assoc, g1, g2, g3, mFld, fl_top, fl_bot, m1, m2, m3, mMake, e]
  exact gc_self
theorem sub_ok {S : Store} {d : D} {p q p' q' : Int} (h : Nm d p' q') (s1 : Sz 300 p) (s2 : Sz 300 q) (s3 : Sz 300 p') (s4 : Sz 300 q') (hq : q ≠ 0) (hq' : q' ≠ 0) : f_Ratio___sub__ [ra p q, d] S = .ok (ra (nT (p * q' - p' * q) (q * q')) (nB (p * q' - p' * q) (q * q'))) S := by
  have m1 := mulok s1 s4
  have m2 := mulok s3 s2
  have m3 := mulok s2 s4
  have e := mk (S := S) (t := p * q' - p' * q) (b := q * q') (Int.mul_ne_zero hq hq') ((s2.mul s4).mono (by decide))
  have g1 := h.is (S := S)
  have g2 := h.top (S := S)
  have g3 := h.bot (S := S)
  unfold f_Ratio___sub__ mDef b_Ratio___sub__
  simp only [mSeq, RS.seq, mIfS, mTest, mSet, mRet, mVar, mC, mNil, mCons, Lk.m1, Lk.m2, mB, mAnd, mOr, mNot, mAndT, mOrT, mNotT, mIf, mAsg, mNext, mCall, R.bind, R.bindS, R.nxt, asB, gSub', mTup, mLst, List.getElem?_cons_succ, List.getElem?_cons_zero, List.getElem?_nil, List.set_cons_succ, List.set_cons_zero, List.map_cons, List.map_nil, List.cons_append, List.nil_append, List.length_cons, List.length_nil, List.replicate, Lk.gIx, Lk.gAdd, Lk.gSub, Lk.gMul, Lk.gDiv, Lk.gMod, gInt, gCmp, gNeg, gAbs, gGcd, gLen, List.length_map, Lk.listOf, stIx, if_true, if_false, Bool.false_eq_true, reduceIte, Nat.reduceAdd, Nat.reduceSub, Nat.zero_add, eqz_int, pow1010, pow1018, pow1019, Int.reduceMul, Int.reduceAdd, ix40, ix41, ix42, ix43, at40, at41, at42, at43, and_true, true_and, and_self, ne_eq, not_false_eq_true, decide_true, decide_false, decide_eq_true_eq, Bool.and_true, Bool.true_and, mFor, iSeq, srcOf, vals, forGo_n, forGo_c, gSet, mRaise1, mSetF, setF, lim_le, Nat.reduceLeDiff, Bool.not_false, Bool.not_true, Nat.lt_irrefl, List.length_append, List.append_assoc, g1, g2, g3, mFld, fl_top, fl_bot, m1, m2, m3, mMake, e]
  exact gc_self
theorem neg_ok {S : Store} {p q : Int} (h : Low p q) (s2 : Sz 300 q) : f_Ratio___neg__ [ra p q] S = .ok (ra (-p) q) S := by
  have e := mk (S := S) (t := -p) (b := q) h.ne (s2.mono (by decide))
  rw [h.neg.nT, h.neg.nB] at e
  unfold f_Ratio___neg__ mDef b_Ratio___neg__
  simp only [mSeq, RS.seq, mIfS, mTest, mSet, mRet, mVar, mC, mNil, mCons, Lk.m1, Lk.m2, mB, mAnd, mOr, mNot, mAndT, mOrT, mNotT, mIf, mAsg, mNext, mCall, R.bind, R.bindS, R.nxt, asB, gSub', mTup, mLst, List.getElem?_cons_succ, List.getElem?_cons_zero, List.getElem?_nil, List.set_cons_succ, List.set_cons_zero, List.map_cons, List.map_nil, List.cons_append, List.nil_append, List.length_cons, List.length_nil, List.replicate, Lk.gIx, Lk.gAdd, Lk.gSub, Lk.gMul, Lk.gDiv, Lk.gMod, gInt, gCmp, gNeg, gAbs, gGcd, gLen, List.length_map, Lk.listOf, stIx, if_true, if_false, Bool.false_eq_true, reduceIte, Nat.reduceAdd, Nat.reduceSub, Nat.zero_add, eqz_int, pow1010, pow1018, pow1019, Int.reduceMul, Int.reduceAdd, ix40, ix41, ix42, ix43, at40, at41, at42, at43, and_true, true_and, and_self, ne_eq, not_false_eq_true, decide_true, decide_false, decide_eq_true_eq, Bool.and_true, Bool.true_and, mFor, iSeq, srcOf, vals, forGo_n, forGo_c, gSet, mRaise1, mSetF, setF, lim_le, Nat.reduceLeDiff, Bool.not_false, Bool.not_true, Nat.lt_irrefl, List.length_append, List.append_assoc, mFld, fl_top, fl_bot, mMake, e]
  exact gc_self
theorem tAdd_r : tAdd "Ratio" = some f_Ratio___add__ := if_pos rfl
theorem tSub_r : tSub "Ratio" = some f_Ratio___sub__ := if_pos rfl
theorem tNeg_r : tNeg "Ratio" = some f_Ratio___neg__ := if_pos rfl
theorem rAdd_r : rAdd "Ratio" = some f_Ratio___radd__ := if_pos rfl
theorem rSub_r : rSub "Ratio" = some f_Ratio___rsub__ := if_pos rfl
/-- an operator of a Ratio and a number -/
theorem gb {S : Store} {d x : D} {p q p' q' : Int} {ot rt : OTab} {g : D → D → Store → Lk.R D} {m : List D → Store → Lk.R D} (h : Nm d p' q') (ho : ot "Ratio" = some m) (e : m [ra p q, d] S = .ok x S) : gBinX ot rt g (ra p q) d S = .ok x S := by
  rcases h with ⟨rfl, rfl⟩ | rfl
  · show insR (ot "Ratio") [ra p q, .int p'] S = _
    rw [ho]
    unfold insR
    dsimp only
    rw [e]
  · show (if Str.ofString "Ratio" = Str.ofString "Ratio" then insR (ot "Ratio") [ra p q, ra p' q'] S else .bad) = _
    rw [if_pos rfl, ho]
    unfold insR
    dsimp only
    rw [e]
/-- .. and of an integer and a Ratio -/
theorem gbr {S : Store} {x : D} {p q i : Int} {ot rt : OTab} {g : D → D → Store → Lk.R D} {m : List D → Store → Lk.R D} (ho : rt "Ratio" = some m) (e : m [ra p q, .int i] S = .ok x S) : gBinX ot rt g (.int i) (ra p q) S = .ok x S := by
  show insR (rt "Ratio") [ra p q, .int i] S = _
  rw [ho]
  unfold insR
  dsimp only
  rw [e]
theorem gneg {S : Store} {p q : Int} (h : Low p q) (s2 : Sz 300 q) : gUnX tNeg gNeg (ra p q) S = .ok (ra (-p) q) S := by
  show insR (tNeg "Ratio") [ra p q] S = _
  rw [tNeg_r]
  unfold insR
  dsimp only
  rw [neg_ok h s2]
theorem radd_ok {S : Store} {p q i : Int} (s1 : Sz 300 p) (s2 : Sz 300 q) (s3 : Sz 300 i) (hq : q ≠ 0) : f_Ratio___radd__ [ra p q, .int i] S = .ok (ra (nT (p * 1 + i * q) (q * 1)) (nB (p * 1 + i * q) (q * 1))) S := by
  have e := add_ok (S := S) (d := .int i) (p := p) (q := q) (p' := i) (q' := 1) (.inl ⟨rfl, rfl⟩) s1 s2 s3 (.of 1 (by decide)) hq (by decide)
  have g := gb (ot := tAdd) (rt := t0) (g := Lk.gAdd) (.inl ⟨rfl, rfl⟩) tAdd_r e
  unfold f_Ratio___radd__ mDef b_Ratio___radd__
  simp only [mSeq, RS.seq, mIfS, mTest, mSet, mRet, mVar, mC, mNil, mCons, Lk.m1, Lk.m2, mB, mAnd, mOr, mNot, mAndT, mOrT, mNotT, mIf, mAsg, mNext, mCall, R.bind, R.bindS, R.nxt, asB, gSub', mTup, mLst, List.getElem?_cons_succ, List.getElem?_cons_zero, List.getElem?_nil, List.set_cons_succ, List.set_cons_zero, List.map_cons, List.map_nil, List.cons_append, List.nil_append, List.length_cons, List.length_nil, List.replicate, Lk.gIx, Lk.gAdd, Lk.gSub, Lk.gMul, Lk.gDiv, Lk.gMod, gInt, gCmp, gNeg, gAbs, gGcd, gLen, List.length_map, Lk.listOf, stIx, if_true, if_false, Bool.false_eq_true, reduceIte, Nat.reduceAdd, Nat.reduceSub, Nat.zero_add, eqz_int, pow1010, pow1018, pow1019, Int.reduceMul, Int.reduceAdd, ix40, ix41, ix42, ix43, at40, at41, at42, at43, and_true, true_and, and_self, ne_eq, not_false_eq_true, decide_true, decide_false, decide_eq_true_eq, Bool.and_true, Bool.true_and, mFor, iSeq, srcOf, vals, forGo_n, forGo_c, gSet, mRaise1, mSetF, setF, lim_le, Nat.reduceLeDiff, Bool.not_false, Bool.not_true, Nat.lt_irrefl, List.length_append, List.append_assoc, g]
  exact gc_self
theorem rsub_ok {S : Store} {p q i : Int} (h : Low p q) (s1 : Sz 300 p) (s2 : Sz 300 q) (s3 : Sz 300 i) : f_Ratio___rsub__ [ra p q, .int i] S = .ok (ra (nT (-p * 1 + i * q) (q * 1)) (nB (-p * 1 + i * q) (q * 1))) S := by
  have e := add_ok (S := S) (d := .int i) (p := -p) (q := q) (p' := i) (q' := 1) (.inl ⟨rfl, rfl⟩) s1.neg s2 s3 (.of 1 (by decide)) h.ne (by decide)
  have g := gb (ot := tAdd) (rt := t0) (g := Lk.gAdd) (.inl ⟨rfl, rfl⟩) tAdd_r e
  have n := gneg (S := S) h s2
  unfold f_Ratio___rsub__ mDef b_Ratio___rsub__
  simp only [mSeq, RS.seq, mIfS, mTest, mSet, mRet, mVar, mC, mNil, mCons, Lk.m1, Lk.m2, mB, mAnd, mOr, mNot, mAndT, mOrT, mNotT, mIf, mAsg, mNext, mCall, R.bind, R.bindS, R.nxt, asB, gSub', mTup, mLst, List.getElem?_cons_succ, List.getElem?_cons_zero, List.getElem?_nil, List.set_cons_succ, List.set_cons_zero, List.map_cons, List.map_nil, List.cons_append, List.nil_append, List.length_cons, List.length_nil, List.replicate, Lk.gIx, Lk.gAdd, Lk.gSub, Lk.gMul, Lk.gDiv, Lk.gMod, gInt, gCmp, gNeg, gAbs, gGcd, gLen, List.length_map, Lk.listOf, stIx, if_true, if_false, Bool.false_eq_true, reduceIte, Nat.reduceAdd, Nat.reduceSub, Nat.zero_add, eqz_int, pow1010, pow1018, pow1019, Int.reduceMul, Int.reduceAdd, ix40, ix41, ix42, ix43, at40, at41, at42, at43, and_true, true_and, and_self, ne_eq, not_false_eq_true, decide_true, decide_false, decide_eq_true_eq, Bool.and_true, Bool.true_and, mFor, iSeq, srcOf, vals, forGo_n, forGo_c, gSet, mRaise1, mSetF, setF, lim_le, Nat.reduceLeDiff, Bool.not_false, Bool.not_true, Nat.lt_irrefl, List.length_append, List.append_assoc, n, g]
  exact gc_self
def OKr (b e : Int) (ds : List D) : Prop := (∀ x ∈ ds, spanB b e x = true) ∧ ds.Nodup ∧ ds.length ≤ 60
theorem OKr.v4 {b e : Int} {ds : List D} (h : OKr b e ds) : ∀ x ∈ ds, V4 x := fun x hx => spanB_v4 (h.1 x hx)
theorem OKr.flt {b e : Int} {ds : List D} (h : OKr b e ds) : fault b e [] 0 ds = none := (fault_none ds [] 0 (by simp)).mpr ⟨h.1, h.2.1, by simp⟩
theorem spanB_mono {b e b' e' : Int} {d : D} (h : spanB b e d = true) (hb : b ≤ b') (he : e ≤ e') : spanB b' e' d = true := by
  obtain ⟨i, j, lo, hi, rfl⟩ := spanB_v4 h
  simp only [spanB, decide_eq_true_eq] at h ⊢
  omega
theorem OKr.mono {b e b' e' : Int} {ds : List D} (h : OKr b e ds) (hb : b ≤ b') (he : e ≤ e') : OKr b' e' ds := ⟨fun x hx => spanB_mono (h.1 x hx) hb he, h.2⟩
theorem nTB {i j : Int} (hj : j ≠ 0) : nT i j * j = i * nB i j := by
  obtain ⟨g, hg⟩ : ∃ g, g = Nat.gcd i.natAbs j.natAbs := ⟨_, rfl⟩
  have gp : 0 < g := by rw [hg]; exact Nat.gcd_pos_of_pos_right _ (by omega)
  obtain ⟨a1, a2⟩ := fdv_g (i := i) gp (by rw [hg]; exact Nat.gcd_dvd_left _ _)
  obtain ⟨b1, b2⟩ := fdv_g (i := j) gp (by rw [hg]; exact Nat.gcd_dvd_right _ _)
  unfold nT nB com
  rw [← hg]
  have key : ∀ x y : Int, x * g = i → y * g = j → x * j = i * y := fun x y h1 h2 => by rw [← h1, ← h2]; grind
  split
  · exact key _ _ a1 b1
  · rw [a2, b2, Int.neg_mul, Int.mul_neg, key _ _ a1 b1]
/-- the number x / M -/
def Vl (M x : Int) (d : D) : Prop := ∃ p q, Nm d p q ∧ Low p q ∧ p * M = x * q
/-- .. an integer where it is whole -/
def PVl (M x : Int) (d : D) : Prop := ∃ p q, Low p q ∧ p * M = x * q ∧ ((d = .int p ∧ q = 1) ∨ (d = ra p q ∧ q ≠ 1))
theorem PVl.vl {M x : Int} {d : D} (h : PVl M x d) : Vl M x d := by
  obtain ⟨p, q, lo, e, h⟩ := h
  exact ⟨p, q, h.imp (fun z => z) (fun z => z.1), lo, e⟩
theorem low_dvd {M x p q : Int} (lo : Low p q) (hM : 0 < M) (e : p * M = x * q) : ∃ c, 0 < c ∧ M = q * c ∧ x = p * c := by
  have h1 : q ∣ p * M := ⟨x, by rw [e, Int.mul_comm]⟩
  have h2 : q.natAbs ∣ p.natAbs * M.natAbs := by rw [← Int.natAbs_mul]; exact Int.natAbs_dvd_natAbs.mpr h1
  have h3 : q.natAbs ∣ M.natAbs := Nat.Coprime.dvd_of_dvd_mul_left (by rw [Nat.coprime_comm]; exact lo.2) h2
  obtain ⟨c, hc⟩ := Int.natAbs_dvd_natAbs.mp h3
  have hq := lo.1
  have cp : 0 < c := by
    rcases Int.lt_trichotomy c 0 with z | z | z
    · have : q * c < 0 := Int.mul_neg_of_pos_of_neg hq z
      omega
    · rw [z] at hc; simp at hc; omega
    · exact z
  refine ⟨c, cp, hc, ?_⟩
  have : q * x = q * (p * c) := by rw [Int.mul_comm q x, ← e, hc]; grind
  exact (Int.eq_of_mul_eq_mul_left (by omega) this)
theorem vl_sz {M x p q : Int} {j k : Nat} (lo : Low p q) (hM : 0 < M) (e : p * M = x * q) (sM : Sz j M) (sx : Sz k x) : Sz k p ∧ Sz j q := by
  obtain ⟨c, cp, h1, h2⟩ := low_dvd lo hM e
  have c1 : 1 ≤ c.natAbs := by omega
  constructor
  · refine Nat.lt_of_le_of_lt ?_ sx
    rw [h2, Int.natAbs_mul]
    exact Nat.le_mul_of_pos_right _ c1
  · refine Nat.lt_of_le_of_lt ?_ sM
    rw [h1, Int.natAbs_mul]
    exact Nat.le_mul_of_pos_right _ c1
theorem vl_int {M p : Int} : Vl M (p * M) (.int p) := ⟨p, 1, .inl ⟨rfl, rfl⟩, low_one p, by rw [Int.mul_one]⟩
theorem vl_mk {M x t b : Int} (hb : b ≠ 0) (e : t * M = x * b) : Vl M x (ra (nT t b) (nB t b)) := by
  obtain ⟨lo, _, _⟩ := low_of (i := t) hb
  refine ⟨_, _, .inr rfl, lo, ?_⟩
  have h := nTB (i := t) hb
  have : b * (nT t b * M) = b * (x * nB t b) := by
    calc b * (nT t b * M) = (nT t b * b) * M := by grind
      _ = (t * M) * nB t b := by rw [h]; grind
      _ = b * (x * nB t b) := by rw [e]; grind
  exact Int.eq_of_mul_eq_mul_left hb this
theorem gbi {S : Store} {ot rt : OTab} {g : D → D → Store → Lk.R D} {i j : Int} : gBinX ot rt g (.int i) (.int j) S = g (.int i) (.int j) S := rfl
theorem sub_vl {S : Store} {M x y : Int} {d d' : D} (hM : 0 < M) (sM : Sz 100 M) (sx : Sz 100 x) (sy : Sz 100 y) (h : Vl M x d) (h' : Vl M y d') : ∃ d'', gBinX tSub rSub Lk.gSub d d' S = .ok d'' S ∧ Vl M (x - y) d'' := by
  obtain ⟨p, q, n, lo, e⟩ := h
  obtain ⟨p', q', n', lo', e'⟩ := h'
  obtain ⟨s1, s2⟩ := vl_sz lo hM e sM sx
  obtain ⟨s3, s4⟩ := vl_sz lo' hM e' sM sy
  have u : ∀ {i : Int}, Sz 100 i → Sz 300 i := fun h => h.mono (by decide)
  have hb : q * q' ≠ 0 := Int.mul_ne_zero lo.ne lo'.ne
  have ev : (p * q' - p' * q) * M = (x - y) * (q * q') := by
    calc (p * q' - p' * q) * M = (p * M) * q' - (p' * M) * q := by grind
      _ = (x - y) * (q * q') := by rw [e, e']; grind
  rcases n with ⟨rfl, rfl⟩ | rfl
  · rcases n' with ⟨rfl, rfl⟩ | rfl
    · refine ⟨.int (p - p'), by rw [gbi]; rfl, p - p', 1, .inl ⟨rfl, rfl⟩, low_one _, ?_⟩
      rw [Int.mul_one] at e e' ⊢
      rw [Int.sub_mul, e, e']
    · refine ⟨_, gbr (g := Lk.gSub) rSub_r (rsub_ok (S := S) lo' (u s3) (u s4) (u s1)), ?_⟩
      refine vl_mk (by rw [Int.mul_one]; exact lo'.ne) ?_
      calc (-p' * 1 + p * q') * M = (p * q' - p' * 1) * M := by grind
        _ = (x - y) * (q' * 1) := by rw [ev]; grind
  · exact ⟨_, gb (g := Lk.gSub) n' tSub_r (sub_ok (S := S) n' (u s1) (u s2) (u s3) (u s4) lo.ne lo'.ne), vl_mk hb ev⟩
theorem fmd_p {i j : Int} (h : 0 < j) : fmd i j = i % j := if_pos h
theorem is_raN {S : Store} {p q : Int} : gIsi cs [.own "Ratio"] (ra p q) S = .ok (.bl true) S := by
  have := (gI_any (kn_rat S [.int p, .int q])).2.2
  rwa [show isR (.ins "Ratio" [.int p, .int q]) = true by simp [isR]] at this
theorem plain_ok {S : Store} {d : D} {M x : Int} (h : Vl M x d) : ∃ d', f_plain [d] S = .ok d' S ∧ PVl M x d' := by
  obtain ⟨p, q, n, lo, e⟩ := h
  have g1 := n.top (S := S)
  have g2 := n.bot (S := S)
  have cl : ∀ i : Int, (D.int i).cl S.length = true := fun i => by simp [D.cl]
  unfold f_plain mDef b_plain
  by_cases hq : q = 1
  · have t0 : decide (q = 1) = true := decide_eq_true hq
    refine ⟨.int p, ?_, p, q, lo, e, .inl ⟨rfl, hq⟩⟩
    simp only [mSeq, RS.seq, mIfS, mTest, mSet, mRet, mVar, mC, mNil, mCons, Lk.m1, Lk.m2, mB, mAnd, mOr, mNot, mAndT, mOrT, mNotT, mIf, mAsg, mNext, mCall, R.bind, R.bindS, R.nxt, asB, gSub', mTup, mLst, List.getElem?_cons_succ, List.getElem?_cons_zero, List.getElem?_nil, List.set_cons_succ, List.set_cons_zero, List.map_cons, List.map_nil, List.cons_append, List.nil_append, List.length_cons, List.length_nil, List.replicate, Lk.gIx, Lk.gAdd, Lk.gSub, Lk.gMul, Lk.gDiv, Lk.gMod, gInt, gCmp, gNeg, gAbs, gGcd, gLen, List.length_map, Lk.listOf, stIx, if_true, if_false, Bool.false_eq_true, reduceIte, Nat.reduceAdd, Nat.reduceSub, Nat.zero_add, eqz_int, pow1010, pow1018, pow1019, Int.reduceMul, Int.reduceAdd, ix40, ix41, ix42, ix43, at40, at41, at42, at43, and_true, true_and, and_self, ne_eq, not_false_eq_true, decide_true, decide_false, decide_eq_true_eq, Bool.and_true, Bool.true_and, mFor, iSeq, srcOf, vals, forGo_n, forGo_c, gSet, mRaise1, mSetF, setF, lim_le, Nat.reduceLeDiff, Bool.not_false, Bool.not_true, Nat.lt_irrefl, List.length_append, List.append_assoc, g1, g2, t0]
    exact gc_self
  · have t0 : decide (q = 1) = false := decide_eq_false hq
    refine ⟨d, ?_, p, q, lo, e, .inr ⟨?_, hq⟩⟩
    · simp only [mSeq, RS.seq, mIfS, mTest, mSet, mRet, mVar, mC, mNil, mCons, Lk.m1, Lk.m2, mB, mAnd, mOr, mNot, mAndT, mOrT, mNotT, mIf, mAsg, mNext, mCall, R.bind, R.bindS, R.nxt, asB, gSub', mTup, mLst, List.getElem?_cons_succ, List.getElem?_cons_zero, List.getElem?_nil, List.set_cons_succ, List.set_cons_zero, List.map_cons, List.map_nil, List.cons_append, List.nil_append, List.length_cons, List.length_nil, List.replicate, Lk.gIx, Lk.gAdd, Lk.gSub, Lk.gMul, Lk.gDiv, Lk.gMod, gInt, gCmp, gNeg, gAbs, gGcd, gLen, List.length_map, Lk.listOf, stIx, if_true, if_false, Bool.false_eq_true, reduceIte, Nat.reduceAdd, Nat.reduceSub, Nat.zero_add, eqz_int, pow1010, pow1018, pow1019, Int.reduceMul, Int.reduceAdd, ix40, ix41, ix42, ix43, at40, at41, at42, at43, and_true, true_and, and_self, ne_eq, not_false_eq_true, decide_true, decide_false, decide_eq_true_eq, Bool.and_true, Bool.true_and, mFor, iSeq, srcOf, vals, forGo_n, forGo_c, gSet, mRaise1, mSetF, setF, lim_le, Nat.reduceLeDiff, Bool.not_false, Bool.not_true, Nat.lt_irrefl, List.length_append, List.append_assoc, g1, g2, t0]
      exact gc_self
    · rcases n with ⟨_, z⟩ | z
      · exact absurd z hq
      · exact z
theorem rest_ok {S : Store} {p q b : Int} (hq : q ≠ 0) (hb : b ≠ 0) (s2 : Sz 300 q) (s3 : Sz 300 b) : f_Ratio_rest [ra p q, .int b] S = .ok (ra (nT (fmd p (q * b)) q) (nB (fmd p (q * b)) q)) S := by
  have m1 := mulok s2 s3
  have n1 : q * b ≠ 0 := Int.mul_ne_zero hq hb
  have e := mk (S := S) (t := fmd p (q * b)) (b := q) hq (s2.mono (by decide))
  unfold f_Ratio_rest mDef b_Ratio_rest
  simp only [mSeq, RS.seq, mIfS, mTest, mSet, mRet, mVar, mC, mNil, mCons, Lk.m1, Lk.m2, mB, mAnd, mOr, mNot, mAndT, mOrT, mNotT, mIf, mAsg, mNext, mCall, R.bind, R.bindS, R.nxt, asB, gSub', mTup, mLst, List.getElem?_cons_succ, List.getElem?_cons_zero, List.getElem?_nil, List.set_cons_succ, List.set_cons_zero, List.map_cons, List.map_nil, List.cons_append, List.nil_append, List.length_cons, List.length_nil, List.replicate, Lk.gIx, Lk.gAdd, Lk.gSub, Lk.gMul, Lk.gDiv, Lk.gMod, gInt, gCmp, gNeg, gAbs, gGcd, gLen, List.length_map, Lk.listOf, stIx, if_true, if_false, Bool.false_eq_true, reduceIte, Nat.reduceAdd, Nat.reduceSub, Nat.zero_add, eqz_int, pow1010, pow1018, pow1019, Int.reduceMul, Int.reduceAdd, ix40, ix41, ix42, ix43, at40, at41, at42, at43, and_true, true_and, and_self, ne_eq, not_false_eq_true, decide_true, decide_false, decide_eq_true_eq, Bool.and_true, Bool.true_and, mFor, iSeq, srcOf, vals, forGo_n, forGo_c, gSet, mRaise1, mSetF, setF, lim_le, Nat.reduceLeDiff, Bool.not_false, Bool.not_true, Nat.lt_irrefl, List.length_append, List.append_assoc, mFld, fl_top, fl_bot, m1, n1, mMake, e]
  exact gc_self
theorem restof_ok {S : Store} {d : D} {M x b : Int} (hM : 0 < M) (hb : 0 < b) (sM : Sz 100 M) (sb : Sz 100 b) (h : Vl M x d) : ∃ d', f_rest_of [d, .int b] S = .ok d' S ∧ PVl M (x % (b * M)) d' := by
  obtain ⟨p, q, n, lo, e⟩ := h
  have hq := lo.1
  rcases n with ⟨rfl, rfl⟩ | rfl
  · have g1 := (gI_any (kn_int S p)).2.2
    simp only [isR] at g1
    have b0 : b ≠ 0 := by omega
    refine ⟨.int (p % b), ?_, p % b, 1, low_one _, ?_, .inl ⟨rfl, rfl⟩⟩
    · have f := fmd_p (i := p) hb
      unfold f_rest_of mDef b_rest_of
      simp only [mSeq, RS.seq, mIfS, mTest, mSet, mRet, mVar, mC, mNil, mCons, Lk.m1, Lk.m2, mB, mAnd, mOr, mNot, mAndT, mOrT, mNotT, mIf, mAsg, mNext, mCall, R.bind, R.bindS, R.nxt, asB, gSub', mTup, mLst, List.getElem?_cons_succ, List.getElem?_cons_zero, List.getElem?_nil, List.set_cons_succ, List.set_cons_zero, List.map_cons, List.map_nil, List.cons_append, List.nil_append, List.length_cons, List.length_nil, List.replicate, Lk.gIx, Lk.gAdd, Lk.gSub, Lk.gMul, Lk.gDiv, Lk.gMod, gInt, gCmp, gNeg, gAbs, gGcd, gLen, List.length_map, Lk.listOf, stIx, if_true, if_false, Bool.false_eq_true, reduceIte, Nat.reduceAdd, Nat.reduceSub, Nat.zero_add, eqz_int, pow1010, pow1018, pow1019, Int.reduceMul, Int.reduceAdd, ix40, ix41, ix42, ix43, at40, at41, at42, at43, and_true, true_and, and_self, ne_eq, not_false_eq_true, decide_true, decide_false, decide_eq_true_eq, Bool.and_true, Bool.true_and, mFor, iSeq, srcOf, vals, forGo_n, forGo_c, gSet, mRaise1, mSetF, setF, lim_le, Nat.reduceLeDiff, Bool.not_false, Bool.not_true, Nat.lt_irrefl, List.length_append, List.append_assoc, g1, b0, f]
      exact gc_self
    · rw [Int.mul_one] at e ⊢
      rw [← e, Int.mul_comm b M, Int.mul_comm p M, Int.mul_emod_mul_of_pos _ _ hM, Int.mul_comm]
  · have g1 := is_raN (S := S) (p := p) (q := q)
    have sq := (vl_sz (j := 100) (k := (x.natAbs + 1)) lo hM e sM (by unfold Sz; exact Nat.lt_of_lt_of_le (Nat.lt_succ_self _) (Nat.le_of_lt Nat.lt_two_pow_self))).2
    have r := rest_ok (S := S) (p := p) lo.ne (show b ≠ 0 by omega) (sq.mono (by decide)) (sb.mono (by decide))
    have r' : f_Ratio_rest [.ins "Ratio" [.int p, .int q], .int b] S = .ok (ra (nT (fmd p (q * b)) q) (nB (fmd p (q * b)) q)) S := r
    have qb : 0 < q * b := Int.mul_pos hq hb
    have vv : Vl M (x % (b * M)) (ra (nT (fmd p (q * b)) q) (nB (fmd p (q * b)) q)) := by
      refine vl_mk lo.ne ?_
      rw [fmd_p qb]
      have h1 : (p * M) % (q * b * M) = (p % (q * b)) * M := by rw [Int.mul_comm p M, Int.mul_comm (q * b) M, Int.mul_emod_mul_of_pos _ _ hM, Int.mul_comm]
      have h2 : (x * q) % (q * b * M) = (x % (b * M)) * q := by rw [Int.mul_comm x q, Int.mul_assoc q b M, Int.mul_emod_mul_of_pos _ _ hq, Int.mul_comm]
      rw [← h1, e, h2]
    obtain ⟨d', e', pv⟩ := plain_ok (S := S) vv
    refine ⟨d', ?_, pv⟩
    have g1' : gIsi cs [.own "Ratio"] (.ins "Ratio" [.int p, .int q]) S = .ok (.bl true) S := g1
    unfold f_rest_of mDef b_rest_of ra
    simp only [mSeq, RS.seq, mIfS, mTest, mSet, mRet, mVar, mC, mNil, mCons, Lk.m1, Lk.m2, mB, mAnd, mOr, mNot, mAndT, mOrT, mNotT, mIf, mAsg, mNext, mCall, R.bind, R.bindS, R.nxt, asB, gSub', mTup, mLst, List.getElem?_cons_succ, List.getElem?_cons_zero, List.getElem?_nil, List.set_cons_succ, List.set_cons_zero, List.map_cons, List.map_nil, List.cons_append, List.nil_append, List.length_cons, List.length_nil, List.replicate, Lk.gIx, Lk.gAdd, Lk.gSub, Lk.gMul, Lk.gDiv, Lk.gMod, gInt, gCmp, gNeg, gAbs, gGcd, gLen, List.length_map, Lk.listOf, stIx, if_true, if_false, Bool.false_eq_true, reduceIte, Nat.reduceAdd, Nat.reduceSub, Nat.zero_add, eqz_int, pow1010, pow1018, pow1019, Int.reduceMul, Int.reduceAdd, ix40, ix41, ix42, ix43, at40, at41, at42, at43, and_true, true_and, and_self, ne_eq, not_false_eq_true, decide_true, decide_false, decide_eq_true_eq, Bool.and_true, Bool.true_and, mFor, iSeq, srcOf, vals, forGo_n, forGo_c, gSet, mRaise1, mSetF, setF, lim_le, Nat.reduceLeDiff, Bool.not_false, Bool.not_true, Nat.lt_irrefl, List.length_append, List.append_assoc, g1', mMeth, r', e']
    exact gc_self
theorem low_add {p q l : Int} (lo : Low p q) : Low (p + l * q) q := by
  refine ⟨lo.1, ?_⟩
  have h : Nat.gcd (p + l * q).natAbs q.natAbs = Nat.gcd p.natAbs q.natAbs := by
    have e1 : Int.gcd (p + l * q) q = Int.gcd p q := by simp [Int.gcd_add_mul_right_left]
    exact e1
  rw [h, lo.2]
theorem add_vl {S : Store} {M x l : Int} {d : D} (hM : 0 < M) (sM : Sz 100 M) (sx : Sz 100 x) (sl : Sz 100 l) (h : PVl M x d) : ∃ d'', gBinX tAdd rAdd Lk.gAdd (.int l) d S = .ok d'' S ∧ PVl M (x + l * M) d'' := by
  obtain ⟨p, q, lo, e, n⟩ := h
  obtain ⟨s1, s2⟩ := vl_sz lo hM e sM sx
  have u : ∀ {i : Int}, Sz 100 i → Sz 300 i := fun h => h.mono (by decide)
  have ev : (p + l * q) * M = (x + l * M) * q := by
    calc (p + l * q) * M = p * M + l * M * q := by grind
      _ = (x + l * M) * q := by rw [e]; grind
  rcases n with ⟨rfl, hq⟩ | ⟨rfl, hq⟩
  · refine ⟨.int (l + p), by rw [gbi]; rfl, l + p, 1, low_one _, ?_, .inl ⟨rfl, rfl⟩⟩
    rw [hq] at ev
    rw [Int.add_comm l p, ← ev]
    grind
  · have r := gbr (ot := tAdd) (g := Lk.gAdd) rAdd_r (radd_ok (S := S) (u s1) (u s2) (u sl) lo.ne)
    have la := low_add (l := l) lo
    rw [Int.mul_one, Int.mul_one, la.nT, la.nB] at r
    exact ⟨_, r, p + l * q, q, la, ev, .inr ⟨rfl, hq⟩⟩
theorem below_ok {S : Store} {d d' : D} {p q p' q' : Int} (h0 : Nm d p q) (h : Nm d' p' q') (s1 : Sz 300 p) (s2 : Sz 300 q) (s3 : Sz 300 p') (s4 : Sz 300 q') : f_below [d, d'] S = .ok (.bl (decide (p * q' < p' * q))) S := by
  have m1 := mulok s1 s4
  have m2 := mulok s3 s2
  have g0 := h0.top (S := S)
  have g1 := h0.bot (S := S)
  have g2 := h.top (S := S)
  have g3 := h.bot (S := S)
  unfold f_below mDef b_below
  simp only [mSeq, RS.seq, mIfS, mTest, mSet, mRet, mVar, mC, mNil, mCons, Lk.m1, Lk.m2, mB, mAnd, mOr, mNot, mAndT, mOrT, mNotT, mIf, mAsg, mNext, mCall, R.bind, R.bindS, R.nxt, asB, gSub', mTup, mLst, List.getElem?_cons_succ, List.getElem?_cons_zero, List.getElem?_nil, List.set_cons_succ, List.set_cons_zero, List.map_cons, List.map_nil, List.cons_append, List.nil_append, List.length_cons, List.length_nil, List.replicate, Lk.gIx, Lk.gAdd, Lk.gSub, Lk.gMul, Lk.gDiv, Lk.gMod, gInt, gCmp, gNeg, gAbs, gGcd, gLen, List.length_map, Lk.listOf, stIx, if_true, if_false, Bool.false_eq_true, reduceIte, Nat.reduceAdd, Nat.reduceSub, Nat.zero_add, eqz_int, pow1010, pow1018, pow1019, Int.reduceMul, Int.reduceAdd, ix40, ix41, ix42, ix43, at40, at41, at42, at43, and_true, true_and, and_self, ne_eq, not_false_eq_true, decide_true, decide_false, decide_eq_true_eq, Bool.and_true, Bool.true_and, mFor, iSeq, srcOf, vals, forGo_n, forGo_c, gSet, mRaise1, mSetF, setF, lim_le, Nat.reduceLeDiff, Bool.not_false, Bool.not_true, Nat.lt_irrefl, List.length_append, List.append_assoc, g0, g1, g2, g3, m1, m2]
  exact gc_self
/-- a whole number below one in parts, and the other way -/
theorem cmp_lt {M x l p q : Int} (hM : 0 < M) (lo : Low p q) (e : p * M = x * q) : (l * q < p ↔ l * M < x) ∧ (p < l * q ↔ x < l * M) := by
  have hq := lo.1
  have h1 : (l * q < p) ↔ (l * q * M < p * M) := (Int.mul_lt_mul_right hM).symm
  have h2 : (p < l * q) ↔ (p * M < l * q * M) := (Int.mul_lt_mul_right hM).symm
  have h3 : (l * M < x) ↔ (l * M * q < x * q) := (Int.mul_lt_mul_right hq).symm
  have h4 : (x < l * M) ↔ (x * q < l * M * q) := (Int.mul_lt_mul_right hq).symm
  have c : l * q * M = l * M * q := by grind
  rw [h1, h2, h3, h4, e, c]
  exact ⟨Iff.rfl, Iff.rfl⟩
theorem below_l {S : Store} {M x l : Int} {d : D} (hM : 0 < M) (sM : Sz 100 M) (sx : Sz 100 x) (sl : Sz 100 l) (h : Vl M x d) : f_below [d, .int l] S = .ok (.bl (decide (x < l * M))) S ∧ f_below [.int l, d] S = .ok (.bl (decide (l * M < x))) S := by
  obtain ⟨p, q, n, lo, e⟩ := h
  obtain ⟨s1, s2⟩ := vl_sz lo hM e sM sx
  have u : ∀ {i : Int}, Sz 100 i → Sz 300 i := fun h => h.mono (by decide)
  have o : Sz 300 (1 : Int) := .of 1 (by decide)
  have a := below_ok (S := S) n (.inl ⟨rfl, rfl⟩ : Nm (.int l) l 1) (u s1) (u s2) (u sl) o
  have b := below_ok (S := S) (.inl ⟨rfl, rfl⟩ : Nm (.int l) l 1) n (u sl) o (u s1) (u s2)
  rw [Int.mul_one] at a b
  obtain ⟨c1, c2⟩ := cmp_lt (l := l) hM lo e
  rw [a, b]
  exact ⟨by rw [decide_eq_decide.mpr c2], by rw [decide_eq_decide.mpr c1]⟩
theorem moment_ok {S : Store} {M x b : Int} {d : D} (hM : 0 < M) (sM : Sz 100 M) (sx : Sz 100 x) (sb : Sz 100 b) (h : Vl M x d) : f_is_moment [.int b, d] S = .ok (.bl (decide (0 ≤ x ∧ x < b * M))) S := by
  have g1 : f_is_number [d] S = .ok (.bl true) S := by obtain ⟨p, q, n, _⟩ := h; exact n.is
  have g2 := (below_l (S := S) (l := 0) hM sM sx (.of 0 (by decide)) h).1
  have g3 := (below_l (S := S) (l := b) hM sM sx sb h).1
  rw [Int.zero_mul] at g2
  unfold f_is_moment mDef b_is_moment
  by_cases c1 : x < 0
  · have e : decide (0 ≤ x ∧ x < b * M) = false := decide_eq_false (by omega)
    rw [decide_eq_true c1] at g2
    rw [e]
    simp only [mSeq, RS.seq, mIfS, mTest, mSet, mRet, mVar, mC, mNil, mCons, Lk.m1, Lk.m2, mB, mAnd, mOr, mNot, mAndT, mOrT, mNotT, mIf, mAsg, mNext, mCall, R.bind, R.bindS, R.nxt, asB, gSub', mTup, mLst, List.getElem?_cons_succ, List.getElem?_cons_zero, List.getElem?_nil, List.set_cons_succ, List.set_cons_zero, List.map_cons, List.map_nil, List.cons_append, List.nil_append, List.length_cons, List.length_nil, List.replicate, Lk.gIx, Lk.gAdd, Lk.gSub, Lk.gMul, Lk.gDiv, Lk.gMod, gInt, gCmp, gNeg, gAbs, gGcd, gLen, List.length_map, Lk.listOf, stIx, if_true, if_false, Bool.false_eq_true, reduceIte, Nat.reduceAdd, Nat.reduceSub, Nat.zero_add, eqz_int, pow1010, pow1018, pow1019, Int.reduceMul, Int.reduceAdd, ix40, ix41, ix42, ix43, at40, at41, at42, at43, and_true, true_and, and_self, ne_eq, not_false_eq_true, decide_true, decide_false, decide_eq_true_eq, Bool.and_true, Bool.true_and, mFor, iSeq, srcOf, vals, forGo_n, forGo_c, gSet, mRaise1, mSetF, setF, lim_le, Nat.reduceLeDiff, Bool.not_false, Bool.not_true, Nat.lt_irrefl, List.length_append, List.append_assoc, g1, g2]
    exact gc_self
  · rw [decide_eq_false c1] at g2
    have e : decide (0 ≤ x ∧ x < b * M) = decide (x < b * M) := decide_eq_decide.mpr ⟨fun z => z.2, fun z => ⟨by omega, z⟩⟩
    rw [e]
    simp only [mSeq, RS.seq, mIfS, mTest, mSet, mRet, mVar, mC, mNil, mCons, Lk.m1, Lk.m2, mB, mAnd, mOr, mNot, mAndT, mOrT, mNotT, mIf, mAsg, mNext, mCall, R.bind, R.bindS, R.nxt, asB, gSub', mTup, mLst, List.getElem?_cons_succ, List.getElem?_cons_zero, List.getElem?_nil, List.set_cons_succ, List.set_cons_zero, List.map_cons, List.map_nil, List.cons_append, List.nil_append, List.length_cons, List.length_nil, List.replicate, Lk.gIx, Lk.gAdd, Lk.gSub, Lk.gMul, Lk.gDiv, Lk.gMod, gInt, gCmp, gNeg, gAbs, gGcd, gLen, List.length_map, Lk.listOf, stIx, if_true, if_false, Bool.false_eq_true, reduceIte, Nat.reduceAdd, Nat.reduceSub, Nat.zero_add, eqz_int, pow1010, pow1018, pow1019, Int.reduceMul, Int.reduceAdd, ix40, ix41, ix42, ix43, at40, at41, at42, at43, and_true, true_and, and_self, ne_eq, not_false_eq_true, decide_true, decide_false, decide_eq_true_eq, Bool.and_true, Bool.true_and, mFor, iSeq, srcOf, vals, forGo_n, forGo_c, gSet, mRaise1, mSetF, setF, lim_le, Nat.reduceLeDiff, Bool.not_false, Bool.not_true, Nat.lt_irrefl, List.length_append, List.append_assoc, g1, g2, g3]
    exact gc_self
theorem Odd.notR {S : Store} {d : D} (h : Odd S d) (hr : ∀ C xs, d ≠ .ins C xs) : isR d = false := by
  cases h with
  | rt p q => exact absurd rfl (hr _ _)
  | _ => rfl
theorem moment_odd {S : Store} {b : Int} {d : D} (h : Odd S d) (hr : ∀ C xs, d ≠ .ins C xs) : f_is_moment [.int b, d] S = .ok (.bl false) S := by
  have g1 := num_no h.kn h.notInt (h.notR hr)
  unfold f_is_moment mDef b_is_moment
  simp only [mSeq, RS.seq, mIfS, mTest, mSet, mRet, mVar, mC, mNil, mCons, Lk.m1, Lk.m2, mB, mAnd, mOr, mNot, mAndT, mOrT, mNotT, mIf, mAsg, mNext, mCall, R.bind, R.bindS, R.nxt, asB, gSub', mTup, mLst, List.getElem?_cons_succ, List.getElem?_cons_zero, List.getElem?_nil, List.set_cons_succ, List.set_cons_zero, List.map_cons, List.map_nil, List.cons_append, List.nil_append, List.length_cons, List.length_nil, List.replicate, Lk.gIx, Lk.gAdd, Lk.gSub, Lk.gMul, Lk.gDiv, Lk.gMod, gInt, gCmp, gNeg, gAbs, gGcd, gLen, List.length_map, Lk.listOf, stIx, if_true, if_false, Bool.false_eq_true, reduceIte, Nat.reduceAdd, Nat.reduceSub, Nat.zero_add, eqz_int, pow1010, pow1018, pow1019, Int.reduceMul, Int.reduceAdd, ix40, ix41, ix42, ix43, at40, at41, at42, at43, and_true, true_and, and_self, ne_eq, not_false_eq_true, decide_true, decide_false, decide_eq_true_eq, Bool.and_true, Bool.true_and, mFor, iSeq, srcOf, vals, forGo_n, forGo_c, gSet, mRaise1, mSetF, setF, lim_le, Nat.reduceLeDiff, Bool.not_false, Bool.not_true, Nat.lt_irrefl, List.length_append, List.append_assoc, g1]
  exact gc_self
theorem handed_ok {S : Store} {n : Nat} {k M x : Int} (h : Src S n k) (hk : k < 2 ^ 40) (hM : 0 < M) (sM : Sz 100 M) : ∃ d S', f__law_handed [.ref n, .int x, .int M] S = .ok d S' ∧ Vl M x d ∧ Src S' n (k + 1) ∧ Ch S n S' := by
  have M0 : M ≠ 0 := by omega
  have f1 := fmd_p (i := x) hM
  have f2 : fdv x M = x / M := if_pos hM
  have kM : bits M < 9000 := by
    have := bits_lt (i := M) 100 sM (by decide)
    omega
  have em : ∀ S, mkOf "Ratio" f_Ratio___init__ [.int x, .int M] S = .ok (ra (nT x M) (nB x M)) S := fun S => mk M0 (sM.mono (by decide))
  have cr : ∀ S : Store, (ra (nT x M) (nB x M)).cl S.length = true := fun S => by simp [ra, D.cl, clL]
  have ci : ∀ S : Store, ∀ i : Int, (D.int i).cl S.length = true := fun S i => by simp [D.cl]
  have vr : Vl M x (ra (nT x M) (nB x M)) := vl_mk M0 rfl
  unfold f__law_handed mDef b__law_handed
  by_cases c : x % M = 0
  · have t0 : decide (x % M = 0) = true := decide_eq_true c
    obtain ⟨r, S1, r1, r2, e1, s1, u1⟩ := draw h (m := 4) (by omega) (by decide) (by decide +kernel)
    by_cases c2 : 0 < r
    · refine ⟨.int (x / M), S1, ?_, ?_, s1, u1⟩
      · simp only [mSeq, RS.seq, mIfS, mTest, mSet, mRet, mVar, mC, mNil, mCons, Lk.m1, Lk.m2, mB, mAnd, mOr, mNot, mAndT, mOrT, mNotT, mIf, mAsg, mNext, mCall, R.bind, R.bindS, R.nxt, asB, gSub', mTup, mLst, List.getElem?_cons_succ, List.getElem?_cons_zero, List.getElem?_nil, List.set_cons_succ, List.set_cons_zero, List.map_cons, List.map_nil, List.cons_append, List.nil_append, List.length_cons, List.length_nil, List.replicate, Lk.gIx, Lk.gAdd, Lk.gSub, Lk.gMul, Lk.gDiv, Lk.gMod, gInt, gCmp, gNeg, gAbs, gGcd, gLen, List.length_map, Lk.listOf, stIx, if_true, if_false, Bool.false_eq_true, reduceIte, Nat.reduceAdd, Nat.reduceSub, Nat.zero_add, eqz_int, pow1010, pow1018, pow1019, Int.reduceMul, Int.reduceAdd, ix40, ix41, ix42, ix43, at40, at41, at42, at43, and_true, true_and, and_self, ne_eq, not_false_eq_true, decide_true, decide_false, decide_eq_true_eq, Bool.and_true, Bool.true_and, mFor, iSeq, srcOf, vals, forGo_n, forGo_c, gSet, mRaise1, mSetF, setF, lim_le, Nat.reduceLeDiff, Bool.not_false, Bool.not_true, Nat.lt_irrefl, List.length_append, List.append_assoc, M0, f1, t0, e1, c2, f2, kM]
        exact gc_len u1.len
      · have : x = x / M * M := by have := Int.mul_ediv_add_emod x M; rw [c] at this; grind
        have v := vl_int (M := M) (p := x / M)
        rw [← this] at v
        exact v
    · refine ⟨_, S1, ?_, vr, s1, u1⟩
      simp only [mSeq, RS.seq, mIfS, mTest, mSet, mRet, mVar, mC, mNil, mCons, Lk.m1, Lk.m2, mB, mAnd, mOr, mNot, mAndT, mOrT, mNotT, mIf, mAsg, mNext, mCall, R.bind, R.bindS, R.nxt, asB, gSub', mTup, mLst, List.getElem?_cons_succ, List.getElem?_cons_zero, List.getElem?_nil, List.set_cons_succ, List.set_cons_zero, List.map_cons, List.map_nil, List.cons_append, List.nil_append, List.length_cons, List.length_nil, List.replicate, Lk.gIx, Lk.gAdd, Lk.gSub, Lk.gMul, Lk.gDiv, Lk.gMod, gInt, gCmp, gNeg, gAbs, gGcd, gLen, List.length_map, Lk.listOf, stIx, if_true, if_false, Bool.false_eq_true, reduceIte, Nat.reduceAdd, Nat.reduceSub, Nat.zero_add, eqz_int, pow1010, pow1018, pow1019, Int.reduceMul, Int.reduceAdd, ix40, ix41, ix42, ix43, at40, at41, at42, at43, and_true, true_and, and_self, ne_eq, not_false_eq_true, decide_true, decide_false, decide_eq_true_eq, Bool.and_true, Bool.true_and, mFor, iSeq, srcOf, vals, forGo_n, forGo_c, gSet, mRaise1, mSetF, setF, lim_le, Nat.reduceLeDiff, Bool.not_false, Bool.not_true, Nat.lt_irrefl, List.length_append, List.append_assoc, M0, f1, t0, e1, c2, mMake, em]
      exact gc_len u1.len
  · have t0 : decide (x % M = 0) = false := decide_eq_false c
    refine ⟨_, S, ?_, vr, h.mono (by omega), ⟨S[n]?.getD (.lst []), ?_⟩⟩
    · simp only [mSeq, RS.seq, mIfS, mTest, mSet, mRet, mVar, mC, mNil, mCons, Lk.m1, Lk.m2, mB, mAnd, mOr, mNot, mAndT, mOrT, mNotT, mIf, mAsg, mNext, mCall, R.bind, R.bindS, R.nxt, asB, gSub', mTup, mLst, List.getElem?_cons_succ, List.getElem?_cons_zero, List.getElem?_nil, List.set_cons_succ, List.set_cons_zero, List.map_cons, List.map_nil, List.cons_append, List.nil_append, List.length_cons, List.length_nil, List.replicate, Lk.gIx, Lk.gAdd, Lk.gSub, Lk.gMul, Lk.gDiv, Lk.gMod, gInt, gCmp, gNeg, gAbs, gGcd, gLen, List.length_map, Lk.listOf, stIx, if_true, if_false, Bool.false_eq_true, reduceIte, Nat.reduceAdd, Nat.reduceSub, Nat.zero_add, eqz_int, pow1010, pow1018, pow1019, Int.reduceMul, Int.reduceAdd, ix40, ix41, ix42, ix43, at40, at41, at42, at43, and_true, true_and, and_self, ne_eq, not_false_eq_true, decide_true, decide_false, decide_eq_true_eq, Bool.and_true, Bool.true_and, mFor, iSeq, srcOf, vals, forGo_n, forGo_c, gSet, mRaise1, mSetF, setF, lim_le, Nat.reduceLeDiff, Bool.not_false, Bool.not_true, Nat.lt_irrefl, List.length_append, List.append_assoc, M0, f1, t0, mMake, em]
      exact gc_self
    · obtain ⟨a, b, c, d, h, _⟩ := h
      unfold Src4 at h
      rw [h]
      have hn := getlt h
      simp only [Option.getD_some]
      apply List.ext_getElem?
      intro i
      by_cases z : n = i
      · subst z; rw [h]; simp [hn]
      · rw [List.getElem?_set_ne z]
theorem last1 {α : Type} {l : List α} {a : α} : (l ++ [a])[l.length]? = some a := by simp
/-- the length of a span by moments in parts, and where it must end -/
def lnOf (M b : Int) (xs : List Int) : D → Int
  | .tup [.int i, .int j, .int lo, .int _] => (xs.getD j.toNat 0 - xs.getD i.toNat 0 - lo * M) % (b * M) + lo * M
  | _ => 0
def hiOf : D → Int
  | .tup [.int _, .int _, .int _, .int hi] => hi
  | _ => 0
def brk (M b : Int) (xs : List Int) : Nat → List D → Option Nat
  | _, [] => none
  | k, d :: ds => if hiOf d * M < lnOf M b xs d then some k else brk M b xs (k + 1) ds
/-- moments in parts, as handed in -/
def TV (M : Int) (xs : List Int) (ts : List D) : Prop := ts.length = xs.length ∧ ∀ (k : Nat) (x : Int), xs[k]? = some x → Sz 60 x ∧ ∃ t, ts[k]? = some t ∧ Vl M x t
structure Cx (M b : Int) (e : Nat) : Prop where
  hM : 0 < M
  sM : Sz 35 M
  b1 : 3 ≤ b
  b2 : b ≤ 1440
  e1 : 1 ≤ e
  e2 : e ≤ 24
variable {M b : Int} {e : Nat}
theorem Cx.sb (c : Cx M b e) : Sz 12 b := .of 1440 (by have := c.b1; have := c.b2; omega)
theorem Cx.sM' (c : Cx M b e) : Sz 100 M := c.sM.mono (by decide)
theorem Cx.sb' (c : Cx M b e) : Sz 100 b := c.sb.mono (by decide)
theorem atI_nat {l : List D} {i : Int} {d : D} (h0 : 0 ≤ i) (h : l[i.toNat]? = some d) : atI l i = some d := by
  have hl : i.toNat < l.length := by
    rcases Nat.lt_or_ge i.toNat l.length with z | z
    · exact z
    · rw [List.getElem?_eq_none z] at h; cases h
  have h2 : i < (l.length : Nat) := by omega
  unfold atI ixN
  simp [h0, h2]
  rw [List.getElem?_eq_getElem hl] at h
  exact Option.some.inj h
theorem getD_of {l : List Int} {k : Nat} {x : Int} (h : l[k]? = some x) : l.getD k 0 = x := by
  rw [List.getD_eq_getElem?_getD, h]; rfl
/-- one length -/
theorem ln_one {S : Store} {xs : List Int} {ts : List D} {d : D} (c : Cx M b e) (tv : TV M xs ts) (he : xs.length = e) (hs : spanB b (e : Nat) d = true) :
    ∃ i j lo hi ti tj y1 y2 r, d = .tup [.int i, .int j, .int lo, .int hi] ∧ Lk.gIx (.tup ts) (.int j) S = .ok tj S ∧ Lk.gIx (.tup ts) (.int i) S = .ok ti S ∧ gBinX tSub rSub Lk.gSub tj ti S = .ok y1 S ∧ gBinX tSub rSub Lk.gSub y1 (.int lo) S = .ok y2 S ∧
      ∃ y3, f_rest_of [y2, .int b] S = .ok y3 S ∧ gBinX tAdd rAdd Lk.gAdd (.int lo) y3 S = .ok r S ∧ PVl M (lnOf M b xs d) r := by
  obtain ⟨i, j, lo, hi, rfl⟩ := spanB_v4 hs
  simp only [spanB, decide_eq_true_eq] at hs
  have gi : xs[i.toNat]? = some xs[i.toNat] := List.getElem?_eq_getElem (by omega)
  have gj : xs[j.toNat]? = some xs[j.toNat] := List.getElem?_eq_getElem (by omega)
  obtain ⟨xi, hxi⟩ : ∃ x, xs[i.toNat]? = some x := ⟨_, gi⟩
  obtain ⟨xj, hxj⟩ : ∃ x, xs[j.toNat]? = some x := ⟨_, gj⟩
  obtain ⟨si, ti, hti, vi⟩ := tv.2 _ _ hxi
  obtain ⟨sj, tj, htj, vj⟩ := tv.2 _ _ hxj
  have ai := atI_nat (by omega) hti
  have aj := atI_nat (by omega) htj
  have sl : Sz 12 lo := .of 2880 (by omega)
  have slM : Sz 60 (lo * M) := (sl.mul c.sM).mono (by decide)
  have u : ∀ {k : Nat} {i : Int}, Sz k i → k ≤ 100 → Sz 100 i := fun h hk => h.mono hk
  obtain ⟨y1, e1, v1⟩ := sub_vl (S := S) c.hM c.sM' (u sj (by decide)) (u si (by decide)) vj vi
  obtain ⟨y2, e2, v2⟩ := sub_vl (S := S) c.hM c.sM' (u (sj.sub si) (by decide)) (u slM (by decide)) v1 (vl_int (p := lo))
  obtain ⟨y3, e3, v3⟩ := restof_ok (S := S) c.hM (show 0 < b by have := c.b1; omega) c.sM' c.sb' v2
  have bM : 0 < b * M := Int.mul_pos (by have := c.b1; omega) c.hM
  have sr : Sz 100 ((xj - xi - lo * M) % (b * M)) := by
    have h1 := Int.emod_nonneg (xj - xi - lo * M) (show b * M ≠ 0 by omega)
    have h2 := Int.emod_lt_of_pos (xj - xi - lo * M) bM
    have h3 : Sz 100 (b * M) := (c.sb.mul c.sM).mono (by decide)
    unfold Sz at h3 ⊢
    omega
  obtain ⟨r, e4, v4⟩ := add_vl (S := S) (l := lo) c.hM c.sM' sr (u sl (by decide)) v3
  refine ⟨i, j, lo, hi, ti, tj, y1, y2, r, rfl, ?_, ?_, e1, e2, y3, e3, e4, ?_⟩
  · simp only [Lk.gIx, Lk.listOf, aj]
  · simp only [Lk.gIx, Lk.listOf, ai]
  · show PVl M ((xs.getD j.toNat 0 - xs.getD i.toNat 0 - lo * M) % (b * M) + lo * M) r
    rw [getD_of hxi, getD_of hxj]
    exact v4
theorem iSeq_t {m : ME} {env : Lk.Env} {S : Store} {ds : List D} (h : m env S = .ok (.tup ds) S) : iSeq m env S = .ok (vals ds) S := by
  unfold iSeq
  rw [h]
  rfl
theorem reached_ok {S : Store} {xs : List Int} {ts ds : List D} (c : Cx M b e) (tv : TV M xs ts) (he : xs.length = e) (hs : ∀ d ∈ ds, spanB b (e : Nat) d = true) (hl : ds.length ≤ 60) :
    ∃ rs, f_reached [net b (e : Nat) ds, .tup ts] S = .ok (.ref S.length) (S ++ [.lst rs]) ∧ F2 (fun d r => PVl M (lnOf M b xs d) r) ds rs := by
  have ll : ([] : List D).length + ds.length ≤ lim := by
    have : lim = 16777216 := rfl
    simp
    omega
  obtain ⟨rs, key, f2⟩ := lc_gen (gd := (vals ds).gd) (g := .tp [2, 3, 4, 5]) (me := m2 (gBinX tAdd rAdd Lk.gAdd) (mVar 4) (mCall 2 f_rest_of (mCons (m2 (gBinX tSub rSub Lk.gSub) (m2 (gBinX tSub rSub Lk.gSub) (m2 gIx (mVar 1) (mVar 3)) (m2 gIx (mVar 1) (mVar 2))) (mVar 4)) (mCons (mFld flds "beat" (mVar 0)) mNil)))) (env := [some (net b (e : Nat) ds), some (.tup ts), none, none, none, none]) (S := S) (fun d r => PVl M (lnOf M b xs d) r) (fun _ => trivial) ds [] ll
    (fun d hd a => by
      obtain ⟨i, j, lo, hi, ti, tj, y1, y2, r, rfl, g1, g2, g3, g4, y3, g5, g6, v⟩ := ln_one (S := S ++ [.lst a]) c tv he (hs d hd)
      refine ⟨_, r, rfl, ?_, v⟩
      generalize hg : gBinX tSub rSub Lk.gSub = sb at g3 g4 ⊢
      generalize hg2 : gBinX tAdd rAdd Lk.gAdd = ad at g6 ⊢
      simp only [setL, Lk.m2, mVar, mCall, mCons, mNil, mFld, R.bind, List.set_cons_succ, List.set_cons_zero, List.getElem?_cons_succ, List.getElem?_cons_zero, g1, g2, g3, g4, fn_beat, List.length_cons, List.length_nil, Nat.zero_add, Nat.reduceAdd, if_true, g5, g6])
  refine ⟨rs, ?_, f2⟩
  have ei : iSeq (mFld flds "spans" (mVar 0)) [some (net b (e : Nat) ds), some (.tup ts), none, none, none, none] S = .ok (vals ds) S := iSeq_t (by
    simp only [mFld, mVar, R.bind, List.getElem?_cons_zero, fn_sp])
  have hl2 : mLc (iSeq (mFld flds "spans" (mVar 0))) (.tp [2, 3, 4, 5]) mYes (m2 (gBinX tAdd rAdd Lk.gAdd) (mVar 4) (mCall 2 f_rest_of (mCons (m2 (gBinX tSub rSub Lk.gSub) (m2 (gBinX tSub rSub Lk.gSub) (m2 gIx (mVar 1) (mVar 3)) (m2 gIx (mVar 1) (mVar 2))) (mVar 4)) (mCons (mFld flds "beat" (mVar 0)) mNil)))) [2, 3, 4, 5] [some (net b (e : Nat) ds), some (.tup ts), none, none, none, none] S = .ok (.ref S.length) (S ++ [.lst rs]) := by
    unfold mLc
    rw [ei]
    simp only [R.bind, wipeE, List.set_cons_succ, List.set_cons_zero]
    rw [show (vals ds).items = ds from rfl, key]
    simp
  unfold f_reached mDef b_reached
  generalize mLc _ _ _ _ _ = LC at hl2 ⊢
  simp only [mSeq, RS.seq, mIfS, mTest, mSet, mRet, mVar, mC, mNil, mCons, Lk.m1, Lk.m2, mB, mAnd, mOr, mNot, mAndT, mOrT, mNotT, mIf, mAsg, mNext, mCall, R.bind, R.bindS, R.nxt, asB, gSub', mTup, mLst, List.getElem?_cons_succ, List.getElem?_cons_zero, List.getElem?_nil, List.set_cons_succ, List.set_cons_zero, List.map_cons, List.map_nil, List.cons_append, List.nil_append, List.length_cons, List.length_nil, List.replicate, Lk.gIx, Lk.gAdd, Lk.gSub, Lk.gMul, Lk.gDiv, Lk.gMod, gInt, gCmp, gNeg, gAbs, gGcd, gLen, List.length_map, Lk.listOf, stIx, if_true, if_false, Bool.false_eq_true, reduceIte, Nat.reduceAdd, Nat.reduceSub, Nat.zero_add, eqz_int, pow1010, pow1018, pow1019, Int.reduceMul, Int.reduceAdd, ix40, ix41, ix42, ix43, at40, at41, at42, at43, and_true, true_and, and_self, ne_eq, not_false_eq_true, decide_true, decide_false, decide_eq_true_eq, Bool.and_true, Bool.true_and, mFor, iSeq, srcOf, vals, forGo_n, forGo_c, gSet, mRaise1, mSetF, setF, lim_le, Nat.reduceLeDiff, Bool.not_false, Bool.not_true, Nat.lt_irrefl, List.length_append, List.append_assoc, hl2]
  unfold Lk.gc
  rw [if_neg]
  rintro ⟨z, _⟩
  simp [D.cl] at z
theorem sizes_ln {xs : List Int} {d : D} (c : Cx M b e) (hs : spanB b (e : Nat) d = true) : Sz 100 (lnOf M b xs d) := by
  obtain ⟨i, j, lo, hi, rfl⟩ := spanB_v4 hs
  simp only [spanB, decide_eq_true_eq] at hs
  have bM : 0 < b * M := Int.mul_pos (by have := c.b1; omega) c.hM
  show Sz 100 ((xs.getD j.toNat 0 - xs.getD i.toNat 0 - lo * M) % (b * M) + lo * M)
  generalize xs.getD j.toNat 0 - xs.getD i.toNat 0 - lo * M = z
  have h1 := Int.emod_nonneg z (show b * M ≠ 0 by omega)
  have h2 := Int.emod_lt_of_pos z bM
  have h3 : Sz 60 (b * M) := (c.sb.mul c.sM).mono (by decide)
  have sl : Sz 12 lo := .of 2880 (by omega)
  have h4 : Sz 60 (lo * M) := (sl.mul c.sM).mono (by decide)
  have h5 : Sz 60 (z % (b * M)) := by unfold Sz at h3 ⊢; omega
  exact Sz.mono (k := 100) (h5.add h4) (by decide)
theorem fb_loop {xs : List Int} {ts all : List D} {S : Store} {gd : Store → Prop} (hgd : gd S) (c : Cx M b e) (hall : ∀ d ∈ all, spanB b (e : Nat) d = true) : ∀ (ds rs : List D) (k : Nat) (v2 v3 : Option D), F2 (fun d r => PVl M (lnOf M b xs d) r) ds rs → (∀ i d, ds[i]? = some d → all[k + i]? = some d) →
    ∃ w2 w3, forGo gd (gUnpack 2 (gCons' (gSet 2) (gCons' (gSet 3) gNil'))) (mIfS (mTest (mCall 2 f_below (mCons (m2 gIx (m2 gIx (mFld flds "spans" (mVar 0)) (mVar 2)) (mC (.int 3))) (mCons (mVar 3) mNil)))) (mRet (mVar 2)) mNext) ((rs.zipIdx k).map pairI) [some (net b (e : Nat) all), some (.tup ts), v2, v3] S
      = match brk M b xs k ds with
        | some j => .rt (.int (j : Nat)) S
        | none => .nx [some (net b (e : Nat) all), some (.tup ts), w2, w3] S
  | [], [], k, v2, v3, f, hi => ⟨v2, v3, by rw [List.zipIdx_nil, List.map_nil, forGo_gn hgd]; rfl⟩
  | d :: ds, r :: rs, k, v2, v3, f, hi => by
    have hd : all[k]? = some d := hi 0 d rfl
    have hm : d ∈ all := List.mem_of_getElem? hd
    have hsp := hall d hm
    obtain ⟨w2, w3, ih⟩ := fb_loop (ts := ts) hgd c hall ds rs (k + 1) (some (.int (k : Nat))) (some r) f.2 (fun i d' h => by have := hi (i + 1) d' (by simpa using h); rw [← this]; congr 1; omega)
    have bl := (below_l (S := S) (l := hiOf d) c.hM c.sM' (sizes_ln (xs := xs) c hsp) (by
      obtain ⟨i, j, lo, h, rfl⟩ := spanB_v4 hsp
      simp only [spanB, decide_eq_true_eq] at hsp
      exact .of 2880 (by show h.natAbs ≤ 2880; omega)) f.1.vl).2
    have hg : gUnpack 2 (gCons' (gSet 2) (gCons' (gSet 3) gNil')) (pairI (r, k)) [some (net b (e : Nat) all), some (.tup ts), v2, v3] S = .ok [some (net b (e : Nat) all), some (.tup ts), some (.int (k : Nat)), some r] S := by
      unfold pairI
      simp only [mSeq, RS.seq, mIfS, mTest, mSet, mRet, mVar, mC, mNil, mCons, Lk.m1, Lk.m2, mB, mAnd, mOr, mNot, mAndT, mOrT, mNotT, mIf, mAsg, mNext, mCall, R.bind, R.bindS, R.nxt, asB, gSub', mTup, mLst, List.getElem?_cons_succ, List.getElem?_cons_zero, List.getElem?_nil, List.set_cons_succ, List.set_cons_zero, List.map_cons, List.map_nil, List.cons_append, List.nil_append, List.length_cons, List.length_nil, List.replicate, Lk.gIx, Lk.gAdd, Lk.gSub, Lk.gMul, Lk.gDiv, Lk.gMod, gInt, gCmp, gNeg, gAbs, gGcd, gLen, List.length_map, Lk.listOf, stIx, if_true, if_false, Bool.false_eq_true, reduceIte, Nat.reduceAdd, Nat.reduceSub, Nat.zero_add, eqz_int, pow1010, pow1018, pow1019, Int.reduceMul, Int.reduceAdd, ix40, ix41, ix42, ix43, at40, at41, at42, at43, and_true, true_and, and_self, ne_eq, not_false_eq_true, decide_true, decide_false, decide_eq_true_eq, Bool.and_true, Bool.true_and, mFor, iSeq, srcOf, vals, forGo_n, forGo_c, gSet, mRaise1, mSetF, setF, lim_le, Nat.reduceLeDiff, Bool.not_false, Bool.not_true, Nat.lt_irrefl, List.length_append, List.append_assoc, gUnpack, gCons', gNil']
    have ak : atI all ((k : Nat) : Int) = some d := atI_nat (by omega) (by simpa using hd)
    have a3 : Lk.gIx d (.int 3) S = .ok (.int (hiOf d)) S := by
      obtain ⟨i, j, lo, h, rfl⟩ := spanB_v4 hsp
      rfl
    have ai : Lk.gIx (.tup all) (.int (k : Nat)) S = .ok d S := by simp only [Lk.gIx, Lk.listOf, ak]
    have eb : (mIfS (mTest (mCall 2 f_below (mCons (m2 gIx (m2 gIx (mFld flds "spans" (mVar 0)) (mVar 2)) (mC (.int 3))) (mCons (mVar 3) mNil)))) (mRet (mVar 2)) mNext) [some (net b (e : Nat) all), some (.tup ts), some (.int (k : Nat)), some r] S
        = if hiOf d * M < lnOf M b xs d then .rt (.int (k : Nat)) S else .nx [some (net b (e : Nat) all), some (.tup ts), some (.int (k : Nat)), some r] S := by
      by_cases z : hiOf d * M < lnOf M b xs d
      · rw [decide_eq_true z] at bl
        rw [if_pos z]
        simp only [mIfS, mTest, mCall, mCons, mNil, Lk.m2, mFld, mVar, mC, mRet, R.bind, R.bindS, List.getElem?_cons_succ, List.getElem?_cons_zero, fn_sp, ai, a3, List.length_cons, List.length_nil, Nat.zero_add, Nat.reduceAdd, if_true, bl, asB]
      · rw [decide_eq_false z] at bl
        rw [if_neg z]
        simp only [mIfS, mTest, mCall, mCons, mNil, Lk.m2, mFld, mVar, mC, mRet, mNext, R.bind, R.bindS, List.getElem?_cons_succ, List.getElem?_cons_zero, fn_sp, ai, a3, List.length_cons, List.length_nil, Nat.zero_add, Nat.reduceAdd, if_true, bl, asB, Bool.false_eq_true, if_false]
    refine ⟨w2, w3, ?_⟩
    rw [List.zipIdx_cons, List.map_cons, forGo_gc hgd hg, eb]
    unfold brk
    by_cases z : hiOf d * M < lnOf M b xs d
    · rw [if_pos z, if_pos z]
    · rw [if_neg z, if_neg z]
      exact ih
  | [], _ :: _, _, _, _, f, _ => f.elim
  | _ :: _, [], _, _, _, f, _ => f.elim
theorem first_broken_ok {S : Store} {xs : List Int} {ts ds : List D} (c : Cx M b e) (tv : TV M xs ts) (he : xs.length = e) (hs : ∀ d ∈ ds, spanB b (e : Nat) d = true) (hl : ds.length ≤ 60) :
    f_first_broken [net b (e : Nat) ds, .tup ts] S = .ok (res (brk M b xs 0 ds)) S := by
  obtain ⟨rs, e1, f2⟩ := reached_ok (S := S) c tv he hs hl
  obtain ⟨gd, s1, s2⟩ := srcR (S := S ++ [.lst rs]) (th := .ref S.length) (ds := rs) (.inr ⟨_, rfl, last1⟩)
  have g0 := s2 []
  rw [List.append_nil] at g0
  obtain ⟨w2, w3, lp⟩ := fb_loop (xs := xs) (ts := ts) g0 c hs ds rs 0 none none f2 (fun i d h => by simpa using h)
  have en : (rs.zipIdx 0).map pairI = enumD rs := rfl
  rw [en] at lp
  have ei : iEnuZ (mCall 2 f_reached (mCons (mVar 0) (mCons (mVar 1) mNil))) [some (net b (e : Nat) ds), some (.tup ts), none, none] S = .ok ⟨enumD rs, gd⟩ (S ++ [.lst rs]) := by
    unfold iEnuZ
    simp only [mCall, mCons, mNil, mVar, R.bind, List.getElem?_cons_succ, List.getElem?_cons_zero, List.length_cons, List.length_nil, Nat.zero_add, Nat.reduceAdd, if_true, e1, s1]
  unfold f_first_broken mDef b_first_broken
  cases q : brk M b xs 0 ds with
  | some k =>
    rw [q] at lp
    simp only [mSeq, RS.seq, mIfS, mTest, mSet, mRet, mVar, mC, mNil, mCons, Lk.m1, Lk.m2, mB, mAnd, mOr, mNot, mAndT, mOrT, mNotT, mIf, mAsg, mNext, mCall, R.bind, R.bindS, R.nxt, asB, gSub', mTup, mLst, List.getElem?_cons_succ, List.getElem?_cons_zero, List.getElem?_nil, List.set_cons_succ, List.set_cons_zero, List.map_cons, List.map_nil, List.cons_append, List.nil_append, List.length_cons, List.length_nil, List.replicate, Lk.gIx, Lk.gAdd, Lk.gSub, Lk.gMul, Lk.gDiv, Lk.gMod, gInt, gCmp, gNeg, gAbs, gGcd, gLen, List.length_map, Lk.listOf, stIx, if_true, if_false, Bool.false_eq_true, reduceIte, Nat.reduceAdd, Nat.reduceSub, Nat.zero_add, eqz_int, pow1010, pow1018, pow1019, Int.reduceMul, Int.reduceAdd, ix40, ix41, ix42, ix43, at40, at41, at42, at43, and_true, true_and, and_self, ne_eq, not_false_eq_true, decide_true, decide_false, decide_eq_true_eq, Bool.and_true, Bool.true_and, mFor, iSeq, srcOf, vals, forGo_n, forGo_c, gSet, mRaise1, mSetF, setF, lim_le, Nat.reduceLeDiff, Bool.not_false, Bool.not_true, Nat.lt_irrefl, List.length_append, List.append_assoc, ei, lp]
    exact gc_ok (by simp [D.cl, res])
  | none =>
    rw [q] at lp
    simp only [mSeq, RS.seq, mIfS, mTest, mSet, mRet, mVar, mC, mNil, mCons, Lk.m1, Lk.m2, mB, mAnd, mOr, mNot, mAndT, mOrT, mNotT, mIf, mAsg, mNext, mCall, R.bind, R.bindS, R.nxt, asB, gSub', mTup, mLst, List.getElem?_cons_succ, List.getElem?_cons_zero, List.getElem?_nil, List.set_cons_succ, List.set_cons_zero, List.map_cons, List.map_nil, List.cons_append, List.nil_append, List.length_cons, List.length_nil, List.replicate, Lk.gIx, Lk.gAdd, Lk.gSub, Lk.gMul, Lk.gDiv, Lk.gMod, gInt, gCmp, gNeg, gAbs, gGcd, gLen, List.length_map, Lk.listOf, stIx, if_true, if_false, Bool.false_eq_true, reduceIte, Nat.reduceAdd, Nat.reduceSub, Nat.zero_add, eqz_int, pow1010, pow1018, pow1019, Int.reduceMul, Int.reduceAdd, ix40, ix41, ix42, ix43, at40, at41, at42, at43, and_true, true_and, and_self, ne_eq, not_false_eq_true, decide_true, decide_false, decide_eq_true_eq, Bool.and_true, Bool.true_and, mFor, iSeq, srcOf, vals, forGo_n, forGo_c, gSet, mRaise1, mSetF, setF, lim_le, Nat.reduceLeDiff, Bool.not_false, Bool.not_true, Nat.lt_irrefl, List.length_append, List.append_assoc, ei, lp]
    exact gc_ok (by simp [D.cl, res])
def It (M : Int) (S : Store) (t s : D) : Prop := (∃ x, s = .int x ∧ Sz 60 x ∧ Vl M x t) ∨ (s = .non ∧ Odd S t ∧ ∀ C xs, t ≠ .ins C xs)
def momB (b M : Int) : D → Bool
  | .int x => decide (0 ≤ x ∧ x < b * M)
  | _ => false
def bad (b M : Int) : Nat → List D → Option Nat
  | _, [] => none
  | k, s :: sl => if momB b M s = true then bad b M (k + 1) sl else some k
def toI : D → Int
  | .int x => x
  | _ => 0
def sMom (k : Int) : D := .tup [.str (Str.ofString "moments"), .int k]
def sSpan (k : Int) : D := .tup [.str (Str.ofString "span"), .int k]
def dueD (M b : Int) (sl ds : List D) : D := match bad b M 0 sl with
  | some k => sMom (k : Nat)
  | none => match brk M b (sl.map toI) 0 ds with
    | some k => sSpan (k : Nat)
    | none => .non
theorem It.app {S T : Store} {t s : D} (h : It M S t s) : It M (S ++ T) t s := h.imp (fun z => z) fun z => ⟨z.1, z.2.1.app, z.2.2⟩
theorem F2.imp {P Q : D → D → Prop} (h : ∀ d r, P d r → Q d r) : ∀ {ds rs : List D}, F2 P ds rs → F2 Q ds rs
  | [], [], _ => trivial
  | d :: ds, r :: rs, f => ⟨h _ _ f.1, F2.imp h f.2⟩
  | [], _ :: _, f => f.elim
  | _ :: _, [], f => f.elim
theorem it_mom {S : Store} {t s : D} (c : Cx M b e) (h : It M S t s) : f_is_moment [.int b, t] S = .ok (.bl (momB b M s)) S := by
  rcases h with ⟨x, rfl, sx, v⟩ | ⟨rfl, o, ni⟩
  · exact moment_ok c.hM c.sM' (sx.mono (by decide)) c.sb' v
  · exact moment_odd o ni
theorem bad_none : ∀ {k : Nat} {sl : List D}, bad b M k sl = none → ∀ s ∈ sl, ∃ x, s = .int x ∧ 0 ≤ x ∧ x < b * M
  | k, [], _, s, hs => by cases hs
  | k, s' :: sl, h, s, hs => by
    unfold bad at h
    split at h
    · rename_i c
      rcases List.mem_cons.mp hs with z | z
      · rw [z]
        cases s' with
        | int x => exact ⟨x, rfl, of_decide_eq_true c⟩
        | _ => cases c
      · exact bad_none h s z
    · cases h
theorem tv_of {S : Store} {ts sl : List D} (f : F2 (It M S) ts sl) (hs : ∀ s ∈ sl, ∃ x, s = .int x) : TV M (sl.map toI) ts := by
  refine ⟨by rw [List.length_map, F2.len f], fun k x hx => ?_⟩
  rw [List.getElem?_map] at hx
  cases hsk : sl[k]? with
  | none => rw [hsk] at hx; cases hx
  | some s =>
    rw [hsk] at hx
    have hk : k < ts.length := by
      rw [← F2.len f]
      rcases Nat.lt_or_ge k sl.length with z | z
      · exact z
      · rw [List.getElem?_eq_none z] at hsk; cases hsk
    have ht : ts[k]? = some ts[k] := List.getElem?_eq_getElem hk
    obtain ⟨y, hy⟩ := hs s (List.mem_of_getElem? hsk)
    rcases f.get ht hsk with ⟨z, h1, h2, h3⟩ | ⟨h1, _⟩
    · rw [h1] at hx
      have : x = z := by simpa [toI] using hx.symm
      rw [this]
      exact ⟨h2, _, ht, h3⟩
    · rw [hy] at h1; cases h1
theorem mo_loop {S : Store} {gd : Store → Prop} {nn th : D} {mb : MS} (hgd : gd S) (c : Cx M b e) (hmb : ∀ (k : Nat) (t s : D), It M S t s → mb [some nn, some th, some (.int (k : Nat)), some t] S = if momB b M s = true then .nx [some nn, some th, some (.int (k : Nat)), some t] S else .rt (sMom (k : Nat)) S) :
    ∀ (ts sl : List D) (k : Nat) (v2 v3 : Option D), F2 (It M S) ts sl → ∃ w2 w3, forGo gd (gUnpack 2 (gCons' (gSet 2) (gCons' (gSet 3) gNil'))) mb ((ts.zipIdx k).map pairI) [some nn, some th, v2, v3] S
      = match bad b M k sl with
        | some j => .rt (sMom (j : Nat)) S
        | none => .nx [some nn, some th, w2, w3] S
  | [], [], k, v2, v3, f => ⟨v2, v3, by rw [List.zipIdx_nil, List.map_nil, forGo_gn hgd]; rfl⟩
  | t :: ts, s :: sl, k, v2, v3, f => by
    obtain ⟨w2, w3, ih⟩ := mo_loop hgd c hmb ts sl (k + 1) (some (.int (k : Nat))) (some t) f.2
    have hg : gUnpack 2 (gCons' (gSet 2) (gCons' (gSet 3) gNil')) (pairI (t, k)) [some nn, some th, v2, v3] S = .ok [some nn, some th, some (.int (k : Nat)), some t] S := by
      unfold pairI
      simp only [mSeq, RS.seq, mIfS, mTest, mSet, mRet, mVar, mC, mNil, mCons, Lk.m1, Lk.m2, mB, mAnd, mOr, mNot, mAndT, mOrT, mNotT, mIf, mAsg, mNext, mCall, R.bind, R.bindS, R.nxt, asB, gSub', mTup, mLst, List.getElem?_cons_succ, List.getElem?_cons_zero, List.getElem?_nil, List.set_cons_succ, List.set_cons_zero, List.map_cons, List.map_nil, List.cons_append, List.nil_append, List.length_cons, List.length_nil, List.replicate, Lk.gIx, Lk.gAdd, Lk.gSub, Lk.gMul, Lk.gDiv, Lk.gMod, gInt, gCmp, gNeg, gAbs, gGcd, gLen, List.length_map, Lk.listOf, stIx, if_true, if_false, Bool.false_eq_true, reduceIte, Nat.reduceAdd, Nat.reduceSub, Nat.zero_add, eqz_int, pow1010, pow1018, pow1019, Int.reduceMul, Int.reduceAdd, ix40, ix41, ix42, ix43, at40, at41, at42, at43, and_true, true_and, and_self, ne_eq, not_false_eq_true, decide_true, decide_false, decide_eq_true_eq, Bool.and_true, Bool.true_and, mFor, iSeq, srcOf, vals, forGo_n, forGo_c, gSet, mRaise1, mSetF, setF, lim_le, Nat.reduceLeDiff, Bool.not_false, Bool.not_true, Nat.lt_irrefl, List.length_append, List.append_assoc, gUnpack, gCons', gNil']
    refine ⟨w2, w3, ?_⟩
    rw [List.zipIdx_cons, List.map_cons, forGo_gc hgd hg, hmb k t s f.1]
    unfold bad
    by_cases z : momB b M s = true
    · rw [if_pos z, if_pos z]
      exact ih
    · rw [if_neg z, if_neg z]
  | [], _ :: _, _, _, _, f => f.elim
  | _ :: _, [], _, _, _, f => f.elim
noncomputable def mf1 : MS := (mIfS (mOrT (mNotT (mTest (m1 (gIsi cs [(.bi "tuple")]) (mVar 1)))) (mTest (m2 (gNeX oe) (mB gLen (mCons (mVar 1) mNil)) (mFld flds "events" (mVar 0))))) (mRet (mTup (mCons (mC (.str (Str.ofString "moments"))) (mCons (m1 gNeg (mC (.int 1))) mNil)))) mNext)
noncomputable def mf2 : MS := (mFor (iEnuZ (mVar 1)) (gUnpack 2 (gCons' (gSet 2) (gCons' (gSet 3) gNil'))) (mIfS (mNotT (mTest (mCall 2 f_is_moment (mCons (mFld flds "beat" (mVar 0)) (mCons (mVar 3) mNil))))) (mRet (mTup (mCons (mC (.str (Str.ofString "moments"))) (mCons (mVar 2) mNil)))) mNext))
noncomputable def mf3 : MS := (mSet 2 (mCall 2 f_first_broken (mCons (mVar 0) (mCons (mVar 1) mNil))))
noncomputable def mf4 : MS := (mRet (mIf (mTest (m2 gIsN (mVar 2) (mC .non))) (mC .non) (mTup (mCons (mC (.str (Str.ofString "span"))) (mCons (mVar 2) mNil)))))
theorem mf_eq : b_moments_fault = mSeq mf1 (mSeq mf2 (mSeq mf3 mf4)) := rfl
theorem tupT {S : Store} {ts : List D} : gIsi cs [.bi "tuple"] (.tup ts) S = .ok (.bl true) S := gIt (d := .tup ts) ⟨.bi "tuple", rfl, by decide⟩
theorem moments_ok {S : Store} {ts sl ds : List D} (c : Cx M b e) (f : F2 (It M S) ts sl) (he : ts.length = e) (hs : ∀ d ∈ ds, spanB b (e : Nat) d = true) (hl : ds.length ≤ 60) :
    f_moments_fault [net b (e : Nat) ds, .tup ts] S = .ok (dueD M b sl ds) S := by
  have g1 := tupT (S := S) (ts := ts)
  have g2 : gNeX oe (.int (ts.length : Nat)) (.int (e : Nat)) S = .ok (.bl false) S := by rw [gn_int, he]; simp
  obtain ⟨gd, s1, s2⟩ := srcR (S := S) (th := .tup ts) (ds := ts) (.inl rfl)
  have g0 := s2 []
  rw [List.append_nil] at g0
  obtain ⟨w2, w3, lp⟩ := mo_loop (nn := net b (e : Nat) ds) (th := .tup ts) (mb := mIfS (mNotT (mTest (mCall 2 f_is_moment (mCons (mFld flds "beat" (mVar 0)) (mCons (mVar 3) mNil))))) (mRet (mTup (mCons (mC (.str (Str.ofString "moments"))) (mCons (mVar 2) mNil)))) mNext) g0 c
    (fun k t s h => by
      have hm := it_mom c h
      cases q : momB b M s with
      | true =>
        rw [q] at hm
        simp only [mSeq, RS.seq, mIfS, mTest, mSet, mRet, mVar, mC, mNil, mCons, Lk.m1, Lk.m2, mB, mAnd, mOr, mNot, mAndT, mOrT, mNotT, mIf, mAsg, mNext, mCall, R.bind, R.bindS, R.nxt, asB, gSub', mTup, mLst, List.getElem?_cons_succ, List.getElem?_cons_zero, List.getElem?_nil, List.set_cons_succ, List.set_cons_zero, List.map_cons, List.map_nil, List.cons_append, List.nil_append, List.length_cons, List.length_nil, List.replicate, Lk.gIx, Lk.gAdd, Lk.gSub, Lk.gMul, Lk.gDiv, Lk.gMod, gInt, gCmp, gNeg, gAbs, gGcd, gLen, List.length_map, Lk.listOf, stIx, if_true, if_false, Bool.false_eq_true, reduceIte, Nat.reduceAdd, Nat.reduceSub, Nat.zero_add, eqz_int, pow1010, pow1018, pow1019, Int.reduceMul, Int.reduceAdd, ix40, ix41, ix42, ix43, at40, at41, at42, at43, and_true, true_and, and_self, ne_eq, not_false_eq_true, decide_true, decide_false, decide_eq_true_eq, Bool.and_true, Bool.true_and, mFor, iSeq, srcOf, vals, forGo_n, forGo_c, gSet, mRaise1, mSetF, setF, lim_le, Nat.reduceLeDiff, Bool.not_false, Bool.not_true, Nat.lt_irrefl, List.length_append, List.append_assoc, mFld, fn_beat, hm]
      | false =>
        rw [q] at hm
        simp only [mSeq, RS.seq, mIfS, mTest, mSet, mRet, mVar, mC, mNil, mCons, Lk.m1, Lk.m2, mB, mAnd, mOr, mNot, mAndT, mOrT, mNotT, mIf, mAsg, mNext, mCall, R.bind, R.bindS, R.nxt, asB, gSub', mTup, mLst, List.getElem?_cons_succ, List.getElem?_cons_zero, List.getElem?_nil, List.set_cons_succ, List.set_cons_zero, List.map_cons, List.map_nil, List.cons_append, List.nil_append, List.length_cons, List.length_nil, List.replicate, Lk.gIx, Lk.gAdd, Lk.gSub, Lk.gMul, Lk.gDiv, Lk.gMod, gInt, gCmp, gNeg, gAbs, gGcd, gLen, List.length_map, Lk.listOf, stIx, if_true, if_false, Bool.false_eq_true, reduceIte, Nat.reduceAdd, Nat.reduceSub, Nat.zero_add, eqz_int, pow1010, pow1018, pow1019, Int.reduceMul, Int.reduceAdd, ix40, ix41, ix42, ix43, at40, at41, at42, at43, and_true, true_and, and_self, ne_eq, not_false_eq_true, decide_true, decide_false, decide_eq_true_eq, Bool.and_true, Bool.true_and, mFor, iSeq, srcOf, vals, forGo_n, forGo_c, gSet, mRaise1, mSetF, setF, lim_le, Nat.reduceLeDiff, Bool.not_false, Bool.not_true, Nat.lt_irrefl, List.length_append, List.append_assoc, mFld, fn_beat, hm, sMom]) ts sl 0 none none f
  have en : (ts.zipIdx 0).map pairI = enumD ts := rfl
  rw [en] at lp
  have b1 : mf1 [some (net b (e : Nat) ds), some (.tup ts), none, none] S = .nx [some (net b (e : Nat) ds), some (.tup ts), none, none] S := by
    unfold mf1
    simp only [mSeq, RS.seq, mIfS, mTest, mSet, mRet, mVar, mC, mNil, mCons, Lk.m1, Lk.m2, mB, mAnd, mOr, mNot, mAndT, mOrT, mNotT, mIf, mAsg, mNext, mCall, R.bind, R.bindS, R.nxt, asB, gSub', mTup, mLst, List.getElem?_cons_succ, List.getElem?_cons_zero, List.getElem?_nil, List.set_cons_succ, List.set_cons_zero, List.map_cons, List.map_nil, List.cons_append, List.nil_append, List.length_cons, List.length_nil, List.replicate, Lk.gIx, Lk.gAdd, Lk.gSub, Lk.gMul, Lk.gDiv, Lk.gMod, gInt, gCmp, gNeg, gAbs, gGcd, gLen, List.length_map, Lk.listOf, stIx, if_true, if_false, Bool.false_eq_true, reduceIte, Nat.reduceAdd, Nat.reduceSub, Nat.zero_add, eqz_int, pow1010, pow1018, pow1019, Int.reduceMul, Int.reduceAdd, ix40, ix41, ix42, ix43, at40, at41, at42, at43, and_true, true_and, and_self, ne_eq, not_false_eq_true, decide_true, decide_false, decide_eq_true_eq, Bool.and_true, Bool.true_and, mFor, iSeq, srcOf, vals, forGo_n, forGo_c, gSet, mRaise1, mSetF, setF, lim_le, Nat.reduceLeDiff, Bool.not_false, Bool.not_true, Nat.lt_irrefl, List.length_append, List.append_assoc, g1, g2, mFld, fn_ev]
  have cl : ∀ k : Int, (sMom k).cl S.length = true ∧ (sSpan k).cl S.length = true := fun k => by simp [sMom, sSpan, D.cl, clL]
  have b2 : mf2 [some (net b (e : Nat) ds), some (.tup ts), none, none] S = match bad b M 0 sl with
        | some j => .rt (sMom (j : Nat)) S
        | none => .nx [some (net b (e : Nat) ds), some (.tup ts), w2, w3] S := by
    have ei : iEnuZ (mVar 1) [some (net b (e : Nat) ds), some (.tup ts), none, none] S = .ok ⟨enumD ts, gd⟩ S := by
      unfold iEnuZ
      simp only [mVar, R.bind, List.getElem?_cons_succ, List.getElem?_cons_zero, s1]
    unfold mf2 mFor
    rw [ei]
    exact lp
  have hB : ∃ S', b_moments_fault [some (net b (e : Nat) ds), some (.tup ts), none, none] S = .rt (dueD M b sl ds) S' ∧ S' = S := by
    refine ⟨S, ?_, rfl⟩
    rw [mf_eq]
    unfold dueD
    cases q : bad b M 0 sl with
    | some k =>
      rw [q] at b2
      simp only [mSeq, RS.seq, b1, b2]
    | none =>
      rw [q] at b2
      have xi := bad_none q
      have tv := tv_of f fun s hs => (xi s hs).imp fun x z => z.1
      have fb := first_broken_ok (S := S) c tv (by rw [List.length_map, F2.len f, he]) hs hl
      have b3 : mf3 [some (net b (e : Nat) ds), some (.tup ts), w2, w3] S = .nx [some (net b (e : Nat) ds), some (.tup ts), some (res (brk M b (sl.map toI) 0 ds)), w3] S := by
        unfold mf3
        simp only [mSeq, RS.seq, mIfS, mTest, mSet, mRet, mVar, mC, mNil, mCons, Lk.m1, Lk.m2, mB, mAnd, mOr, mNot, mAndT, mOrT, mNotT, mIf, mAsg, mNext, mCall, R.bind, R.bindS, R.nxt, asB, gSub', mTup, mLst, List.getElem?_cons_succ, List.getElem?_cons_zero, List.getElem?_nil, List.set_cons_succ, List.set_cons_zero, List.map_cons, List.map_nil, List.cons_append, List.nil_append, List.length_cons, List.length_nil, List.replicate, Lk.gIx, Lk.gAdd, Lk.gSub, Lk.gMul, Lk.gDiv, Lk.gMod, gInt, gCmp, gNeg, gAbs, gGcd, gLen, List.length_map, Lk.listOf, stIx, if_true, if_false, Bool.false_eq_true, reduceIte, Nat.reduceAdd, Nat.reduceSub, Nat.zero_add, eqz_int, pow1010, pow1018, pow1019, Int.reduceMul, Int.reduceAdd, ix40, ix41, ix42, ix43, at40, at41, at42, at43, and_true, true_and, and_self, ne_eq, not_false_eq_true, decide_true, decide_false, decide_eq_true_eq, Bool.and_true, Bool.true_and, mFor, iSeq, srcOf, vals, forGo_n, forGo_c, gSet, mRaise1, mSetF, setF, lim_le, Nat.reduceLeDiff, Bool.not_false, Bool.not_true, Nat.lt_irrefl, List.length_append, List.append_assoc, fb]
      simp only [mSeq, RS.seq, b1, b2, b3]
      cases q2 : brk M b (sl.map toI) 0 ds with
      | some k =>
        unfold mf4
        simp only [mSeq, RS.seq, mIfS, mTest, mSet, mRet, mVar, mC, mNil, mCons, Lk.m1, Lk.m2, mB, mAnd, mOr, mNot, mAndT, mOrT, mNotT, mIf, mAsg, mNext, mCall, R.bind, R.bindS, R.nxt, asB, gSub', mTup, mLst, List.getElem?_cons_succ, List.getElem?_cons_zero, List.getElem?_nil, List.set_cons_succ, List.set_cons_zero, List.map_cons, List.map_nil, List.cons_append, List.nil_append, List.length_cons, List.length_nil, List.replicate, Lk.gIx, Lk.gAdd, Lk.gSub, Lk.gMul, Lk.gDiv, Lk.gMod, gInt, gCmp, gNeg, gAbs, gGcd, gLen, List.length_map, Lk.listOf, stIx, if_true, if_false, Bool.false_eq_true, reduceIte, Nat.reduceAdd, Nat.reduceSub, Nat.zero_add, eqz_int, pow1010, pow1018, pow1019, Int.reduceMul, Int.reduceAdd, ix40, ix41, ix42, ix43, at40, at41, at42, at43, and_true, true_and, and_self, ne_eq, not_false_eq_true, decide_true, decide_false, decide_eq_true_eq, Bool.and_true, Bool.true_and, mFor, iSeq, srcOf, vals, forGo_n, forGo_c, gSet, mRaise1, mSetF, setF, lim_le, Nat.reduceLeDiff, Bool.not_false, Bool.not_true, Nat.lt_irrefl, List.length_append, List.append_assoc, res, gIsN, isNonD, sSpan]
      | none =>
        unfold mf4
        simp only [mSeq, RS.seq, mIfS, mTest, mSet, mRet, mVar, mC, mNil, mCons, Lk.m1, Lk.m2, mB, mAnd, mOr, mNot, mAndT, mOrT, mNotT, mIf, mAsg, mNext, mCall, R.bind, R.bindS, R.nxt, asB, gSub', mTup, mLst, List.getElem?_cons_succ, List.getElem?_cons_zero, List.getElem?_nil, List.set_cons_succ, List.set_cons_zero, List.map_cons, List.map_nil, List.cons_append, List.nil_append, List.length_cons, List.length_nil, List.replicate, Lk.gIx, Lk.gAdd, Lk.gSub, Lk.gMul, Lk.gDiv, Lk.gMod, gInt, gCmp, gNeg, gAbs, gGcd, gLen, List.length_map, Lk.listOf, stIx, if_true, if_false, Bool.false_eq_true, reduceIte, Nat.reduceAdd, Nat.reduceSub, Nat.zero_add, eqz_int, pow1010, pow1018, pow1019, Int.reduceMul, Int.reduceAdd, ix40, ix41, ix42, ix43, at40, at41, at42, at43, and_true, true_and, and_self, ne_eq, not_false_eq_true, decide_true, decide_false, decide_eq_true_eq, Bool.and_true, Bool.true_and, mFor, iSeq, srcOf, vals, forGo_n, forGo_c, gSet, mRaise1, mSetF, setF, lim_le, Nat.reduceLeDiff, Bool.not_false, Bool.not_true, Nat.lt_irrefl, List.length_append, List.append_assoc, res, gIsN, isNonD]
  obtain ⟨S', hB, rfl⟩ := hB
  show mDef 4 b_moments_fault [net b (e : Nat) ds, .tup ts] S' = _
  unfold mDef
  show (match b_moments_fault [some (net b (e : Nat) ds), some (.tup ts), none, none] S' with
      | .nx _ S'' => gc S' .non S''
      | .rt d S'' => gc S' d S''
      | .ex C xs _ S'' => gcX S' C xs S''
      | _ => .bad) = _
  rw [hB]
  exact gc_self
def NoT (S : Store) (e : Nat) (th : D) : Prop := Kn S th ∧ (isTup th = false ∨ ∃ ts, th = .tup ts ∧ ts.length ≠ e)
theorem moments_no {S : Store} {th : D} {ds : List D} (h : NoT S e th) : f_moments_fault [net b (e : Nat) ds, th] S = .ok (sMom (-1)) S := by
  obtain ⟨kn, h⟩ := h
  unfold f_moments_fault mDef b_moments_fault
  rcases h with z | ⟨ts, rfl, hl⟩
  · have g1 := gIt kn
    rw [z] at g1
    simp only [mSeq, RS.seq, mIfS, mTest, mSet, mRet, mVar, mC, mNil, mCons, Lk.m1, Lk.m2, mB, mAnd, mOr, mNot, mAndT, mOrT, mNotT, mIf, mAsg, mNext, mCall, R.bind, R.bindS, R.nxt, asB, gSub', mTup, mLst, List.getElem?_cons_succ, List.getElem?_cons_zero, List.getElem?_nil, List.set_cons_succ, List.set_cons_zero, List.map_cons, List.map_nil, List.cons_append, List.nil_append, List.length_cons, List.length_nil, List.replicate, Lk.gIx, Lk.gAdd, Lk.gSub, Lk.gMul, Lk.gDiv, Lk.gMod, gInt, gCmp, gNeg, gAbs, gGcd, gLen, List.length_map, Lk.listOf, stIx, if_true, if_false, Bool.false_eq_true, reduceIte, Nat.reduceAdd, Nat.reduceSub, Nat.zero_add, eqz_int, pow1010, pow1018, pow1019, Int.reduceMul, Int.reduceAdd, ix40, ix41, ix42, ix43, at40, at41, at42, at43, and_true, true_and, and_self, ne_eq, not_false_eq_true, decide_true, decide_false, decide_eq_true_eq, Bool.and_true, Bool.true_and, mFor, iSeq, srcOf, vals, forGo_n, forGo_c, gSet, mRaise1, mSetF, setF, lim_le, Nat.reduceLeDiff, Bool.not_false, Bool.not_true, Nat.lt_irrefl, List.length_append, List.append_assoc, g1, sMom]
    exact gc_self
  · have g1 := tupT (S := S) (ts := ts)
    have g2 : gNeX oe (.int (ts.length : Nat)) (.int (e : Nat)) S = .ok (.bl true) S := by
      rw [gn_int, decide_eq_false (show ¬ ((ts.length : Nat) : Int) = (e : Nat) by omega)]
      rfl
    simp only [mSeq, RS.seq, mIfS, mTest, mSet, mRet, mVar, mC, mNil, mCons, Lk.m1, Lk.m2, mB, mAnd, mOr, mNot, mAndT, mOrT, mNotT, mIf, mAsg, mNext, mCall, R.bind, R.bindS, R.nxt, asB, gSub', mTup, mLst, List.getElem?_cons_succ, List.getElem?_cons_zero, List.getElem?_nil, List.set_cons_succ, List.set_cons_zero, List.map_cons, List.map_nil, List.cons_append, List.nil_append, List.length_cons, List.length_nil, List.replicate, Lk.gIx, Lk.gAdd, Lk.gSub, Lk.gMul, Lk.gDiv, Lk.gMod, gInt, gCmp, gNeg, gAbs, gGcd, gLen, List.length_map, Lk.listOf, stIx, if_true, if_false, Bool.false_eq_true, reduceIte, Nat.reduceAdd, Nat.reduceSub, Nat.zero_add, eqz_int, pow1010, pow1018, pow1019, Int.reduceMul, Int.reduceAdd, ix40, ix41, ix42, ix43, at40, at41, at42, at43, and_true, true_and, and_self, ne_eq, not_false_eq_true, decide_true, decide_false, decide_eq_true_eq, Bool.and_true, Bool.true_and, mFor, iSeq, srcOf, vals, forGo_n, forGo_c, gSet, mRaise1, mSetF, setF, lim_le, Nat.reduceLeDiff, Bool.not_false, Bool.not_true, Nat.lt_irrefl, List.length_append, List.append_assoc, g1, g2, mFld, fn_ev, sMom]
    exact gc_self
theorem is_tt {S : Store} {th d : D} {nn : D} (h : f_moments_fault [nn, th] S = .ok d S) : f_is_timetable [nn, th] S = .ok (.bl (isNonD d)) S := by
  unfold f_is_timetable mDef b_is_timetable
  simp only [mSeq, RS.seq, mIfS, mTest, mSet, mRet, mVar, mC, mNil, mCons, Lk.m1, Lk.m2, mB, mAnd, mOr, mNot, mAndT, mOrT, mNotT, mIf, mAsg, mNext, mCall, R.bind, R.bindS, R.nxt, asB, gSub', mTup, mLst, List.getElem?_cons_succ, List.getElem?_cons_zero, List.getElem?_nil, List.set_cons_succ, List.set_cons_zero, List.map_cons, List.map_nil, List.cons_append, List.nil_append, List.length_cons, List.length_nil, List.replicate, Lk.gIx, Lk.gAdd, Lk.gSub, Lk.gMul, Lk.gDiv, Lk.gMod, gInt, gCmp, gNeg, gAbs, gGcd, gLen, List.length_map, Lk.listOf, stIx, if_true, if_false, Bool.false_eq_true, reduceIte, Nat.reduceAdd, Nat.reduceSub, Nat.zero_add, eqz_int, pow1010, pow1018, pow1019, Int.reduceMul, Int.reduceAdd, ix40, ix41, ix42, ix43, at40, at41, at42, at43, and_true, true_and, and_self, ne_eq, not_false_eq_true, decide_true, decide_false, decide_eq_true_eq, Bool.and_true, Bool.true_and, mFor, iSeq, srcOf, vals, forGo_n, forGo_c, gSet, mRaise1, mSetF, setF, lim_le, Nat.reduceLeDiff, Bool.not_false, Bool.not_true, Nat.lt_irrefl, List.length_append, List.append_assoc, h, gIsN]
  exact gc_self
theorem mFor_rng {m : MA} {i : Nat} {mb : MS} {env : Lk.Env} {S : Store} {k : Nat} (h : m env S = .ok [.int (k : Nat)] S) (hb : bd ((k : Nat) : Int)) : mFor (iRng1' m) (gSet i) mb env S = forGo (fun _ => True) (gSet i) mb (rngI 0 k) env S := by
  have := iRng1_of h hb
  rw [Int.toNat_natCast] at this
  unfold mFor
  rw [this]
  rfl
theorem seq_nx {a b : MS} {env e2 : Lk.Env} {S S2 : Store} (h : a env S = .nx e2 S2) : mSeq a b env S = b e2 S2 := by
  unfold mSeq
  rw [h]
  rfl
theorem law_int {S : Store} {i : Int} : f__law_integer [.int i] S = .ok (.bl true) S := isint (kn_int S i)
theorem law_intR {S : Store} {p q : Int} : f__law_integer [ra p q] S = .ok (.bl false) S := isint (kn_rat S [.int p, .int q])
theorem scaled_ok {S : Store} {M y : Int} {d : D} (hM : 0 < M) (sM : Sz 100 M) (sy : Sz 100 y) (h : PVl M y d) : f__law_scaled [d, .int M] S = .ok (.int y) S := by
  obtain ⟨p, q, lo, ev, n⟩ := h
  obtain ⟨s1, s2⟩ := vl_sz lo hM ev sM sy
  have m1 := mulok s1 sM
  rcases n with ⟨rfl, hq⟩ | ⟨rfl, hq⟩
  · have g1 := law_int (S := S) (i := p)
    rw [hq, Int.mul_one] at ev
    unfold f__law_scaled mDef b__law_scaled
    simp only [mSeq, RS.seq, mIfS, mTest, mSet, mRet, mVar, mC, mNil, mCons, Lk.m1, Lk.m2, mB, mAnd, mOr, mNot, mAndT, mOrT, mNotT, mIf, mAsg, mNext, mCall, R.bind, R.bindS, R.nxt, asB, gSub', mTup, mLst, List.getElem?_cons_succ, List.getElem?_cons_zero, List.getElem?_nil, List.set_cons_succ, List.set_cons_zero, List.map_cons, List.map_nil, List.cons_append, List.nil_append, List.length_cons, List.length_nil, List.replicate, Lk.gIx, Lk.gAdd, Lk.gSub, Lk.gMul, Lk.gDiv, Lk.gMod, gInt, gCmp, gNeg, gAbs, gGcd, gLen, List.length_map, Lk.listOf, stIx, if_true, if_false, Bool.false_eq_true, reduceIte, Nat.reduceAdd, Nat.reduceSub, Nat.zero_add, eqz_int, pow1010, pow1018, pow1019, Int.reduceMul, Int.reduceAdd, ix40, ix41, ix42, ix43, at40, at41, at42, at43, and_true, true_and, and_self, ne_eq, not_false_eq_true, decide_true, decide_false, decide_eq_true_eq, Bool.and_true, Bool.true_and, mFor, iSeq, srcOf, vals, forGo_n, forGo_c, gSet, mRaise1, mSetF, setF, lim_le, Nat.reduceLeDiff, Bool.not_false, Bool.not_true, Nat.lt_irrefl, List.length_append, List.append_assoc, g1, m1, ev]
    exact gc_self
  · have g1 := law_intR (S := S) (p := p) (q := q)
    have g2 := is_raN (S := S) (p := p) (q := q)
    have g3 := law_int (S := S) (i := p)
    have g4 := law_int (S := S) (i := q)
    have hq0 := lo.1
    have q2 : ¬ q < 2 := by omega
    have q0 : q ≠ 0 := lo.ne
    have f1 := fmd_p (i := p) hq0
    have f2 := fmd_p (i := p * M) hq0
    have pq : p % q ≠ 0 := fun z => by
      have h1 : q ∣ p := Int.dvd_of_emod_eq_zero z
      have h2 : q.natAbs ∣ p.natAbs := Int.natAbs_dvd_natAbs.mpr h1
      have h3 : q.natAbs ∣ Nat.gcd p.natAbs q.natAbs := Nat.dvd_gcd h2 (Nat.dvd_refl _)
      rw [lo.2] at h3
      have := Nat.le_of_dvd (by decide) h3
      omega
    have t0 : decide (p % q = 0) = false := decide_eq_false pq
    have e1 : p * M % q = 0 := by rw [ev]; exact Int.mul_emod_left y q
    have g5 : gNeX oe (.int (p * M % q)) (.int 0) S = .ok (.bl false) S := by rw [gn_int, e1]; rfl
    have e2 : p * M / q = y := by rw [ev]; exact Int.mul_ediv_cancel y q0
    have f3 : fdv (p * M) q = p * M / q := if_pos hq0
    have kq : bits q < 9000 := by
      have := bits_lt (i := q) 100 s2 (by decide)
      omega
    unfold f__law_scaled mDef b__law_scaled
    simp only [mSeq, RS.seq, mIfS, mTest, mSet, mRet, mVar, mC, mNil, mCons, Lk.m1, Lk.m2, mB, mAnd, mOr, mNot, mAndT, mOrT, mNotT, mIf, mAsg, mNext, mCall, R.bind, R.bindS, R.nxt, asB, gSub', mTup, mLst, List.getElem?_cons_succ, List.getElem?_cons_zero, List.getElem?_nil, List.set_cons_succ, List.set_cons_zero, List.map_cons, List.map_nil, List.cons_append, List.nil_append, List.length_cons, List.length_nil, List.replicate, Lk.gIx, Lk.gAdd, Lk.gSub, Lk.gMul, Lk.gDiv, Lk.gMod, gInt, gCmp, gNeg, gAbs, gGcd, gLen, List.length_map, Lk.listOf, stIx, if_true, if_false, Bool.false_eq_true, reduceIte, Nat.reduceAdd, Nat.reduceSub, Nat.zero_add, eqz_int, pow1010, pow1018, pow1019, Int.reduceMul, Int.reduceAdd, ix40, ix41, ix42, ix43, at40, at41, at42, at43, and_true, true_and, and_self, ne_eq, not_false_eq_true, decide_true, decide_false, decide_eq_true_eq, Bool.and_true, Bool.true_and, mFor, iSeq, srcOf, vals, forGo_n, forGo_c, gSet, mRaise1, mSetF, setF, lim_le, Nat.reduceLeDiff, Bool.not_false, Bool.not_true, Nat.lt_irrefl, List.length_append, List.append_assoc, g1, g2, g3, g4, mFld, fl_top, fl_bot, q2, q0, f1, t0, m1, f2, g5, f3, e2, kq]
    exact gc_self
theorem inV_ints : ∀ ls : List Int, L2.inV .non (ls.map V.int) = false
  | [] => rfl
  | l :: ls => by
    have := inV_ints ls
    simp [L2.inV] at this ⊢
    first | exact this | (refine ⟨?_, this⟩; rfl) | simpa using this
theorem non_in {S : Store} {n : Nat} {ls : List Int} (h : S[n]? = some (.lst (ls.map D.int))) : gInZ false .non (.ref n) S = .ok (.bl false) S := by
  have e1 : (ls.map D.int).mapM flatD = some (ls.map V.int) := by
    clear h
    induction ls with
    | nil => rfl
    | cons l ls ih =>
      rw [List.map_cons, List.map_cons, List.mapM_cons, ih]
      rfl
  have e2 : (ls.map V.int).all flatV = true := by simp [flatV]
  have g : gIn false .non (.ref n) S = .ok (.bl false) S := by
    unfold gIn
    simp only [Lk.listOf, h, flatD, e1]
    rw [if_pos ⟨rfl, e2⟩]
    simp [inV_ints]
  unfold gInZ
  rw [g]
theorem eqvI : ∀ ls : List Int, PyData.eqvAll (ls.map PyData.int) (ls.map PyData.int) = true
  | [] => rfl
  | l :: ls => by simp [PyData.eqvAll, PyData.eqv, eqvI ls]
theorem layI : ∀ ls : List Int, PyData.canLayAll0 (ls.map PyData.int) = true ∧ PyData.depthAll (ls.map PyData.int) ≤ 1
  | [] => by simp [PyData.canLayAll0, PyData.depthAll]
  | l :: ls => by
    obtain ⟨a, c⟩ := layI ls
    simp [PyData.canLayAll0, PyData.depthAll, PyData.canLay0, PyData.depth, a]
    omega
theorem eq_lists {S : Store} {m n : Nat} {ls : List Int} (h1 : S[m]? = some (.lst (ls.map D.int))) (h2 : S[n]? = some (.lst (ls.map D.int))) : gEqZ cs oe (.ref m) (.ref n) S = .ok (.bl true) S := by
  have pm : ∀ k : Nat, (ls.map D.int).mapM (pyD S (k + 1)) = some (ls.map PyData.int) := fun k => by
    clear h1 h2
    induction ls with
    | nil => rfl
    | cons l ls ih =>
      rw [List.map_cons, List.map_cons, List.mapM_cons, ih]
      rfl
  have p1 : pyD S 12 (.ref m) = some (.list (ls.map PyData.int)) := by
    show (match S[m]? with
      | some (.lst ds) => (ds.mapM (pyD S 11)).map PyData.list
      | _ => none) = _
    rw [h1]
    simp only [pm 10]
    rfl
  have p2 : pyD S 12 (.ref n) = some (.list (ls.map PyData.int)) := by
    show (match S[n]? with
      | some (.lst ds) => (ds.mapM (pyD S 11)).map PyData.list
      | _ => none) = _
    rw [h2]
    simp only [pm 10]
    rfl
  have sh : SeqAt.shaped (.list (ls.map PyData.int)) = true := by
    obtain ⟨a, d⟩ := layI ls
    have b' : (PyData.list (ls.map PyData.int)).depth ≤ 64 := by simp only [PyData.depth]; omega
    have a' : (PyData.list (ls.map PyData.int)).canLay0 = true := by simpa only [PyData.canLay0] using a
    simp [SeqAt.shaped, a', b']
  refine eq_data (fun _ _ z => by cases z) ?_ (fun k kvs z => by cases z; rw [h1]; exact fun z => by cases z)
  unfold eqData
  rw [p1, p2]
  dsimp only
  rw [if_pos ⟨sh, sh⟩]
  simp [PyData.eqv, eqvI]
theorem bs {i : Int} (h1 : 0 ≤ i) (h2 : i ≤ 100000000000000) : bits i < 9000 := Nat.lt_trans (bits_small (by omega) (by omega)) (by decide)
/-- a call that tells an integer, behind draws and perhaps other objects -/
theorem call_int {S S' : Store} {n : Nat} {k k' : Int} {x : Int} {r : Lk.R D} (h : Src S n k) (hk : k ≤ k') (hr : r = gc S (.int x) S') (s' : Src S' n k') (ag : Ag S n S') : ∃ S'', r = .ok (.int x) S'' ∧ Src S'' n k' ∧ Ag S n S'' := by
  rcases gc_either (S := S) (S' := S') (d := .int x) with ⟨g, _⟩ | g
  · exact ⟨S, by rw [hr, g], h.mono hk, .refl _ _⟩
  · exact ⟨S', by rw [hr, g], s', ag⟩
theorem beat_ok {S : Store} {n : Nat} {k : Int} (h : Src S n k) (hk : k < 2 ^ 40) : ∃ b S', f__law_beat [.ref n] S = .ok (.int b) S' ∧ 3 ≤ b ∧ b ≤ 1440 ∧ Src S' n (k + 2) ∧ Ag S n S' := by
  obtain ⟨r, S1, r1, r2, e1, s1, u1⟩ := draw h (m := 5) (by omega) (by decide) (bs (by decide) (by decide))
  by_cases c0 : r = 0
  · obtain ⟨q, S2, q1, q2, e2, s2, u2⟩ := draw s1 (m := 1438) (by omega) (by decide) (bs (by decide) (by decide))
    refine ⟨3 + q, S2, ?_, by omega, by omega, s2.mono (by omega), (u1.trans u2).ag⟩
    have t0 : decide (r = 0) = true := decide_eq_true c0
    unfold f__law_beat mDef b__law_beat
    simp only [mSeq, RS.seq, mIfS, mTest, mSet, mRet, mVar, mC, mNil, mCons, Lk.m1, Lk.m2, mB, mAnd, mOr, mNot, mAndT, mOrT, mNotT, mIf, mAsg, mNext, mCall, R.bind, R.bindS, R.nxt, asB, gSub', mTup, mLst, List.getElem?_cons_succ, List.getElem?_cons_zero, List.getElem?_nil, List.set_cons_succ, List.set_cons_zero, List.map_cons, List.map_nil, List.cons_append, List.nil_append, List.length_cons, List.length_nil, List.replicate, Lk.gIx, Lk.gAdd, Lk.gSub, Lk.gMul, Lk.gDiv, Lk.gMod, gInt, gCmp, gNeg, gAbs, gGcd, gLen, List.length_map, Lk.listOf, stIx, if_true, if_false, Bool.false_eq_true, reduceIte, Nat.reduceAdd, Nat.reduceSub, Nat.zero_add, eqz_int, pow1010, pow1018, pow1019, Int.reduceMul, Int.reduceAdd, ix40, ix41, ix42, ix43, at40, at41, at42, at43, and_true, true_and, and_self, ne_eq, not_false_eq_true, decide_true, decide_false, decide_eq_true_eq, Bool.and_true, Bool.true_and, mFor, iSeq, srcOf, vals, forGo_n, forGo_c, gSet, mRaise1, mSetF, setF, lim_le, Nat.reduceLeDiff, Bool.not_false, Bool.not_true, Nat.lt_irrefl, List.length_append, List.append_assoc, e1, t0, e2]
    exact gc_len (u1.trans u2).len
  · have t0 : decide (r = 0) = false := decide_eq_false c0
    by_cases c1 : r = 1
    · have t1 : decide (r = 1) = true := decide_eq_true c1
      have hl := s1
      obtain ⟨q, S2, q1, q2, e2, s2, u2⟩ := draw (s1.app (T := [.lst [.int 3, .int 4, .int 60, .int 1440]])) (m := 4) (by omega) (by decide) (bs (by decide) (by decide))
      have h2 : S2[S1.length]? = some (.lst [.int 3, .int 4, .int 60, .int 1440]) := by
        obtain ⟨o, rfl⟩ := u2
        rw [List.getElem?_set_ne (by have := s1.lt; omega)]
        exact last1
      obtain ⟨x, hx, x1, x2⟩ : ∃ x, atI [D.int 3, .int 4, .int 60, .int 1440] q = some (.int x) ∧ 3 ≤ x ∧ x ≤ 1440 := by
        have : q = 0 ∨ q = 1 ∨ q = 2 ∨ q = 3 := by omega
        rcases this with rfl | rfl | rfl | rfl <;> exact ⟨_, rfl, by omega, by omega⟩
      have z4 : (4 : Nat) ≤ lim := by decide
      obtain ⟨S'', e', s', a'⟩ := call_int (r := f__law_beat [.ref n] S) (x := x) h (show k ≤ k + 2 by omega) (S' := S2) (by
        unfold f__law_beat mDef b__law_beat
        simp only [mSeq, RS.seq, mIfS, mTest, mSet, mRet, mVar, mC, mNil, mCons, Lk.m1, Lk.m2, mB, mAnd, mOr, mNot, mAndT, mOrT, mNotT, mIf, mAsg, mNext, mCall, R.bind, R.bindS, R.nxt, asB, gSub', mTup, mLst, List.getElem?_cons_succ, List.getElem?_cons_zero, List.getElem?_nil, List.set_cons_succ, List.set_cons_zero, List.map_cons, List.map_nil, List.cons_append, List.nil_append, List.length_cons, List.length_nil, List.replicate, Lk.gIx, Lk.gAdd, Lk.gSub, Lk.gMul, Lk.gDiv, Lk.gMod, gInt, gCmp, gNeg, gAbs, gGcd, gLen, List.length_map, Lk.listOf, stIx, if_true, if_false, Bool.false_eq_true, reduceIte, Nat.reduceAdd, Nat.reduceSub, Nat.zero_add, eqz_int, pow1010, pow1018, pow1019, Int.reduceMul, Int.reduceAdd, ix40, ix41, ix42, ix43, at40, at41, at42, at43, and_true, true_and, and_self, ne_eq, not_false_eq_true, decide_true, decide_false, decide_eq_true_eq, Bool.and_true, Bool.true_and, mFor, iSeq, srcOf, vals, forGo_n, forGo_c, gSet, mRaise1, mSetF, setF, lim_le, Nat.reduceLeDiff, Bool.not_false, Bool.not_true, Nat.lt_irrefl, List.length_append, List.append_assoc, e1, t0, t1, z4, e2, h2, hx]) (s2.mono (by omega)) ((u1.ag.trans (.app _ _ _)).trans u2.ag)
      exact ⟨x, S'', e', x1, x2, s', a'⟩
    · have t1 : decide (r = 1) = false := decide_eq_false c1
      obtain ⟨q, S2, q1, q2, e2, s2, u2⟩ := draw s1 (m := 10) (by omega) (by decide) (bs (by decide) (by decide))
      refine ⟨3 + q, S2, ?_, by omega, by omega, s2.mono (by omega), (u1.trans u2).ag⟩
      unfold f__law_beat mDef b__law_beat
      simp only [mSeq, RS.seq, mIfS, mTest, mSet, mRet, mVar, mC, mNil, mCons, Lk.m1, Lk.m2, mB, mAnd, mOr, mNot, mAndT, mOrT, mNotT, mIf, mAsg, mNext, mCall, R.bind, R.bindS, R.nxt, asB, gSub', mTup, mLst, List.getElem?_cons_succ, List.getElem?_cons_zero, List.getElem?_nil, List.set_cons_succ, List.set_cons_zero, List.map_cons, List.map_nil, List.cons_append, List.nil_append, List.length_cons, List.length_nil, List.replicate, Lk.gIx, Lk.gAdd, Lk.gSub, Lk.gMul, Lk.gDiv, Lk.gMod, gInt, gCmp, gNeg, gAbs, gGcd, gLen, List.length_map, Lk.listOf, stIx, if_true, if_false, Bool.false_eq_true, reduceIte, Nat.reduceAdd, Nat.reduceSub, Nat.zero_add, eqz_int, pow1010, pow1018, pow1019, Int.reduceMul, Int.reduceAdd, ix40, ix41, ix42, ix43, at40, at41, at42, at43, and_true, true_and, and_self, ne_eq, not_false_eq_true, decide_true, decide_false, decide_eq_true_eq, Bool.and_true, Bool.true_and, mFor, iSeq, srcOf, vals, forGo_n, forGo_c, gSet, mRaise1, mSetF, setF, lim_le, Nat.reduceLeDiff, Bool.not_false, Bool.not_true, Nat.lt_irrefl, List.length_append, List.append_assoc, e1, t0, t1, e2]
      exact gc_len (u1.trans u2).len
theorem pow9 (S : Store) : Lk.gPow (.int 10) (.int 9) S = .ok (.int 1000000000) S := by
  unfold Lk.gPow
  dsimp only
  rw [if_pos (by decide)]
  rfl
theorem parts_ok {S : Store} {n : Nat} {k : Int} (h : Src S n k) (hk : k < 2 ^ 40) : ∃ m S', f__law_parts [.ref n] S = .ok (.int m) S' ∧ 1 ≤ m ∧ m ≤ 1000000000 ∧ Src S' n (k + 3) ∧ Ag S n S' := by
  obtain ⟨a, S1, a1, a2, e1, s1, u1⟩ := draw h (m := 6) (by omega) (by decide) (bs (by decide) (by decide))
  obtain ⟨d, S2, d1, d2, e2, s2, u2⟩ := draw s1 (m := 1000000000) (by omega) (by decide) (bs (by decide) (by decide))
  obtain ⟨q, S3, q1, q2, e3, s3, u3⟩ := draw (s2.app (T := [.lst [.int 1, .int (1 + a), .int (1 + d)]])) (m := 3) (by omega) (by decide) (bs (by decide) (by decide))
  have h3 : S3[S2.length]? = some (.lst [.int 1, .int (1 + a), .int (1 + d)]) := by
    obtain ⟨o, rfl⟩ := u3
    rw [List.getElem?_set_ne (by have := s2.lt; omega)]
    exact last1
  obtain ⟨x, hx, x1, x2⟩ : ∃ x, atI [D.int 1, .int (1 + a), .int (1 + d)] q = some (.int x) ∧ 1 ≤ x ∧ x ≤ 1000000000 := by
    have : q = 0 ∨ q = 1 ∨ q = 2 := by omega
    rcases this with rfl | rfl | rfl <;> exact ⟨_, rfl, by omega, by omega⟩
  have z3 : (3 : Nat) ≤ lim := by decide
  have p9 := fun S => pow9 S
  obtain ⟨S'', e', s', a'⟩ := call_int (r := f__law_parts [.ref n] S) (x := x) h (show k ≤ k + 3 by omega) (S' := S3) (by
    unfold f__law_parts mDef b__law_parts
    simp only [mSeq, RS.seq, mIfS, mTest, mSet, mRet, mVar, mC, mNil, mCons, Lk.m1, Lk.m2, mB, mAnd, mOr, mNot, mAndT, mOrT, mNotT, mIf, mAsg, mNext, mCall, R.bind, R.bindS, R.nxt, asB, gSub', mTup, mLst, List.getElem?_cons_succ, List.getElem?_cons_zero, List.getElem?_nil, List.set_cons_succ, List.set_cons_zero, List.map_cons, List.map_nil, List.cons_append, List.nil_append, List.length_cons, List.length_nil, List.replicate, Lk.gIx, Lk.gAdd, Lk.gSub, Lk.gMul, Lk.gDiv, Lk.gMod, gInt, gCmp, gNeg, gAbs, gGcd, gLen, List.length_map, Lk.listOf, stIx, if_true, if_false, Bool.false_eq_true, reduceIte, Nat.reduceAdd, Nat.reduceSub, Nat.zero_add, eqz_int, pow1010, pow1018, pow1019, Int.reduceMul, Int.reduceAdd, ix40, ix41, ix42, ix43, at40, at41, at42, at43, and_true, true_and, and_self, ne_eq, not_false_eq_true, decide_true, decide_false, decide_eq_true_eq, Bool.and_true, Bool.true_and, mFor, iSeq, srcOf, vals, forGo_n, forGo_c, gSet, mRaise1, mSetF, setF, lim_le, Nat.reduceLeDiff, Bool.not_false, Bool.not_true, Nat.lt_irrefl, List.length_append, List.append_assoc, e1, p9, e2, z3, e3, h3, hx]) (s3.mono (by omega)) (((u1.trans u2).ag.trans (.app _ _ _)).trans u3.ag)
  exact ⟨x, S'', e', x1, x2, s', a'⟩
theorem moment_gen {S : Store} {n : Nat} {k : Int} (h : Src S n k) (hk : k < 2 ^ 40) (c : Cx M b e) (hM9 : M ≤ 1000000000) : ∃ x S', f__law_moment [.ref n, .int b, .int M] S = .ok (.int x) S' ∧ 0 ≤ x ∧ x < b * M ∧ Src S' n (k + 3) ∧ Ch S n S' := by
  have hb1 := c.b1
  have hb2 := c.b2
  have hM := c.hM
  obtain ⟨w, S1, w1, w2, e1, s1, u1⟩ := draw h (m := b) (by omega) (by omega) (bs (by omega) (by omega))
  obtain ⟨z, S2, z1, z2, e2, s2, u2⟩ := draw s1 (m := 3) (by omega) (by decide) (bs (by decide) (by decide))
  have m1 := mulok (show Sz 12 w from .of 1440 (by omega)) c.sM
  have wM : w * M + M ≤ b * M := by
    have : (w + 1) * M ≤ b * M := Int.mul_le_mul_of_nonneg_right (by omega) (by omega)
    rw [Int.add_mul] at this
    omega
  have w0 : 0 ≤ w * M := Int.mul_nonneg w1 (by omega)
  unfold f__law_moment mDef b__law_moment
  by_cases c0 : z = 0
  · have t0 : decide (z = 0) = true := decide_eq_true c0
    refine ⟨w * M, S2, ?_, w0, by omega, s2.mono (by omega), u1.trans u2⟩
    simp only [mSeq, RS.seq, mIfS, mTest, mSet, mRet, mVar, mC, mNil, mCons, Lk.m1, Lk.m2, mB, mAnd, mOr, mNot, mAndT, mOrT, mNotT, mIf, mAsg, mNext, mCall, R.bind, R.bindS, R.nxt, asB, gSub', mTup, mLst, List.getElem?_cons_succ, List.getElem?_cons_zero, List.getElem?_nil, List.set_cons_succ, List.set_cons_zero, List.map_cons, List.map_nil, List.cons_append, List.nil_append, List.length_cons, List.length_nil, List.replicate, Lk.gIx, Lk.gAdd, Lk.gSub, Lk.gMul, Lk.gDiv, Lk.gMod, gInt, gCmp, gNeg, gAbs, gGcd, gLen, List.length_map, Lk.listOf, stIx, if_true, if_false, Bool.false_eq_true, reduceIte, Nat.reduceAdd, Nat.reduceSub, Nat.zero_add, eqz_int, pow1010, pow1018, pow1019, Int.reduceMul, Int.reduceAdd, ix40, ix41, ix42, ix43, at40, at41, at42, at43, and_true, true_and, and_self, ne_eq, not_false_eq_true, decide_true, decide_false, decide_eq_true_eq, Bool.and_true, Bool.true_and, mFor, iSeq, srcOf, vals, forGo_n, forGo_c, gSet, mRaise1, mSetF, setF, lim_le, Nat.reduceLeDiff, Bool.not_false, Bool.not_true, Nat.lt_irrefl, List.length_append, List.append_assoc, e1, m1, e2, t0]
    exact gc_len (u1.trans u2).len
  · have t0 : decide (z = 0) = false := decide_eq_false c0
    obtain ⟨y, S3, y1, y2, e3, s3, u3⟩ := draw s2 (m := M) (by omega) (by omega) (bs (by omega) (by omega))
    refine ⟨w * M + y, S3, ?_, by omega, by omega, s3.mono (by omega), (u1.trans u2).trans u3⟩
    simp only [mSeq, RS.seq, mIfS, mTest, mSet, mRet, mVar, mC, mNil, mCons, Lk.m1, Lk.m2, mB, mAnd, mOr, mNot, mAndT, mOrT, mNotT, mIf, mAsg, mNext, mCall, R.bind, R.bindS, R.nxt, asB, gSub', mTup, mLst, List.getElem?_cons_succ, List.getElem?_cons_zero, List.getElem?_nil, List.set_cons_succ, List.set_cons_zero, List.map_cons, List.map_nil, List.cons_append, List.nil_append, List.length_cons, List.length_nil, List.replicate, Lk.gIx, Lk.gAdd, Lk.gSub, Lk.gMul, Lk.gDiv, Lk.gMod, gInt, gCmp, gNeg, gAbs, gGcd, gLen, List.length_map, Lk.listOf, stIx, if_true, if_false, Bool.false_eq_true, reduceIte, Nat.reduceAdd, Nat.reduceSub, Nat.zero_add, eqz_int, pow1010, pow1018, pow1019, Int.reduceMul, Int.reduceAdd, ix40, ix41, ix42, ix43, at40, at41, at42, at43, and_true, true_and, and_self, ne_eq, not_false_eq_true, decide_true, decide_false, decide_eq_true_eq, Bool.and_true, Bool.true_and, mFor, iSeq, srcOf, vals, forGo_n, forGo_c, gSet, mRaise1, mSetF, setF, lim_le, Nat.reduceLeDiff, Bool.not_false, Bool.not_true, Nat.lt_irrefl, List.length_append, List.append_assoc, e1, m1, e2, t0, e3]
    exact gc_len ((u1.trans u2).trans u3).len
/-! the order of the events -/
def Perm0 (l : List D) (m : Nat) : Prop := l.Nodup ∧ ∀ d ∈ l, ∃ j : Nat, j < m ∧ d = .int (j : Nat)
theorem rngI_succ {lo : Int} {n : Nat} : rngI lo (n + 1) = .int lo :: rngI (lo + 1) n := by
  unfold rngI
  rw [List.range_succ_eq_map, List.map_cons, List.map_map]
  congr 1
  · simp
  · apply List.map_congr_left
    intro i _
    simp only [Function.comp]
    congr 1
    omega
theorem rngI_zero {lo : Int} : rngI lo 0 = [] := rfl
theorem ins_perm {l : List D} {x : D} {i : Nat} : (l.take i ++ [x] ++ l.drop i).Perm (x :: l) := by
  have h : l.take i ++ [x] ++ l.drop i = l.take i ++ x :: l.drop i := by simp
  rw [h]
  have := List.perm_middle (a := x) (l₁ := l.take i) (l₂ := l.drop i)
  rwa [List.take_append_drop] at this
noncomputable def ordb : MS := mDrop (mBM gInsert (mVar 2) (mCons (mCall 2 f__law_draw (mCons (mVar 0) (mCons (m2 Lk.gAdd (mVar 3) (mC (.int 1))) mNil))) (mCons (mVar 3) mNil)))
theorem ord_eq : b__law_order = mSeq (mSet 2 (mLst mNil)) (mSeq (mFor (iRng1' (mCons (mVar 1) mNil)) (gSet 3) ordb) (mRet (mVar 2))) := rfl
theorem ob_loop {n p : Nat} {v1 : Option D} (hn : n < p) : ∀ (r j : Nat) (v3 : Option D) (S : Store) (k : Int) (l : List D), j + r ≤ 24 → Src S n k → k + (r : Nat) < 2 ^ 40 → S[p]? = some (.lst l) → S.length = p + 1 → Perm0 l j → l.length = j →
    ∃ w3 S' l', forGo (fun _ => True) (gSet 3) ordb (rngI (j : Nat) r) [some (.ref n), v1, some (.ref p), v3] S = .nx [some (.ref n), v1, some (.ref p), w3] S' ∧ Src S' n (k + (r : Nat)) ∧ S'[p]? = some (.lst l') ∧ S'.length = p + 1 ∧ Perm0 l' (j + r) ∧ l'.length = j + r ∧ (∀ i, i < p → i ≠ n → S'[i]? = S[i]?)
  | 0, j, v3, S, k, l, hj, hs, hk, hp, hl, h0, h1 => ⟨v3, S, l, by rw [rngI_zero, forGo_n], by simpa using hs, hp, hl, h0, h1, fun _ _ _ => rfl⟩
  | r + 1, j, v3, S, k, l, hj, hs, hk, hp, hl, h0, h1 => by
    obtain ⟨q, S1, q1, q2, e1, s1, u1⟩ := draw hs (m := (j : Nat) + 1) (by omega) (by omega) (bs (by omega) (by omega))
    have hp1 : S1[p]? = some (.lst l) := by
      obtain ⟨o, rfl⟩ := u1
      rw [List.getElem?_set_ne (by omega)]
      exact hp
    obtain ⟨l2, hl2⟩ : ∃ l2, l2 = l.take q.toNat ++ [D.int (j : Nat)] ++ l.drop q.toNat := ⟨_, rfl⟩
    have pm : l2.Perm (.int (j : Nat) :: l) := by rw [hl2]; exact ins_perm
    have p2 : Perm0 l2 (j + 1) := by
      refine ⟨pm.nodup_iff.mpr (List.nodup_cons.mpr ⟨fun z => ?_, h0.1⟩), fun d hd => ?_⟩
      · obtain ⟨i, hi, e⟩ := h0.2 _ z
        cases e
        omega
      · rcases List.mem_cons.mp (pm.mem_iff.mp hd) with z | z
        · exact ⟨j, by omega, z⟩
        · obtain ⟨i, hi, e⟩ := h0.2 _ z
          exact ⟨i, by omega, e⟩
    have lim1 : l.length < lim ∧ 0 ≤ q ∧ q < 2 ^ 63 := by
      have : lim = 16777216 := rfl
      have e63 : (2 : Int) ^ 63 = 9223372036854775808 := by decide
      rw [e63]
      omega
    have gi : gInsert (.ref p) [.int q, .int (j : Nat)] S1 = .ok .non (S1.set p (.lst l2)) := by
      unfold gInsert
      simp only [hp1]
      rw [if_pos lim1, hl2]
    obtain ⟨w3, S', l', e2, s2, a1, a2, a3, a4, a5⟩ := ob_loop hn r (j + 1) (some (.int (j : Nat))) (S1.set p (.lst l2)) (k + 1) l2 (by omega) (s1.ag (Ch.ag ⟨_, rfl⟩) (by omega)) (by omega) (by simp [getlt hp1]) (by rw [List.length_set, u1.len, hl]) p2 (by rw [pm.length_eq]; simp [h1])
    have hob : ordb [some (.ref n), v1, some (.ref p), some (.int (j : Nat))] S = .nx [some (.ref n), v1, some (.ref p), some (.int (j : Nat))] (S1.set p (.lst l2)) := by
      unfold ordb
      simp only [mSeq, RS.seq, mIfS, mTest, mSet, mRet, mVar, mC, mNil, mCons, Lk.m1, Lk.m2, mB, mAnd, mOr, mNot, mAndT, mOrT, mNotT, mIf, mAsg, mNext, mCall, R.bind, R.bindS, R.nxt, asB, gSub', mTup, mLst, List.getElem?_cons_succ, List.getElem?_cons_zero, List.getElem?_nil, List.set_cons_succ, List.set_cons_zero, List.map_cons, List.map_nil, List.cons_append, List.nil_append, List.length_cons, List.length_nil, List.replicate, Lk.gIx, Lk.gAdd, Lk.gSub, Lk.gMul, Lk.gDiv, Lk.gMod, gInt, gCmp, gNeg, gAbs, gGcd, gLen, List.length_map, Lk.listOf, stIx, if_true, if_false, Bool.false_eq_true, reduceIte, Nat.reduceAdd, Nat.reduceSub, Nat.zero_add, eqz_int, pow1010, pow1018, pow1019, Int.reduceMul, Int.reduceAdd, ix40, ix41, ix42, ix43, at40, at41, at42, at43, and_true, true_and, and_self, ne_eq, not_false_eq_true, decide_true, decide_false, decide_eq_true_eq, Bool.and_true, Bool.true_and, mFor, iSeq, srcOf, vals, forGo_n, forGo_c, gSet, mRaise1, mSetF, setF, lim_le, Nat.reduceLeDiff, Bool.not_false, Bool.not_true, Nat.lt_irrefl, List.length_append, List.append_assoc, mDrop, mBM, hp, e1, gi]
    refine ⟨w3, S', l', ?_, by have : k + 1 + (r : Nat) = k + ((r + 1 : Nat) : Int) := by omega
                               rw [← this]; exact s2, a1, a2, by rw [show j + (r + 1) = j + 1 + r by omega]; exact a3, by omega, fun i h2 h3 => ?_⟩
    · rw [rngI_succ]
      have hg : gSet 3 (.int (j : Nat)) [some (.ref n), v1, some (.ref p), v3] S = .ok [some (.ref n), v1, some (.ref p), some (.int (j : Nat))] S := rfl
      rw [forGo_gc trivial hg, hob]
      rw [show ((j : Nat) : Int) + 1 = ((j + 1 : Nat) : Int) by omega]
      exact e2
    · rw [a5 i h2 h3, List.getElem?_set_ne (by omega)]
      obtain ⟨o, rfl⟩ := u1
      rw [List.getElem?_set_ne (by omega)]
theorem mDef_rt {n : Nat} {b : MS} {args : List D} {S S' : Store} {d : D} {env : Lk.Env} (he : args.map some ++ List.replicate (n - args.length) none = env) (h : b env S = .rt d S') : mDef n b args S = gc S d S' := by
  subst he
  unfold mDef
  rw [h]
theorem gc_new {S S' : Store} {p : Nat} (hp : S.length ≤ p := by exact Nat.le_refl _) : gc S (.ref p) S' = .ok (.ref p) S' := by
  unfold Lk.gc
  rw [if_neg]
  rintro ⟨c, _⟩
  simp only [D.cl, decide_eq_true_eq] at c
  omega
theorem order_ok {S : Store} {n : Nat} {k : Int} (h : Src S n k) (hk : k < 2 ^ 30) (he : 1 ≤ e ∧ e ≤ 24) : ∃ l S', f__law_order [.ref n, .int (e : Nat)] S = .ok (.ref S.length) S' ∧ S'[S.length]? = some (.lst l) ∧ Perm0 l e ∧ l.length = e ∧ Src S' n (k + (e : Nat)) ∧ S'.length = S.length + 1 ∧ (∀ i, i < S.length → i ≠ n → S'[i]? = S[i]?) := by
  have hn := h.lt
  obtain ⟨w3, S', l', e1, s1, a1, a2, a3, a4, a5⟩ := ob_loop (v1 := some (.int (e : Nat))) (p := S.length) hn e 0 none (S ++ [.lst []]) k [] (by omega) h.app (by omega) last1 (by simp) ⟨by simp, by simp⟩ rfl
  rw [Nat.zero_add] at a3 a4
  refine ⟨l', S', ?_, a1, a3, a4, s1, a2, fun i h1 h2 => by rw [a5 i h1 h2, List.getElem?_append_left h1]⟩
  have hm : mCons (mVar 1) mNil [some (.ref n), some (.int (e : Nat)), some (.ref S.length), none] (S ++ [.lst []]) = .ok [.int (e : Nat)] (S ++ [.lst []]) := by
    simp only [mCons, mNil, mVar, R.bind, List.getElem?_cons_succ, List.getElem?_cons_zero]
  have hF := mFor_rng (i := 3) (mb := ordb) hm (bd_small (by omega))
  rw [show (((0 : Nat) : Int)) = 0 from rfl] at e1
  rw [e1] at hF
  have hB : b__law_order [some (.ref n), some (.int (e : Nat)), none, none] S = .rt (.ref S.length) S' := by
    rw [ord_eq]
    have c1 : mSet 2 (mLst mNil) [some (.ref n), some (.int (e : Nat)), none, none] S = .nx [some (.ref n), some (.int (e : Nat)), some (.ref S.length), none] (S ++ [.lst []]) := by
      simp only [mSeq, RS.seq, mIfS, mTest, mSet, mRet, mVar, mC, mNil, mCons, Lk.m1, Lk.m2, mB, mAnd, mOr, mNot, mAndT, mOrT, mNotT, mIf, mAsg, mNext, mCall, R.bind, R.bindS, R.nxt, asB, gSub', mTup, mLst, List.getElem?_cons_succ, List.getElem?_cons_zero, List.getElem?_nil, List.set_cons_succ, List.set_cons_zero, List.map_cons, List.map_nil, List.cons_append, List.nil_append, List.length_cons, List.length_nil, List.replicate, Lk.gIx, Lk.gAdd, Lk.gSub, Lk.gMul, Lk.gDiv, Lk.gMod, gInt, gCmp, gNeg, gAbs, gGcd, gLen, List.length_map, Lk.listOf, stIx, if_true, if_false, Bool.false_eq_true, reduceIte, Nat.reduceAdd, Nat.reduceSub, Nat.zero_add, eqz_int, pow1010, pow1018, pow1019, Int.reduceMul, Int.reduceAdd, ix40, ix41, ix42, ix43, at40, at41, at42, at43, and_true, true_and, and_self, ne_eq, not_false_eq_true, decide_true, decide_false, decide_eq_true_eq, Bool.and_true, Bool.true_and, mFor, iSeq, srcOf, vals, forGo_n, forGo_c, gSet, mRaise1, mSetF, setF, lim_le, Nat.reduceLeDiff, Bool.not_false, Bool.not_true, Nat.lt_irrefl, List.length_append, List.append_assoc, ]
    have c2 : mRet (mVar 2) [some (.ref n), some (.int (e : Nat)), some (.ref S.length), w3] S' = .rt (.ref S.length) S' := by
      simp only [mSeq, RS.seq, mIfS, mTest, mSet, mRet, mVar, mC, mNil, mCons, Lk.m1, Lk.m2, mB, mAnd, mOr, mNot, mAndT, mOrT, mNotT, mIf, mAsg, mNext, mCall, R.bind, R.bindS, R.nxt, asB, gSub', mTup, mLst, List.getElem?_cons_succ, List.getElem?_cons_zero, List.getElem?_nil, List.set_cons_succ, List.set_cons_zero, List.map_cons, List.map_nil, List.cons_append, List.nil_append, List.length_cons, List.length_nil, List.replicate, Lk.gIx, Lk.gAdd, Lk.gSub, Lk.gMul, Lk.gDiv, Lk.gMod, gInt, gCmp, gNeg, gAbs, gGcd, gLen, List.length_map, Lk.listOf, stIx, if_true, if_false, Bool.false_eq_true, reduceIte, Nat.reduceAdd, Nat.reduceSub, Nat.zero_add, eqz_int, pow1010, pow1018, pow1019, Int.reduceMul, Int.reduceAdd, ix40, ix41, ix42, ix43, at40, at41, at42, at43, and_true, true_and, and_self, ne_eq, not_false_eq_true, decide_true, decide_false, decide_eq_true_eq, Bool.and_true, Bool.true_and, mFor, iSeq, srcOf, vals, forGo_n, forGo_c, gSet, mRaise1, mSetF, setF, lim_le, Nat.reduceLeDiff, Bool.not_false, Bool.not_true, Nat.lt_irrefl, List.length_append, List.append_assoc, ]
    exact (seq_nx c1).trans ((seq_nx hF).trans c2)
  exact (mDef_rt (n := 4) (b := b__law_order) (args := [.ref n, .int (e : Nat)]) rfl hB).trans gc_new
/-! one span -/
theorem span_ar {len M : Int} (hM : 0 < M) (h0 : 0 ≤ len) (h1 : len < 2880 * M) : 0 ≤ len / M ∧ len / M ≤ 2879 ∧ len / M ≤ -(-len / M) ∧ -(-len / M) ≤ len / M + 1 ∧ -(-len / M) ≤ 2880 := by
  obtain ⟨lo, hlo⟩ : ∃ lo, lo = len / M := ⟨_, rfl⟩
  obtain ⟨z, hz⟩ : ∃ z, z = -len / M := ⟨_, rfl⟩
  have e1 := Int.mul_ediv_add_emod len M
  have e2 := Int.mul_ediv_add_emod (-len) M
  have r1 := Int.emod_nonneg len (show M ≠ 0 by omega)
  have r2 := Int.emod_lt_of_pos len hM
  have r3 := Int.emod_nonneg (-len) (show M ≠ 0 by omega)
  have r4 := Int.emod_lt_of_pos (-len) hM
  rw [← hlo] at e1 ⊢
  rw [← hz] at e2 ⊢
  have a1 : 0 ≤ lo := by rw [hlo]; exact Int.ediv_nonneg h0 (by omega)
  have a2 : lo < 2880 := by
    have : M * lo < M * 2880 := by omega
    exact Int.lt_of_mul_lt_mul_left this (by omega)
  have a3 : lo ≤ -z := by
    have : M * lo ≤ M * (-z) := by rw [Int.mul_neg]; omega
    exact Int.le_of_mul_le_mul_left this hM
  have a4 : -z < lo + 2 := by
    have : M * (-z) < M * (lo + 2) := by rw [Int.mul_neg, Int.mul_add]; omega
    exact Int.lt_of_mul_lt_mul_left this (by omega)
  have a5 : -z < 2881 := by
    have : M * (-z) < M * 2881 := by rw [Int.mul_neg]; omega
    exact Int.lt_of_mul_lt_mul_left this (by omega)
  omega
theorem gmax {S : Store} {i j : Int} : gMax2 [.int i, .int j] S = .ok (.int (if j > i then j else i)) S := rfl
theorem gmin {S : Store} {i j : Int} : gMin2 [.int i, .int j] S = .ok (.int (if j < i then j else i)) S := rfl
def Lkd (M b : Int) (e : Nat) (xs : List Int) (d : D) : Prop := spanB b (e : Nat) d = true ∧ lnOf M b xs d ≤ hiOf d * M
theorem span_gen {S : Store} {n mo : Nat} {k : Int} {xs : List Int} {o t w : Int} (c : Cx M b e) (h : Src S n k) (hk : k < 2 ^ 40) (hm : S[mo]? = some (.lst (xs.map D.int))) (hmo : mo ≠ n) (he : xs.length = e) (ho : 0 ≤ o ∧ o < (e : Nat)) (ht : 0 ≤ t ∧ t < (e : Nat)) (hot : o ≠ t) (hw : 0 ≤ w) :
    ∃ d S', f__law_span [.ref n, .int b, .int M, .ref mo, .int o, .int t, .int w] S = .ok d S' ∧ Lkd M b e xs d ∧ Src S' n (k + 3) ∧ Ch S n S' := by
  have hb1 := c.b1
  have hb2 := c.b2
  have hM := c.hM
  have bM : 0 < b * M := Int.mul_pos (by omega) hM
  have m3 := mulok c.sb c.sM
  have n1 : b * M ≠ 0 := by omega
  have n2 : b ≠ 0 := by omega
  have n3 : M ≠ 0 := by omega
  have kb : bits b < 9000 := bs (by omega) (by omega)
  have kM : bits M < 9000 := by
    have := bits_lt (i := M) 35 c.sM (by decide)
    omega
  have ao : atI (xs.map D.int) o = some (.int (xs.getD o.toNat 0)) := atI_nat (by omega) (by
    rw [List.getElem?_map, List.getElem?_eq_getElem (show o.toNat < xs.length by omega), List.getD_eq_getElem?_getD, List.getElem?_eq_getElem (show o.toNat < xs.length by omega)]
    rfl)
  have at' : atI (xs.map D.int) t = some (.int (xs.getD t.toNat 0)) := atI_nat (by omega) (by
    rw [List.getElem?_map, List.getElem?_eq_getElem (show t.toNat < xs.length by omega), List.getD_eq_getElem?_getD, List.getElem?_eq_getElem (show t.toNat < xs.length by omega)]
    rfl)
  obtain ⟨l0, hl0⟩ : ∃ l0, l0 = (xs.getD t.toNat 0 - xs.getD o.toNat 0) % (b * M) := ⟨_, rfl⟩
  have f1 := fmd_p (i := xs.getD t.toNat 0 - xs.getD o.toNat 0) bM
  rw [← hl0] at f1
  have l01 : 0 ≤ l0 := by rw [hl0]; exact Int.emod_nonneg _ n1
  have l02 : l0 < b * M := by rw [hl0]; exact Int.emod_lt_of_pos _ bM
  have f2 : fdv 2880 b = 2880 / b := if_pos (by omega)
  have qb : b * (2880 / b) ≤ 2880 := Int.mul_ediv_self_le n2
  have q0 : 0 < 2880 / b := by
    have : 2 ≤ 2880 / b := Int.le_ediv_of_mul_le (by omega) (by omega)
    omega
  obtain ⟨mn, hmn⟩ : ∃ mn, mn = (if 2880 / b < 3 then 2880 / b else 3) := ⟨_, rfl⟩
  have mn1 : 0 < mn ∧ mn ≤ 3 ∧ mn ≤ 2880 / b := by rw [hmn]; split <;> omega
  obtain ⟨r, S1, r1, r2, e1, s1, u1⟩ := draw h (m := mn) (by omega) (by omega) (bs (by omega) (by omega))
  have m4 : bits (b * M) + bits r < 1000000 := mulok (c.sb.mul c.sM) (show Sz 12 r from .of 3 (by omega))
  obtain ⟨len, hlen⟩ : ∃ len, len = l0 + b * M * r := ⟨_, rfl⟩
  have len0 : 0 ≤ len := by
    have : 0 ≤ b * M * r := Int.mul_nonneg (by omega) r1
    omega
  have len1 : len < 2880 * M := by
    have h1 : b * M * r + b * M ≤ b * M * mn := by
      have : b * M * (r + 1) ≤ b * M * mn := Int.mul_le_mul_of_nonneg_left (by omega) (by omega)
      rw [Int.mul_add] at this
      omega
    have h2 : b * mn ≤ 2880 := Int.le_trans (Int.mul_le_mul_of_nonneg_left mn1.2.2 (by omega)) qb
    have h3 : b * mn * M ≤ 2880 * M := Int.mul_le_mul_of_nonneg_right h2 (by omega)
    have h4 : b * M * mn = b * mn * M := by grind
    omega
  obtain ⟨a1, a2, a3, a4, a5⟩ := span_ar hM len0 len1
  obtain ⟨lo, hlo⟩ : ∃ lo, lo = len / M := ⟨_, rfl⟩
  obtain ⟨hi, hhi⟩ : ∃ hi, hi = -(-len / M) := ⟨_, rfl⟩
  rw [← hlo] at a1 a2 a3 a4
  rw [← hhi] at a3 a4 a5
  have f3 : fdv len M = lo := by rw [hlo]; exact if_pos hM
  have f4 : -fdv (-len) M = hi := by rw [hhi, show fdv (-len) M = -len / M from if_pos hM]
  obtain ⟨mw, hmw⟩ : ∃ mw, mw = (if b - 2 - (hi - lo) < w then b - 2 - (hi - lo) else w) := ⟨_, rfl⟩
  have mw1 : 0 ≤ mw ∧ mw ≤ b - 2 - (hi - lo) := by rw [hmw]; split <;> omega
  obtain ⟨more, S2, d1, d2, e2, s2, u2⟩ := draw s1 (m := mw + 1) (by omega) (by omega) (bs (by omega) (by omega))
  obtain ⟨bel, S3, g1, g2, e3, s3, u3⟩ := draw s2 (m := more + 1) (by omega) (by omega) (bs (by omega) (by omega))
  refine ⟨.tup [.int o, .int t, .int (if lo - bel > 0 then lo - bel else 0), .int (if hi + more - bel < 2880 then hi + more - bel else 2880)], S3, ?_, ?_, s3.mono (by omega), (u1.trans u2).trans u3⟩
  · unfold f__law_span mDef b__law_span
    simp only [mSeq, RS.seq, mIfS, mTest, mSet, mRet, mVar, mC, mNil, mCons, Lk.m1, Lk.m2, mB, mAnd, mOr, mNot, mAndT, mOrT, mNotT, mIf, mAsg, mNext, mCall, R.bind, R.bindS, R.nxt, asB, gSub', mTup, mLst, List.getElem?_cons_succ, List.getElem?_cons_zero, List.getElem?_nil, List.set_cons_succ, List.set_cons_zero, List.map_cons, List.map_nil, List.cons_append, List.nil_append, List.length_cons, List.length_nil, List.replicate, Lk.gIx, Lk.gAdd, Lk.gSub, Lk.gMul, Lk.gDiv, Lk.gMod, gInt, gCmp, gNeg, gAbs, gGcd, gLen, List.length_map, Lk.listOf, stIx, if_true, if_false, Bool.false_eq_true, reduceIte, Nat.reduceAdd, Nat.reduceSub, Nat.zero_add, eqz_int, pow1010, pow1018, pow1019, Int.reduceMul, Int.reduceAdd, ix40, ix41, ix42, ix43, at40, at41, at42, at43, and_true, true_and, and_self, ne_eq, not_false_eq_true, decide_true, decide_false, decide_eq_true_eq, Bool.and_true, Bool.true_and, mFor, iSeq, srcOf, vals, forGo_n, forGo_c, gSet, mRaise1, mSetF, setF, lim_le, Nat.reduceLeDiff, Bool.not_false, Bool.not_true, Nat.lt_irrefl, List.length_append, List.append_assoc, hm, ao, at', m3, n1, f1, n2, kb, f2, gmin, ← hmn, e1, m4, ← hlen, n3, kM, f3, f4, ← hmw, e2, e3, gmax]
    exact gc_len ((u1.trans u2).trans u3).len
  · obtain ⟨lo', hlo'⟩ : ∃ z, z = (if lo - bel > 0 then lo - bel else 0) := ⟨_, rfl⟩
    obtain ⟨hi', hhi'⟩ : ∃ z, z = (if hi + more - bel < 2880 then hi + more - bel else 2880) := ⟨_, rfl⟩
    rw [← hlo', ← hhi']
    have c1 : 0 ≤ lo' ∧ lo' ≤ lo := by rw [hlo']; split <;> omega
    have c2 : hi ≤ hi' ∧ hi' ≤ 2880 := by rw [hhi']; split <;> omega
    have c3 : hi' - lo' ≤ b - 2 := by rw [hlo', hhi']; split <;> split <;> omega
    refine ⟨by simp only [spanB, decide_eq_true_eq]; exact ⟨ho.1, ho.2, ht.1, ht.2, hot, by omega, by omega, by omega, by omega⟩, ?_⟩
    have d1 : lo * M ≤ len := by rw [hlo]; exact Int.ediv_mul_le _ n3
    have d2 : len ≤ hi * M := by
      have := Int.ediv_mul_le (-len) n3
      rw [hhi, Int.neg_mul]
      omega
    have d3 : lo' * M ≤ lo * M := Int.mul_le_mul_of_nonneg_right c1.2 (by omega)
    have d4 : hi * M ≤ hi' * M := Int.mul_le_mul_of_nonneg_right c2.1 (by omega)
    have d5 : (hi' - lo') * M ≤ (b - 2) * M := Int.mul_le_mul_of_nonneg_right c3 (by omega)
    rw [Int.sub_mul, Int.sub_mul] at d5
    have d6 : xs.getD t.toNat 0 - xs.getD o.toNat 0 - lo' * M = (len - lo' * M) + b * M * ((xs.getD t.toNat 0 - xs.getD o.toNat 0) / (b * M) - r) := by
      have := Int.mul_ediv_add_emod (xs.getD t.toNat 0 - xs.getD o.toNat 0) (b * M)
      rw [← hl0] at this
      rw [hlen, Int.mul_sub]
      omega
    have d7 : (xs.getD t.toNat 0 - xs.getD o.toNat 0 - lo' * M) % (b * M) = len - lo' * M := by
      rw [d6, Int.add_mul_emod_self_left]
      exact Int.emod_eq_of_lt (by omega) (by omega)
    show (xs.getD t.toNat 0 - xs.getD o.toNat 0 - lo' * M) % (b * M) + lo' * M ≤ hi' * M
    rw [d7]
    omega
noncomputable def sbody : MS := (mSeq (mSet 10 (m2 Lk.gMod (mB gInt (mCons (mVar 9) mNil)) (mVar 6)))
  (mSeq (mSet 11 (mCall 2 f__law_draw (mCons (mVar 0) (mCons (mB gMax2 (mCons (mC (.int 1)) (mCons (mVar 10) mNil))) mNil))))
  (mSeq (mIfS (mTest (m2 (gCmp fun i j => decide (j ≤ i)) (mVar 9) (mVar 6))) (mSeq (mSet 10 (mCall 2 f__law_draw (mCons (mVar 0) (mCons (mVar 6) mNil))))
  (mSet 11 (m2 Lk.gMod (mB gInt (mCons (m2 Lk.gAdd (m2 Lk.gAdd (mVar 10) (mC (.int 1))) (mCall 2 f__law_draw (mCons (mVar 0) (mCons (mB gMax2 (mCons (mC (.int 1)) (mCons (m2 Lk.gSub (mVar 6) (mC (.int 1))) mNil))) mNil)))) mNil)) (mVar 6)))) mNext)
  (mSeq (mSet 12 (mCall 2 f__law_draw (mCons (mVar 0) (mCons (mC (.int 2)) mNil))))
  (mSeq (mSet 13 (mLst (mCons (m2 gIx (mVar 7) (mVar 10)) (mCons (m2 gIx (mVar 7) (mVar 11)) mNil))))
  (mSeq (mSet 14 (mOr (m2 (gCmp fun i j => decide (j ≤ i)) (mVar 9) (mVar 6)) (m2 (gCmp fun i j => decide (j < i)) (mCall 2 f__law_draw (mCons (mVar 0) (mCons (mC (.int 7)) mNil))) (mC (.int 0)))))
  (mIfS (mAndT (mTest (mVar 14)) (mTest (m2 (gNeX oe) (mVar 10) (mVar 11)))) (mSeq (mSet 15 (mCall 7 f__law_span (mCons (mVar 0) (mCons (mVar 1) (mCons (mVar 2) (mCons (mVar 3) (mCons (m2 gIx (mVar 13) (mVar 12)) (mCons (m2 gIx (mVar 13) (m2 Lk.gSub (mC (.int 1)) (mVar 12))) (mCons (mVar 5) mNil)))))))))
  (mIfS (mTest (m2 (gInZ true) (mVar 15) (mVar 8))) (mDrop (mBM gInsert (mVar 8) (mCons (mCall 2 f__law_draw (mCons (mVar 0) (mCons (m2 Lk.gAdd (mB gLen (mCons (mVar 8) mNil)) (mC (.int 1))) mNil))) (mCons (mVar 15) mNil)))) mNext)) mNext)))))))
noncomputable def sq1 : MS := (mSet 10 (m2 Lk.gMod (mB gInt (mCons (mVar 9) mNil)) (mVar 6)))
noncomputable def sq2 : MS := (mSet 11 (mCall 2 f__law_draw (mCons (mVar 0) (mCons (mB gMax2 (mCons (mC (.int 1)) (mCons (mVar 10) mNil))) mNil))))
noncomputable def sq3 : MS := (mIfS (mTest (m2 (gCmp fun i j => decide (j ≤ i)) (mVar 9) (mVar 6))) (mSeq (mSet 10 (mCall 2 f__law_draw (mCons (mVar 0) (mCons (mVar 6) mNil))))
  (mSet 11 (m2 Lk.gMod (mB gInt (mCons (m2 Lk.gAdd (m2 Lk.gAdd (mVar 10) (mC (.int 1))) (mCall 2 f__law_draw (mCons (mVar 0) (mCons (mB gMax2 (mCons (mC (.int 1)) (mCons (m2 Lk.gSub (mVar 6) (mC (.int 1))) mNil))) mNil)))) mNil)) (mVar 6)))) mNext)
noncomputable def sq4 : MS := (mSet 12 (mCall 2 f__law_draw (mCons (mVar 0) (mCons (mC (.int 2)) mNil))))
noncomputable def sq5 : MS := (mSet 13 (mLst (mCons (m2 gIx (mVar 7) (mVar 10)) (mCons (m2 gIx (mVar 7) (mVar 11)) mNil))))
noncomputable def sq6 : MS := (mSet 14 (mOr (m2 (gCmp fun i j => decide (j ≤ i)) (mVar 9) (mVar 6)) (m2 (gCmp fun i j => decide (j < i)) (mCall 2 f__law_draw (mCons (mVar 0) (mCons (mC (.int 7)) mNil))) (mC (.int 0)))))
noncomputable def sq7 : MS := (mIfS (mAndT (mTest (mVar 14)) (mTest (m2 (gNeX oe) (mVar 10) (mVar 11)))) (mSeq (mSet 15 (mCall 7 f__law_span (mCons (mVar 0) (mCons (mVar 1) (mCons (mVar 2) (mCons (mVar 3) (mCons (m2 gIx (mVar 13) (mVar 12)) (mCons (m2 gIx (mVar 13) (m2 Lk.gSub (mC (.int 1)) (mVar 12))) (mCons (mVar 5) mNil)))))))))
  (mIfS (mTest (m2 (gInZ true) (mVar 15) (mVar 8))) (mDrop (mBM gInsert (mVar 8) (mCons (mCall 2 f__law_draw (mCons (mVar 0) (mCons (m2 Lk.gAdd (mB gLen (mCons (mVar 8) mNil)) (mC (.int 1))) mNil))) (mCons (mVar 15) mNil)))) mNext)) mNext)
theorem sq_eq : sbody = mSeq sq1 (mSeq sq2 (mSeq sq3 (mSeq sq4 (mSeq sq5 (mSeq sq6 sq7))))) := rfl
theorem spans_eq : b__law_spans = mSeq (mSet 6 (mB gLen (mCons (mVar 3) mNil))) (mSeq (mSet 7 (mCall 2 f__law_order (mCons (mVar 0) (mCons (mVar 6) mNil)))) (mSeq (mSet 8 (mLst mNil)) (mSeq (mFor (iRng2' (mCons (mC (.int 1)) (mCons (m2 Lk.gAdd (mVar 6) (mVar 4)) mNil))) (gSet 9) sbody) (mRet (mVar 8))))) := rfl
/-- the spans made so far -/
structure SI (M b : Int) (e : Nat) (n mo o p s0 : Nat) (ob0 : Ob) (xs : List Int) (od : List D) (k : Int) (m : Nat) (S : Store) : Prop where
  src : Src S n k
  hm : S[mo]? = some (.lst (xs.map D.int))
  ho : S[o]? = some (.lst od)
  h0 : S[s0]? = some ob0
  hp : ∃ l, S[p]? = some (.lst l) ∧ (∀ d ∈ l, Lkd M b e xs d) ∧ l.Nodup ∧ l.length ≤ m
structure SP (e : Nat) (n mo o p s0 : Nat) (xs : List Int) (od : List D) : Prop where
  d1 : mo ≠ n
  d2 : o ≠ n
  d3 : p ≠ n
  d4 : p ≠ mo
  d5 : p ≠ o
  d6 : s0 ≠ n
  d7 : p ≠ s0
  hx : xs.length = e
  po : Perm0 od e
  lo : od.length = e
theorem SI.ch {n mo o p s0 : Nat} {ob0 : Ob} {xs : List Int} {od : List D} {k k' : Int} {m m' : Nat} {S S' : Store} (q : SP e n mo o p s0 xs od) (h : SI M b e n mo o p s0 ob0 xs od k m S) (u : Ch S n S') (s : Src S' n k') (hm : m ≤ m') : SI M b e n mo o p s0 ob0 xs od k' m' S' := by
  obtain ⟨x, rfl⟩ := u
  obtain ⟨l, l1, l2, l3, l4⟩ := h.hp
  exact ⟨s, by rw [List.getElem?_set_ne (Ne.symm q.d1)]; exact h.hm, by rw [List.getElem?_set_ne (Ne.symm q.d2)]; exact h.ho, by rw [List.getElem?_set_ne (Ne.symm q.d6)]; exact h.h0, l, by rw [List.getElem?_set_ne (Ne.symm q.d3)]; exact l1, l2, l3, by omega⟩
theorem SI.app {n mo o p s0 : Nat} {ob0 : Ob} {xs : List Int} {od : List D} {k : Int} {m : Nat} {S T : Store} (h : SI M b e n mo o p s0 ob0 xs od k m S) : SI M b e n mo o p s0 ob0 xs od k m (S ++ T) := by
  obtain ⟨l, l1, l2, l3, l4⟩ := h.hp
  exact ⟨h.src.app, by rw [List.getElem?_append_left (getlt h.hm)]; exact h.hm, by rw [List.getElem?_append_left (getlt h.ho)]; exact h.ho, by rw [List.getElem?_append_left (getlt h.h0)]; exact h.h0, l, by rw [List.getElem?_append_left (getlt l1)]; exact l1, l2, l3, l4⟩
theorem SI.mono {n mo o p s0 : Nat} {ob0 : Ob} {xs : List Int} {od : List D} {k k' : Int} {m m' : Nat} {S : Store} (h : SI M b e n mo o p s0 ob0 xs od k m S) (hk : k ≤ k') (hm : m ≤ m') : SI M b e n mo o p s0 ob0 xs od k' m' S := by
  obtain ⟨l, l1, l2, l3, l4⟩ := h.hp
  exact ⟨h.src.mono hk, h.hm, h.ho, h.h0, l, l1, l2, l3, by omega⟩
theorem ord_at {od : List D} {j : Int} (po : Perm0 od e) (lo : od.length = e) (h1 : 0 ≤ j) (h2 : j < (e : Nat)) : ∃ a : Nat, atI od j = some (.int (a : Nat)) ∧ a < e ∧ od[j.toNat]? = some (.int (a : Nat)) := by
  have hj : od[j.toNat]? = some (od[j.toNat]'(by omega)) := List.getElem?_eq_getElem (by omega)
  obtain ⟨a, ha, e1⟩ := po.2 _ (List.mem_of_getElem? hj)
  rw [e1] at hj
  exact ⟨a, atI_nat h1 hj, ha, hj⟩
theorem ord_ne {od : List D} {i j : Int} {a c : Nat} (po : Perm0 od e) (h1 : 0 ≤ i) (h2 : 0 ≤ j) (hij : i ≠ j) (hi : od[i.toNat]? = some (.int (a : Nat))) (hj : od[j.toNat]? = some (.int (c : Nat))) : (a : Int) ≠ (c : Int) := by
  intro z
  have : i.toNat = j.toNat := by
    have hl1 : i.toNat < od.length := by
      rcases Nat.lt_or_ge i.toNat od.length with z | z
      · exact z
      · rw [List.getElem?_eq_none z] at hi; cases hi
    exact (List.getElem?_inj hl1 po.1).mp (by rw [hi, hj, z])
  omega
theorem sq7_ok {n mo o p s0 z : Nat} {ob0 : Ob} {xs : List Int} {od : List D} {k i one other tn w : Int} {a c : Nat} {kp : Bool} {m : Nat} {v4 u15 : Option D} {S : Store} (cx : Cx M b e) (q : SP e n mo o p s0 xs od) (h : SI M b e n mo o p s0 ob0 xs od k m S) (hk : k < 2 ^ 38) (hm : m ≤ 70) (hz : S[z]? = some (.lst [.int (a : Nat), .int (c : Nat)])) (hzn : z ≠ n) (ha : a < e) (hc : c < e) (hne : one ≠ other → (a : Int) ≠ (c : Int)) (ht : tn = 0 ∨ tn = 1) (hw : 0 ≤ w) :
    ∃ v15 S', sq7 [some (.ref n), some (.int b), some (.int M), some (.ref mo), v4, some (.int w), some (.int (e : Nat)), some (.ref o), some (.ref p), some (.int i), some (.int one), some (.int other), some (.int tn), some (.ref z), some (.bl kp), u15] S
      = .nx [some (.ref n), some (.int b), some (.int M), some (.ref mo), v4, some (.int w), some (.int (e : Nat)), some (.ref o), some (.ref p), some (.int i), some (.int one), some (.int other), some (.int tn), some (.ref z), some (.bl kp), v15] S' ∧ SI M b e n mo o p s0 ob0 xs od (k + 5) (m + 1) S' := by
  obtain ⟨l, l1, l2, l3, l4⟩ := h.hp
  cases kp with
  | false =>
    refine ⟨u15, S, ?_, h.mono (by omega) (by omega)⟩
    unfold sq7
    simp only [mSeq, RS.seq, mIfS, mTest, mSet, mRet, mVar, mC, mNil, mCons, Lk.m1, Lk.m2, mB, mAnd, mOr, mNot, mAndT, mOrT, mNotT, mIf, mAsg, mNext, mCall, R.bind, R.bindS, R.nxt, asB, gSub', mTup, mLst, List.getElem?_cons_succ, List.getElem?_cons_zero, List.getElem?_nil, List.set_cons_succ, List.set_cons_zero, List.map_cons, List.map_nil, List.cons_append, List.nil_append, List.length_cons, List.length_nil, List.replicate, Lk.gIx, Lk.gAdd, Lk.gSub, Lk.gMul, Lk.gDiv, Lk.gMod, gInt, gCmp, gNeg, gAbs, gGcd, gLen, List.length_map, Lk.listOf, stIx, if_true, if_false, Bool.false_eq_true, reduceIte, Nat.reduceAdd, Nat.reduceSub, Nat.zero_add, eqz_int, pow1010, pow1018, pow1019, Int.reduceMul, Int.reduceAdd, ix40, ix41, ix42, ix43, at40, at41, at42, at43, and_true, true_and, and_self, ne_eq, not_false_eq_true, decide_true, decide_false, decide_eq_true_eq, Bool.and_true, Bool.true_and, mFor, iSeq, srcOf, vals, forGo_n, forGo_c, gSet, mRaise1, mSetF, setF, lim_le, Nat.reduceLeDiff, Bool.not_false, Bool.not_true, Nat.lt_irrefl, List.length_append, List.append_assoc, ]
  | true =>
    by_cases ho : one = other
    · have g := gn_int (S := S) (i := one) (j := other)
      rw [decide_eq_true ho] at g
      refine ⟨u15, S, ?_, h.mono (by omega) (by omega)⟩
      unfold sq7
      simp only [mSeq, RS.seq, mIfS, mTest, mSet, mRet, mVar, mC, mNil, mCons, Lk.m1, Lk.m2, mB, mAnd, mOr, mNot, mAndT, mOrT, mNotT, mIf, mAsg, mNext, mCall, R.bind, R.bindS, R.nxt, asB, gSub', mTup, mLst, List.getElem?_cons_succ, List.getElem?_cons_zero, List.getElem?_nil, List.set_cons_succ, List.set_cons_zero, List.map_cons, List.map_nil, List.cons_append, List.nil_append, List.length_cons, List.length_nil, List.replicate, Lk.gIx, Lk.gAdd, Lk.gSub, Lk.gMul, Lk.gDiv, Lk.gMod, gInt, gCmp, gNeg, gAbs, gGcd, gLen, List.length_map, Lk.listOf, stIx, if_true, if_false, Bool.false_eq_true, reduceIte, Nat.reduceAdd, Nat.reduceSub, Nat.zero_add, eqz_int, pow1010, pow1018, pow1019, Int.reduceMul, Int.reduceAdd, ix40, ix41, ix42, ix43, at40, at41, at42, at43, and_true, true_and, and_self, ne_eq, not_false_eq_true, decide_true, decide_false, decide_eq_true_eq, Bool.and_true, Bool.true_and, mFor, iSeq, srcOf, vals, forGo_n, forGo_c, gSet, mRaise1, mSetF, setF, lim_le, Nat.reduceLeDiff, Bool.not_false, Bool.not_true, Nat.lt_irrefl, List.length_append, List.append_assoc, g]
    · have g := gn_int (S := S) (i := one) (j := other)
      rw [decide_eq_false ho] at g
      have hac := hne ho
      obtain ⟨a1, a2, x1, x2, y1, y2, y3⟩ : ∃ a1 a2 : Nat, Lk.gIx (.ref z) (.int tn) S = .ok (.int (a1 : Nat)) S ∧ Lk.gIx (.ref z) (.int (1 - tn)) S = .ok (.int (a2 : Nat)) S ∧ a1 < e ∧ a2 < e ∧ (a1 : Int) ≠ (a2 : Int) := by
        rcases ht with rfl | rfl
        · exact ⟨a, c, by simp only [Lk.gIx, Lk.listOf, hz]; rfl, by simp only [Lk.gIx, Lk.listOf, hz]; rfl, ha, hc, hac⟩
        · exact ⟨c, a, by simp only [Lk.gIx, Lk.listOf, hz]; rfl, by simp only [Lk.gIx, Lk.listOf, hz]; rfl, hc, ha, Ne.symm hac⟩
      obtain ⟨d, S1, e1, sp, s1, u1⟩ := span_gen (M := M) (b := b) (o := (a1 : Nat)) (t := (a2 : Nat)) (w := w) cx h.src (by omega) h.hm q.d1 q.hx (by omega) (by omega) y3 hw
      have h1 := h.ch q u1 s1 (Nat.le_refl m)
      have hp1 : S1[p]? = some (.lst l) := by
        obtain ⟨x, rfl⟩ := u1
        rw [List.getElem?_set_ne (Ne.symm q.d3)]
        exact l1
      have v4s : ∀ x ∈ l, V4 x := fun x hx => spanB_v4 (l2 x hx).1
      have vd := spanB_v4 sp.1
      have hin := in_row (neg := true) (S := S1) (th := .ref p) (.inr ⟨p, rfl, hp1⟩) vd v4s
      simp only [if_true] at hin
      by_cases t : inB d l = true
      · rw [t] at hin
        refine ⟨some d, S1, ?_, h1.mono (by omega) (by omega)⟩
        unfold sq7
        simp only [mIfS, mSeq, RS.seq, mTest, mAndT, mSet, Lk.m2, mCall, mCons, mNil, mVar, mC, R.bind, R.bindS, Lk.gSub, List.getElem?_cons_succ, List.getElem?_cons_zero, List.set_cons_succ, List.set_cons_zero, asB, if_true, g, Bool.not_false, x1, x2, List.length_cons, List.length_nil, Nat.zero_add, Nat.reduceAdd, e1, hin, Bool.not_true, Bool.false_eq_true, if_false, mNext]
      · have tf : inB d l = false := eq_false_of_ne_true t
        rw [tf] at hin
        have nin : d ∉ l := fun z => t ((inB_iff vd v4s).mpr z)
        obtain ⟨y, S2, r1, r2, e2, s2, u2⟩ := draw s1 (m := (l.length : Nat) + 1) (by omega) (by omega) (bs (by omega) (by omega))
        have hp2 : S2[p]? = some (.lst l) := by
          obtain ⟨x, rfl⟩ := u2
          rw [List.getElem?_set_ne (Ne.symm q.d3)]
          exact hp1
        have gl : gLen [.ref p] S1 = .ok (.int (l.length : Nat)) S1 := gLenR (.inr ⟨p, rfl, hp1⟩)
        have lim1 : l.length < lim ∧ 0 ≤ y ∧ y < 2 ^ 63 := by
          have : lim = 16777216 := rfl
          have e63 : (2 : Int) ^ 63 = 9223372036854775808 := by decide
          rw [e63]
          omega
        obtain ⟨l', hl'⟩ : ∃ l', l' = l.take y.toNat ++ [d] ++ l.drop y.toNat := ⟨_, rfl⟩
        have pm : l'.Perm (d :: l) := by rw [hl']; exact ins_perm
        have gi : gInsert (.ref p) [.int y, d] S2 = .ok .non (S2.set p (.lst l')) := by
          unfold gInsert
          simp only [hp2]
          rw [if_pos lim1, hl']
        have h2 := h1.ch q u2 s2 (Nat.le_refl m)
        refine ⟨some d, S2.set p (.lst l'), ?_, ⟨(h2.src.ag (Ch.ag ⟨_, rfl⟩) (Ne.symm q.d3)).mono (by omega), by rw [List.getElem?_set_ne q.d4]; exact h2.hm, by rw [List.getElem?_set_ne q.d5]; exact h2.ho, by rw [List.getElem?_set_ne q.d7]; exact h2.h0, l', by simp [getlt hp2], fun x hx => ?_, pm.nodup_iff.mpr (List.nodup_cons.mpr ⟨nin, l3⟩), by rw [pm.length_eq]; simp; omega⟩⟩
        · unfold sq7
          simp only [mIfS, mSeq, RS.seq, mTest, mAndT, mSet, Lk.m2, mB, mBM, mDrop, mCall, mCons, mNil, mVar, mC, R.bind, R.bindS, Lk.gSub, Lk.gAdd, List.getElem?_cons_succ, List.getElem?_cons_zero, List.set_cons_succ, List.set_cons_zero, asB, if_true, g, Bool.not_false, x1, x2, List.length_cons, List.length_nil, Nat.zero_add, Nat.reduceAdd, e1, hin, hp1, gl, e2, gi, mNext]
        · rcases List.mem_cons.mp (pm.mem_iff.mp hx) with z | z
          · rw [z]; exact sp
          · exact l2 x z
theorem sb_tail {n mo o p s0 : Nat} {ob0 : Ob} {xs : List Int} {od : List D} {k w one other : Int} {i m : Nat} {v4 v12 v13 v14 v15 : Option D} {S : Store} (cx : Cx M b e) (q : SP e n mo o p s0 xs od) (h : SI M b e n mo o p s0 ob0 xs od k m S) (hk : k < 2 ^ 37) (hm : m ≤ 70) (hw : 0 ≤ w) (h1 : 0 ≤ one ∧ one < (e : Nat)) (h2 : 0 ≤ other ∧ other < (e : Nat)) :
    ∃ w12 w13 w14 w15 S', mSeq sq4 (mSeq sq5 (mSeq sq6 sq7)) [some (.ref n), some (.int b), some (.int M), some (.ref mo), v4, some (.int w), some (.int (e : Nat)), some (.ref o), some (.ref p), some (.int (i : Nat)), some (.int one), some (.int other), v12, v13, v14, v15] S
      = .nx [some (.ref n), some (.int b), some (.int M), some (.ref mo), v4, some (.int w), some (.int (e : Nat)), some (.ref o), some (.ref p), some (.int (i : Nat)), some (.int one), some (.int other), w12, w13, w14, w15] S' ∧ SI M b e n mo o p s0 ob0 xs od (k + 7) (m + 1) S' := by
  obtain ⟨tn, S1, t1, t2, e1, s1, u1⟩ := draw h.src (m := 2) (by omega) (by decide) (bs (by decide) (by decide))
  have i1 := h.ch q u1 s1 (Nat.le_refl m)
  obtain ⟨a, x1, a2, x3⟩ := ord_at q.po q.lo h1.1 h1.2
  obtain ⟨c, y1, c2, y3⟩ := ord_at q.po q.lo h2.1 h2.2
  have ne : one ≠ other → (a : Int) ≠ (c : Int) := fun z => ord_ne q.po h1.1 h2.1 z x3 y3
  have z2 : (2 : Nat) ≤ lim := by decide
  have b4 : sq4 [some (.ref n), some (.int b), some (.int M), some (.ref mo), v4, some (.int w), some (.int (e : Nat)), some (.ref o), some (.ref p), some (.int (i : Nat)), some (.int one), some (.int other), v12, v13, v14, v15] S = .nx [some (.ref n), some (.int b), some (.int M), some (.ref mo), v4, some (.int w), some (.int (e : Nat)), some (.ref o), some (.ref p), some (.int (i : Nat)), some (.int one), some (.int other), some (.int tn), v13, v14, v15] S1 := by
    unfold sq4
    simp only [mSeq, RS.seq, mIfS, mTest, mSet, mRet, mVar, mC, mNil, mCons, Lk.m1, Lk.m2, mB, mAnd, mOr, mNot, mAndT, mOrT, mNotT, mIf, mAsg, mNext, mCall, R.bind, R.bindS, R.nxt, asB, gSub', mTup, mLst, List.getElem?_cons_succ, List.getElem?_cons_zero, List.getElem?_nil, List.set_cons_succ, List.set_cons_zero, List.map_cons, List.map_nil, List.cons_append, List.nil_append, List.length_cons, List.length_nil, List.replicate, Lk.gIx, Lk.gAdd, Lk.gSub, Lk.gMul, Lk.gDiv, Lk.gMod, gInt, gCmp, gNeg, gAbs, gGcd, gLen, List.length_map, Lk.listOf, stIx, if_true, if_false, Bool.false_eq_true, reduceIte, Nat.reduceAdd, Nat.reduceSub, Nat.zero_add, eqz_int, pow1010, pow1018, pow1019, Int.reduceMul, Int.reduceAdd, ix40, ix41, ix42, ix43, at40, at41, at42, at43, and_true, true_and, and_self, ne_eq, not_false_eq_true, decide_true, decide_false, decide_eq_true_eq, Bool.and_true, Bool.true_and, mFor, iSeq, srcOf, vals, forGo_n, forGo_c, gSet, mRaise1, mSetF, setF, lim_le, Nat.reduceLeDiff, Bool.not_false, Bool.not_true, Nat.lt_irrefl, List.length_append, List.append_assoc, e1]
  have b5 : sq5 [some (.ref n), some (.int b), some (.int M), some (.ref mo), v4, some (.int w), some (.int (e : Nat)), some (.ref o), some (.ref p), some (.int (i : Nat)), some (.int one), some (.int other), some (.int tn), v13, v14, v15] S1 = .nx [some (.ref n), some (.int b), some (.int M), some (.ref mo), v4, some (.int w), some (.int (e : Nat)), some (.ref o), some (.ref p), some (.int (i : Nat)), some (.int one), some (.int other), some (.int tn), some (.ref S1.length), v14, v15] (S1 ++ [.lst [.int (a : Nat), .int (c : Nat)]]) := by
    have ho := i1.ho
    unfold sq5
    simp only [mSeq, RS.seq, mIfS, mTest, mSet, mRet, mVar, mC, mNil, mCons, Lk.m1, Lk.m2, mB, mAnd, mOr, mNot, mAndT, mOrT, mNotT, mIf, mAsg, mNext, mCall, R.bind, R.bindS, R.nxt, asB, gSub', mTup, mLst, List.getElem?_cons_succ, List.getElem?_cons_zero, List.getElem?_nil, List.set_cons_succ, List.set_cons_zero, List.map_cons, List.map_nil, List.cons_append, List.nil_append, List.length_cons, List.length_nil, List.replicate, Lk.gIx, Lk.gAdd, Lk.gSub, Lk.gMul, Lk.gDiv, Lk.gMod, gInt, gCmp, gNeg, gAbs, gGcd, gLen, List.length_map, Lk.listOf, stIx, if_true, if_false, Bool.false_eq_true, reduceIte, Nat.reduceAdd, Nat.reduceSub, Nat.zero_add, eqz_int, pow1010, pow1018, pow1019, Int.reduceMul, Int.reduceAdd, ix40, ix41, ix42, ix43, at40, at41, at42, at43, and_true, true_and, and_self, ne_eq, not_false_eq_true, decide_true, decide_false, decide_eq_true_eq, Bool.and_true, Bool.true_and, mFor, iSeq, srcOf, vals, forGo_n, forGo_c, gSet, mRaise1, mSetF, setF, lim_le, Nat.reduceLeDiff, Bool.not_false, Bool.not_true, Nat.lt_irrefl, List.length_append, List.append_assoc, ho, x1, y1, z2]
  have i2 : SI M b e n mo o p s0 ob0 xs od (k + 1) m (S1 ++ [.lst [.int (a : Nat), .int (c : Nat)]]) := i1.app
  have hz : (S1 ++ [Ob.lst [.int (a : Nat), .int (c : Nat)]])[S1.length]? = some (.lst [.int (a : Nat), .int (c : Nat)]) := last1
  have b6 : ∃ kp S2, sq6 [some (.ref n), some (.int b), some (.int M), some (.ref mo), v4, some (.int w), some (.int (e : Nat)), some (.ref o), some (.ref p), some (.int (i : Nat)), some (.int one), some (.int other), some (.int tn), some (.ref S1.length), v14, v15] (S1 ++ [.lst [.int (a : Nat), .int (c : Nat)]]) = .nx [some (.ref n), some (.int b), some (.int M), some (.ref mo), v4, some (.int w), some (.int (e : Nat)), some (.ref o), some (.ref p), some (.int (i : Nat)), some (.int one), some (.int other), some (.int tn), some (.ref S1.length), some (.bl kp), v15] S2 ∧ SI M b e n mo o p s0 ob0 xs od (k + 2) m S2 ∧ S2[S1.length]? = some (.lst [.int (a : Nat), .int (c : Nat)]) := by
    by_cases c0 : ((e : Nat) : Int) ≤ (i : Nat)
    · refine ⟨true, _, ?_, i2.mono (by omega) (Nat.le_refl m), hz⟩
      unfold sq6
      simp only [mSeq, RS.seq, mIfS, mTest, mSet, mRet, mVar, mC, mNil, mCons, Lk.m1, Lk.m2, mB, mAnd, mOr, mNot, mAndT, mOrT, mNotT, mIf, mAsg, mNext, mCall, R.bind, R.bindS, R.nxt, asB, gSub', mTup, mLst, List.getElem?_cons_succ, List.getElem?_cons_zero, List.getElem?_nil, List.set_cons_succ, List.set_cons_zero, List.map_cons, List.map_nil, List.cons_append, List.nil_append, List.length_cons, List.length_nil, List.replicate, Lk.gIx, Lk.gAdd, Lk.gSub, Lk.gMul, Lk.gDiv, Lk.gMod, gInt, gCmp, gNeg, gAbs, gGcd, gLen, List.length_map, Lk.listOf, stIx, if_true, if_false, Bool.false_eq_true, reduceIte, Nat.reduceAdd, Nat.reduceSub, Nat.zero_add, eqz_int, pow1010, pow1018, pow1019, Int.reduceMul, Int.reduceAdd, ix40, ix41, ix42, ix43, at40, at41, at42, at43, and_true, true_and, and_self, ne_eq, not_false_eq_true, decide_true, decide_false, decide_eq_true_eq, Bool.and_true, Bool.true_and, mFor, iSeq, srcOf, vals, forGo_n, forGo_c, gSet, mRaise1, mSetF, setF, lim_le, Nat.reduceLeDiff, Bool.not_false, Bool.not_true, Nat.lt_irrefl, List.length_append, List.append_assoc, c0]
    · obtain ⟨r, S2, r1, r2, e2, s2, u2⟩ := draw i2.src (m := 7) (by omega) (by decide) (bs (by decide) (by decide))
      refine ⟨decide (0 < r), S2, ?_, i2.ch q u2 (s2.mono (by omega)) (Nat.le_refl m), ?_⟩
      · unfold sq6
        simp only [mSeq, RS.seq, mIfS, mTest, mSet, mRet, mVar, mC, mNil, mCons, Lk.m1, Lk.m2, mB, mAnd, mOr, mNot, mAndT, mOrT, mNotT, mIf, mAsg, mNext, mCall, R.bind, R.bindS, R.nxt, asB, gSub', mTup, mLst, List.getElem?_cons_succ, List.getElem?_cons_zero, List.getElem?_nil, List.set_cons_succ, List.set_cons_zero, List.map_cons, List.map_nil, List.cons_append, List.nil_append, List.length_cons, List.length_nil, List.replicate, Lk.gIx, Lk.gAdd, Lk.gSub, Lk.gMul, Lk.gDiv, Lk.gMod, gInt, gCmp, gNeg, gAbs, gGcd, gLen, List.length_map, Lk.listOf, stIx, if_true, if_false, Bool.false_eq_true, reduceIte, Nat.reduceAdd, Nat.reduceSub, Nat.zero_add, eqz_int, pow1010, pow1018, pow1019, Int.reduceMul, Int.reduceAdd, ix40, ix41, ix42, ix43, at40, at41, at42, at43, and_true, true_and, and_self, ne_eq, not_false_eq_true, decide_true, decide_false, decide_eq_true_eq, Bool.and_true, Bool.true_and, mFor, iSeq, srcOf, vals, forGo_n, forGo_c, gSet, mRaise1, mSetF, setF, lim_le, Nat.reduceLeDiff, Bool.not_false, Bool.not_true, Nat.lt_irrefl, List.length_append, List.append_assoc, c0, e2]
      · obtain ⟨x, rfl⟩ := u2
        rw [List.getElem?_set_ne (by have := i1.src.lt; omega)]
        exact hz
  obtain ⟨kp, S2, b6, i3, hz2⟩ := b6
  obtain ⟨w15, S', b7, i4⟩ := sq7_ok (i := (i : Nat)) (one := one) (other := other) (tn := tn) (w := w) (kp := kp) (v4 := v4) (u15 := v15) cx q i3 (by omega) hm hz2 (by have := i1.src.lt; omega) a2 c2 ne (by omega) hw
  exact ⟨_, _, _, w15, S', (seq_nx b4).trans ((seq_nx b5).trans ((seq_nx b6).trans b7)), i4.mono (by omega) (Nat.le_refl _)⟩
theorem sb_step {n mo o p s0 : Nat} {ob0 : Ob} {xs : List Int} {od : List D} {k w : Int} {i m : Nat} {v4 v10 v11 v12 v13 v14 v15 : Option D} {S : Store} (cx : Cx M b e) (q : SP e n mo o p s0 xs od) (h : SI M b e n mo o p s0 ob0 xs od k m S) (hk : k < 2 ^ 36) (hm : m ≤ 70) (hi : 1 ≤ i ∧ i ≤ 100) (hw : 0 ≤ w) :
    ∃ w10 w11 w12 w13 w14 w15 S', sbody [some (.ref n), some (.int b), some (.int M), some (.ref mo), v4, some (.int w), some (.int (e : Nat)), some (.ref o), some (.ref p), some (.int (i : Nat)), v10, v11, v12, v13, v14, v15] S
      = .nx [some (.ref n), some (.int b), some (.int M), some (.ref mo), v4, some (.int w), some (.int (e : Nat)), some (.ref o), some (.ref p), some (.int (i : Nat)), w10, w11, w12, w13, w14, w15] S' ∧ SI M b e n mo o p s0 ob0 xs od (k + 10) (m + 1) S' := by
  have e1 := cx.e1
  have e2 := cx.e2
  have ep : (0 : Int) < ((e : Nat) : Int) := by omega
  have e0 : ((e : Nat) : Int) ≠ 0 := by omega
  obtain ⟨o0, ho0⟩ : ∃ o0, o0 = ((i : Nat) : Int) % (e : Nat) := ⟨_, rfl⟩
  have f1 : fmd ((i : Nat) : Int) (e : Nat) = o0 := by rw [fmd_p ep, ho0]
  have o01 : 0 ≤ o0 := by rw [ho0]; exact Int.emod_nonneg _ e0
  have o02 : o0 < (e : Nat) := by rw [ho0]; exact Int.emod_lt_of_pos _ ep
  have b1 : sq1 [some (.ref n), some (.int b), some (.int M), some (.ref mo), v4, some (.int w), some (.int (e : Nat)), some (.ref o), some (.ref p), some (.int (i : Nat)), v10, v11, v12, v13, v14, v15] S = .nx [some (.ref n), some (.int b), some (.int M), some (.ref mo), v4, some (.int w), some (.int (e : Nat)), some (.ref o), some (.ref p), some (.int (i : Nat)), some (.int o0), v11, v12, v13, v14, v15] S := by
    unfold sq1
    simp only [mSeq, RS.seq, mIfS, mTest, mSet, mRet, mVar, mC, mNil, mCons, Lk.m1, Lk.m2, mB, mAnd, mOr, mNot, mAndT, mOrT, mNotT, mIf, mAsg, mNext, mCall, R.bind, R.bindS, R.nxt, asB, gSub', mTup, mLst, List.getElem?_cons_succ, List.getElem?_cons_zero, List.getElem?_nil, List.set_cons_succ, List.set_cons_zero, List.map_cons, List.map_nil, List.cons_append, List.nil_append, List.length_cons, List.length_nil, List.replicate, Lk.gIx, Lk.gAdd, Lk.gSub, Lk.gMul, Lk.gDiv, Lk.gMod, gInt, gCmp, gNeg, gAbs, gGcd, gLen, List.length_map, Lk.listOf, stIx, if_true, if_false, Bool.false_eq_true, reduceIte, Nat.reduceAdd, Nat.reduceSub, Nat.zero_add, eqz_int, pow1010, pow1018, pow1019, Int.reduceMul, Int.reduceAdd, ix40, ix41, ix42, ix43, at40, at41, at42, at43, and_true, true_and, and_self, ne_eq, not_false_eq_true, decide_true, decide_false, decide_eq_true_eq, Bool.and_true, Bool.true_and, mFor, iSeq, srcOf, vals, forGo_n, forGo_c, gSet, mRaise1, mSetF, setF, lim_le, Nat.reduceLeDiff, Bool.not_false, Bool.not_true, Nat.lt_irrefl, List.length_append, List.append_assoc, e0, f1]
  obtain ⟨mx, hmx⟩ : ∃ mx, mx = (if o0 > 1 then o0 else 1) := ⟨_, rfl⟩
  have mx1 : 0 < mx ∧ mx ≤ 24 := by rw [hmx]; split <;> omega
  obtain ⟨r, S1, r1, r2, d1, s1, u1⟩ := draw h.src (m := mx) (by omega) mx1.1 (bs (by omega) (by omega))
  have i1 := h.ch q u1 s1 (Nat.le_refl m)
  have b2 : sq2 [some (.ref n), some (.int b), some (.int M), some (.ref mo), v4, some (.int w), some (.int (e : Nat)), some (.ref o), some (.ref p), some (.int (i : Nat)), some (.int o0), v11, v12, v13, v14, v15] S = .nx [some (.ref n), some (.int b), some (.int M), some (.ref mo), v4, some (.int w), some (.int (e : Nat)), some (.ref o), some (.ref p), some (.int (i : Nat)), some (.int o0), some (.int r), v12, v13, v14, v15] S1 := by
    unfold sq2
    simp only [mSeq, RS.seq, mIfS, mTest, mSet, mRet, mVar, mC, mNil, mCons, Lk.m1, Lk.m2, mB, mAnd, mOr, mNot, mAndT, mOrT, mNotT, mIf, mAsg, mNext, mCall, R.bind, R.bindS, R.nxt, asB, gSub', mTup, mLst, List.getElem?_cons_succ, List.getElem?_cons_zero, List.getElem?_nil, List.set_cons_succ, List.set_cons_zero, List.map_cons, List.map_nil, List.cons_append, List.nil_append, List.length_cons, List.length_nil, List.replicate, Lk.gIx, Lk.gAdd, Lk.gSub, Lk.gMul, Lk.gDiv, Lk.gMod, gInt, gCmp, gNeg, gAbs, gGcd, gLen, List.length_map, Lk.listOf, stIx, if_true, if_false, Bool.false_eq_true, reduceIte, Nat.reduceAdd, Nat.reduceSub, Nat.zero_add, eqz_int, pow1010, pow1018, pow1019, Int.reduceMul, Int.reduceAdd, ix40, ix41, ix42, ix43, at40, at41, at42, at43, and_true, true_and, and_self, ne_eq, not_false_eq_true, decide_true, decide_false, decide_eq_true_eq, Bool.and_true, Bool.true_and, mFor, iSeq, srcOf, vals, forGo_n, forGo_c, gSet, mRaise1, mSetF, setF, lim_le, Nat.reduceLeDiff, Bool.not_false, Bool.not_true, Nat.lt_irrefl, List.length_append, List.append_assoc, gmax, ← hmx, d1]
  by_cases c0 : ((e : Nat) : Int) ≤ (i : Nat)
  · obtain ⟨y, S2, y1, y2, d2, s2, u2⟩ := draw i1.src (m := (e : Nat)) (by omega) ep (bs (by omega) (by omega))
    have i2 := i1.ch q u2 s2 (Nat.le_refl m)
    obtain ⟨my, hmy⟩ : ∃ my, my = (if ((e : Nat) : Int) - 1 > 1 then ((e : Nat) : Int) - 1 else 1) := ⟨_, rfl⟩
    have my1 : 0 < my ∧ my ≤ 24 := by rw [hmy]; split <;> omega
    obtain ⟨v, S3, v1, v2, d3, s3, u3⟩ := draw i2.src (m := my) (by omega) my1.1 (bs (by omega) (by omega))
    have i3 := i2.ch q u3 s3 (Nat.le_refl m)
    have f2 := fmd_p (i := y + 1 + v) ep
    have g1 := Int.emod_nonneg (y + 1 + v) e0
    have g2 := Int.emod_lt_of_pos (y + 1 + v) ep
    have b3 : sq3 [some (.ref n), some (.int b), some (.int M), some (.ref mo), v4, some (.int w), some (.int (e : Nat)), some (.ref o), some (.ref p), some (.int (i : Nat)), some (.int o0), some (.int r), v12, v13, v14, v15] S1 = .nx [some (.ref n), some (.int b), some (.int M), some (.ref mo), v4, some (.int w), some (.int (e : Nat)), some (.ref o), some (.ref p), some (.int (i : Nat)), some (.int y), some (.int ((y + 1 + v) % (e : Nat))), v12, v13, v14, v15] S3 := by
      unfold sq3
      simp only [mSeq, RS.seq, mIfS, mTest, mSet, mRet, mVar, mC, mNil, mCons, Lk.m1, Lk.m2, mB, mAnd, mOr, mNot, mAndT, mOrT, mNotT, mIf, mAsg, mNext, mCall, R.bind, R.bindS, R.nxt, asB, gSub', mTup, mLst, List.getElem?_cons_succ, List.getElem?_cons_zero, List.getElem?_nil, List.set_cons_succ, List.set_cons_zero, List.map_cons, List.map_nil, List.cons_append, List.nil_append, List.length_cons, List.length_nil, List.replicate, Lk.gIx, Lk.gAdd, Lk.gSub, Lk.gMul, Lk.gDiv, Lk.gMod, gInt, gCmp, gNeg, gAbs, gGcd, gLen, List.length_map, Lk.listOf, stIx, if_true, if_false, Bool.false_eq_true, reduceIte, Nat.reduceAdd, Nat.reduceSub, Nat.zero_add, eqz_int, pow1010, pow1018, pow1019, Int.reduceMul, Int.reduceAdd, ix40, ix41, ix42, ix43, at40, at41, at42, at43, and_true, true_and, and_self, ne_eq, not_false_eq_true, decide_true, decide_false, decide_eq_true_eq, Bool.and_true, Bool.true_and, mFor, iSeq, srcOf, vals, forGo_n, forGo_c, gSet, mRaise1, mSetF, setF, lim_le, Nat.reduceLeDiff, Bool.not_false, Bool.not_true, Nat.lt_irrefl, List.length_append, List.append_assoc, c0, d2, gmax, ← hmy, d3, e0, f2]
    obtain ⟨w12, w13, w14, w15, S', bt, it⟩ := sb_tail (i := i) (w := w) (v4 := v4) (v12 := v12) (v13 := v13) (v14 := v14) (v15 := v15) cx q i3 (by omega) hm hw ⟨y1, y2⟩ ⟨g1, g2⟩
    exact ⟨_, _, w12, w13, w14, w15, S', by rw [sq_eq]; exact (seq_nx b1).trans ((seq_nx b2).trans ((seq_nx b3).trans bt)), it.mono (by omega) (Nat.le_refl _)⟩
  · have oi : o0 = (i : Nat) := by rw [ho0]; exact Int.emod_eq_of_lt (by omega) (by omega)
    have hr : r < (e : Nat) := by
      rw [hmx] at r2
      split at r2 <;> omega
    have b3 : sq3 [some (.ref n), some (.int b), some (.int M), some (.ref mo), v4, some (.int w), some (.int (e : Nat)), some (.ref o), some (.ref p), some (.int (i : Nat)), some (.int o0), some (.int r), v12, v13, v14, v15] S1 = .nx [some (.ref n), some (.int b), some (.int M), some (.ref mo), v4, some (.int w), some (.int (e : Nat)), some (.ref o), some (.ref p), some (.int (i : Nat)), some (.int o0), some (.int r), v12, v13, v14, v15] S1 := by
      unfold sq3
      simp only [mSeq, RS.seq, mIfS, mTest, mSet, mRet, mVar, mC, mNil, mCons, Lk.m1, Lk.m2, mB, mAnd, mOr, mNot, mAndT, mOrT, mNotT, mIf, mAsg, mNext, mCall, R.bind, R.bindS, R.nxt, asB, gSub', mTup, mLst, List.getElem?_cons_succ, List.getElem?_cons_zero, List.getElem?_nil, List.set_cons_succ, List.set_cons_zero, List.map_cons, List.map_nil, List.cons_append, List.nil_append, List.length_cons, List.length_nil, List.replicate, Lk.gIx, Lk.gAdd, Lk.gSub, Lk.gMul, Lk.gDiv, Lk.gMod, gInt, gCmp, gNeg, gAbs, gGcd, gLen, List.length_map, Lk.listOf, stIx, if_true, if_false, Bool.false_eq_true, reduceIte, Nat.reduceAdd, Nat.reduceSub, Nat.zero_add, eqz_int, pow1010, pow1018, pow1019, Int.reduceMul, Int.reduceAdd, ix40, ix41, ix42, ix43, at40, at41, at42, at43, and_true, true_and, and_self, ne_eq, not_false_eq_true, decide_true, decide_false, decide_eq_true_eq, Bool.and_true, Bool.true_and, mFor, iSeq, srcOf, vals, forGo_n, forGo_c, gSet, mRaise1, mSetF, setF, lim_le, Nat.reduceLeDiff, Bool.not_false, Bool.not_true, Nat.lt_irrefl, List.length_append, List.append_assoc, c0]
    obtain ⟨w12, w13, w14, w15, S', bt, it⟩ := sb_tail (i := i) (w := w) (v4 := v4) (v12 := v12) (v13 := v13) (v14 := v14) (v15 := v15) cx q i1 (by omega) hm hw ⟨o01, o02⟩ ⟨r1, hr⟩
    exact ⟨_, _, w12, w13, w14, w15, S', by rw [sq_eq]; exact (seq_nx b1).trans ((seq_nx b2).trans ((seq_nx b3).trans bt)), it.mono (by omega) (Nat.le_refl _)⟩
theorem sb_loop {n mo o p s0 : Nat} {ob0 : Ob} {xs : List Int} {od : List D} {w : Int} {v4 : Option D} (cx : Cx M b e) (q : SP e n mo o p s0 xs od) (hw : 0 ≤ w) : ∀ (r i m : Nat) (k : Int) (v9 v10 v11 v12 v13 v14 v15 : Option D) (S : Store), 1 ≤ i → i + r ≤ 70 → m + r ≤ 60 → k + 10 * (r : Nat) < 2 ^ 35 → SI M b e n mo o p s0 ob0 xs od k m S →
    ∃ w9 w10 w11 w12 w13 w14 w15 S', forGo (fun _ => True) (gSet 9) sbody (rngI (i : Nat) r) [some (.ref n), some (.int b), some (.int M), some (.ref mo), v4, some (.int w), some (.int (e : Nat)), some (.ref o), some (.ref p), v9, v10, v11, v12, v13, v14, v15] S
      = .nx [some (.ref n), some (.int b), some (.int M), some (.ref mo), v4, some (.int w), some (.int (e : Nat)), some (.ref o), some (.ref p), w9, w10, w11, w12, w13, w14, w15] S' ∧ SI M b e n mo o p s0 ob0 xs od (k + 10 * (r : Nat)) (m + r) S'
  | 0, i, m, k, v9, v10, v11, v12, v13, v14, v15, S, h1, h2, h3, hk, h => ⟨v9, v10, v11, v12, v13, v14, v15, S, by rw [rngI_zero, forGo_n], h.mono (by omega) (by omega)⟩
  | r + 1, i, m, k, v9, v10, v11, v12, v13, v14, v15, S, h1, h2, h3, hk, h => by
    obtain ⟨w10, w11, w12, w13, w14, w15, S1, e1, s1⟩ := sb_step (i := i) (w := w) (v4 := v4) (v10 := v10) (v11 := v11) (v12 := v12) (v13 := v13) (v14 := v14) (v15 := v15) cx q h (by omega) (by omega) (by omega) hw
    obtain ⟨x9, x10, x11, x12, x13, x14, x15, S2, e2, s2⟩ := sb_loop cx q hw r (i + 1) (m + 1) (k + 10) (some (.int (i : Nat))) w10 w11 w12 w13 w14 w15 S1 (by omega) (by omega) (by omega) (by omega) s1 (v4 := v4)
    refine ⟨x9, x10, x11, x12, x13, x14, x15, S2, ?_, s2.mono (by omega) (by omega)⟩
    rw [rngI_succ]
    have hg : gSet 9 (.int (i : Nat)) [some (.ref n), some (.int b), some (.int M), some (.ref mo), v4, some (.int w), some (.int (e : Nat)), some (.ref o), some (.ref p), v9, v10, v11, v12, v13, v14, v15] S = .ok [some (.ref n), some (.int b), some (.int M), some (.ref mo), v4, some (.int w), some (.int (e : Nat)), some (.ref o), some (.ref p), some (.int (i : Nat)), v10, v11, v12, v13, v14, v15] S := rfl
    rw [forGo_gc trivial hg, e1]
    rw [show ((i : Nat) : Int) + 1 = ((i + 1 : Nat) : Int) by omega]
    exact e2
theorem mSet_ok {i : Nat} {a : ME} {env : Lk.Env} {S S' : Store} {d : D} (h : a env S = .ok d S') : mSet i a env S = .nx (env.set i (some d)) S' := by
  unfold mSet
  rw [h]
  rfl
theorem mCall_ok {n : Nat} {f : List D → Store → Lk.R D} {m : MA} {env : Lk.Env} {S S1 S2 : Store} {ds : List D} {d : D} (hm : m env S = .ok ds S1) (hl : ds.length = n) (hf : f ds S1 = .ok d S2) : mCall n f m env S = .ok d S2 := by
  unfold mCall
  rw [hm]
  simp only [R.bind]
  rw [if_pos hl, hf]
theorem rng2_of {m : MA} {env : Lk.Env} {S S1 : Store} {i j : Int} (h : m env S = .ok [.int i, .int j] S1) (h1 : bd i) (h2 : bd j) : iRng2' m env S = .ok (vals (rngI i (j - i).toNat)) S1 := by
  unfold iRng2'
  rw [h]
  exact if_pos ⟨h1, h2⟩
theorem mFor_src {mi : MI} {i : Nat} {mb : MS} {env : Lk.Env} {S S1 : Store} {ds : List D} (h : mi env S = .ok (vals ds) S1) : mFor mi (gSet i) mb env S = forGo (fun _ => True) (gSet i) mb ds env S1 := by
  unfold mFor
  rw [h]
  rfl
theorem spans_ok {S : Store} {n mo s0 : Nat} {ob0 : Ob} {k loose w : Int} {xs : List Int} (cx : Cx M b e) (h : Src S n k) (hk : k < 2 ^ 30) (hm : S[mo]? = some (.lst (xs.map D.int))) (hmo : mo ≠ n) (hs0 : S[s0]? = some ob0) (hsn : s0 ≠ n) (hx : xs.length = e) (hl : 0 ≤ loose ∧ loose ≤ 36) (hw : 0 ≤ w) :
    ∃ p l S', f__law_spans [.ref n, .int b, .int M, .ref mo, .int loose, .int w] S = .ok (.ref p) S' ∧ S.length ≤ p ∧ S'[p]? = some (.lst l) ∧ OKr b (e : Nat) l ∧ S'[mo]? = some (.lst (xs.map D.int)) ∧ S'[s0]? = some ob0 ∧ ∀ d ∈ l, Lkd M b e xs d := by
  have e1 := cx.e1
  have e2 := cx.e2
  have hml := getlt hm
  have hsl := getlt hs0
  have hnl := h.lt
  obtain ⟨od, S1, o1, o2, o3, o4, o5, o6, o7⟩ := order_ok h hk (e := e) ⟨e1, e2⟩
  have q : SP e n mo S.length S1.length s0 xs od := ⟨hmo, by omega, by omega, by omega, by omega, hsn, by omega, hx, o3, o4⟩
  have si : SI M b e n mo S.length S1.length s0 ob0 xs od (k + (e : Nat)) 0 (S1 ++ [.lst []]) := by
    refine ⟨o5.app, ?_, ?_, ?_, [], last1, by simp, by simp, by simp⟩
    · rw [List.getElem?_append_left (by omega), o7 mo hml hmo]; exact hm
    · rw [List.getElem?_append_left (by omega)]; exact o2
    · rw [List.getElem?_append_left (by omega), o7 s0 hsl hsn]; exact hs0
  obtain ⟨r, hr⟩ : ∃ r : Nat, r = (((e : Nat) : Int) + loose - 1).toNat := ⟨_, rfl⟩
  obtain ⟨w9, w10, w11, w12, w13, w14, w15, S2, lp, si2⟩ := sb_loop (v4 := some (.int loose)) cx q hw r 1 0 (k + (e : Nat)) none none none none none none none (S1 ++ [.lst []]) (by omega) (by omega) (by omega) (by omega) si
  obtain ⟨l, l1, l2, l3, l4⟩ := si2.hp
  refine ⟨S1.length, l, S2, ?_, by omega, l1, ⟨fun d hd => (l2 d hd).1, l3, by omega⟩, si2.hm, si2.h0, l2⟩
  have gl : gLen [.ref mo] S = .ok (.int (e : Nat)) S := by
    have := gLenR (S := S) (th := .ref mo) (.inr ⟨mo, rfl, hm⟩)
    rw [List.length_map, hx] at this
    exact this
  have c1 : mSet 6 (mB gLen (mCons (mVar 3) mNil)) [some (.ref n), some (.int b), some (.int M), some (.ref mo), some (.int loose), some (.int w), none, none, none, none, none, none, none, none, none, none] S
      = .nx [some (.ref n), some (.int b), some (.int M), some (.ref mo), some (.int loose), some (.int w), some (.int (e : Nat)), none, none, none, none, none, none, none, none, none] S := by
    simp only [mSet, mB, mCons, mNil, mVar, R.bind, R.bindS, List.getElem?_cons_succ, List.getElem?_cons_zero, List.set_cons_succ, List.set_cons_zero, gl]
  have c2 : mSet 7 (mCall 2 f__law_order (mCons (mVar 0) (mCons (mVar 6) mNil))) [some (.ref n), some (.int b), some (.int M), some (.ref mo), some (.int loose), some (.int w), some (.int (e : Nat)), none, none, none, none, none, none, none, none, none] S
      = .nx [some (.ref n), some (.int b), some (.int M), some (.ref mo), some (.int loose), some (.int w), some (.int (e : Nat)), some (.ref S.length), none, none, none, none, none, none, none, none] S1 := by
    have hm : mCons (mVar 0) (mCons (mVar 6) mNil) [some (.ref n), some (.int b), some (.int M), some (.ref mo), some (.int loose), some (.int w), some (.int (e : Nat)), none, none, none, none, none, none, none, none, none] S = .ok [.ref n, .int (e : Nat)] S := by
      simp only [mCons, mNil, mVar, R.bind, List.getElem?_cons_succ, List.getElem?_cons_zero]
    exact mSet_ok (mCall_ok hm rfl o1)
  have c3 : mSet 8 (mLst mNil) [some (.ref n), some (.int b), some (.int M), some (.ref mo), some (.int loose), some (.int w), some (.int (e : Nat)), some (.ref S.length), none, none, none, none, none, none, none, none] S1
      = .nx [some (.ref n), some (.int b), some (.int M), some (.ref mo), some (.int loose), some (.int w), some (.int (e : Nat)), some (.ref S.length), some (.ref S1.length), none, none, none, none, none, none, none] (S1 ++ [.lst []]) := by
    simp only [mSeq, RS.seq, mIfS, mTest, mSet, mRet, mVar, mC, mNil, mCons, Lk.m1, Lk.m2, mB, mAnd, mOr, mNot, mAndT, mOrT, mNotT, mIf, mAsg, mNext, mCall, R.bind, R.bindS, R.nxt, asB, gSub', mTup, mLst, List.getElem?_cons_succ, List.getElem?_cons_zero, List.getElem?_nil, List.set_cons_succ, List.set_cons_zero, List.map_cons, List.map_nil, List.cons_append, List.nil_append, List.length_cons, List.length_nil, List.replicate, Lk.gIx, Lk.gAdd, Lk.gSub, Lk.gMul, Lk.gDiv, Lk.gMod, gInt, gCmp, gNeg, gAbs, gGcd, gLen, List.length_map, Lk.listOf, stIx, if_true, if_false, Bool.false_eq_true, reduceIte, Nat.reduceAdd, Nat.reduceSub, Nat.zero_add, eqz_int, pow1010, pow1018, pow1019, Int.reduceMul, Int.reduceAdd, ix40, ix41, ix42, ix43, at40, at41, at42, at43, and_true, true_and, and_self, ne_eq, not_false_eq_true, decide_true, decide_false, decide_eq_true_eq, Bool.and_true, Bool.true_and, mFor, iSeq, srcOf, vals, forGo_n, forGo_c, gSet, mRaise1, mSetF, setF, lim_le, Nat.reduceLeDiff, Bool.not_false, Bool.not_true, Nat.lt_irrefl, List.length_append, List.append_assoc, ]
  have hi : iRng2' (mCons (mC (.int 1)) (mCons (m2 Lk.gAdd (mVar 6) (mVar 4)) mNil)) [some (.ref n), some (.int b), some (.int M), some (.ref mo), some (.int loose), some (.int w), some (.int (e : Nat)), some (.ref S.length), some (.ref S1.length), none, none, none, none, none, none, none] (S1 ++ [.lst []]) = .ok (vals (rngI 1 r)) (S1 ++ [.lst []]) := by
    have ga : mCons (mC (.int 1)) (mCons (m2 Lk.gAdd (mVar 6) (mVar 4)) mNil) [some (.ref n), some (.int b), some (.int M), some (.ref mo), some (.int loose), some (.int w), some (.int (e : Nat)), some (.ref S.length), some (.ref S1.length), none, none, none, none, none, none, none] (S1 ++ [.lst []]) = .ok [.int 1, .int ((e : Nat) + loose)] (S1 ++ [.lst []]) := by
      simp only [mCons, mNil, mC, Lk.m2, mVar, R.bind, List.getElem?_cons_succ, List.getElem?_cons_zero, Lk.gAdd]
    rw [hr]
    exact rng2_of ga (by decide) (by
      have e62 : (2 : Int) ^ 62 = 4611686018427387904 := by decide
      unfold bd
      rw [e62]
      constructor <;> omega)
  have c4 := mFor_src (i := 9) (mb := sbody) hi
  rw [show (((1 : Nat)) : Int) = 1 from rfl] at lp
  rw [lp] at c4
  have c5 : mRet (mVar 8) [some (.ref n), some (.int b), some (.int M), some (.ref mo), some (.int loose), some (.int w), some (.int (e : Nat)), some (.ref S.length), some (.ref S1.length), w9, w10, w11, w12, w13, w14, w15] S2 = .rt (.ref S1.length) S2 := by
    simp only [mRet, mVar, R.bindS, List.getElem?_cons_succ, List.getElem?_cons_zero]
  have hB : b__law_spans [some (.ref n), some (.int b), some (.int M), some (.ref mo), some (.int loose), some (.int w), none, none, none, none, none, none, none, none, none, none] S = .rt (.ref S1.length) S2 := by
    rw [spans_eq]
    exact (seq_nx c1).trans ((seq_nx c2).trans ((seq_nx c3).trans ((seq_nx c4).trans c5)))
  exact (mDef_rt (n := 16) (b := b__law_spans) (args := [.ref n, .int b, .int M, .ref mo, .int loose, .int w]) rfl hB).trans (gc_new (by omega))
theorem Odd.back {S S' : Store} {d : D} (h : Odd S' d) (c : d.cl S.length = true) (t : S'.take S.length = S) : Odd S d := h.imp fun m o hm e => by
  subst e
  have hm' : m < S.length := by simpa [D.cl] using c
  rw [← t, List.getElem?_take_of_lt hm']
  exact hm
def VT (M : Int) (t s : D) : Prop := ∃ x, s = .int x ∧ Sz 60 x ∧ Vl M x t
/-- what a loop that changes the list at sc keeps -/
structure IB (e : Nat) (n mo sc : Nat) (xs : List Int) (S0 : Store) (k : Int) (S : Store) : Prop where
  src : Src S n k
  hm : S[mo]? = some (.lst (xs.map D.int))
  hs : ∃ ys : List Int, S[sc]? = some (.lst (ys.map D.int)) ∧ ys.length = e ∧ ∀ y ∈ ys, Sz 60 y
  kp : ∀ m, m < S0.length → m ≠ n → m ≠ sc → S[m]? = S0[m]?
  ln : S0.length ≤ S.length
theorem IB.mono {n mo sc : Nat} {xs : List Int} {S0 S : Store} {k k' : Int} (h : IB e n mo sc xs S0 k S) (hk : k ≤ k') : IB e n mo sc xs S0 k' S := ⟨h.src.mono hk, h.hm, h.hs, h.kp, h.ln⟩
theorem ixN_lt {l : Nat} {j : Int} (h1 : 0 ≤ j) (h2 : j < (l : Nat)) : ixN l j = some j.toNat := by
  unfold ixN
  simp [h1, h2]
theorem F2.set {P : D → D → Prop} {t s : D} (h : P t s) : ∀ {ds rs : List D} {i : Nat}, F2 P ds rs → F2 P (ds.set i t) (rs.set i s)
  | [], [], _, f => f
  | d :: ds, r :: rs, 0, f => ⟨h, f.2⟩
  | d :: ds, r :: rs, i + 1, f => ⟨f.1, F2.set h f.2⟩
  | [], _ :: _, _, f => f.elim
  | _ :: _, [], _, f => f.elim
theorem It.ag {S S' : Store} {t s : D} (h : It M S t s) (k : ∀ m o, S[m]? = some o → t = .ref m → S'[m]? = some o) : It M S' t s := h.imp (fun z => z) fun z => ⟨z.1, z.2.1.imp k, z.2.2⟩
theorem V4.sv {S : Store} {d : D} (h : V4 d) : SV S d := by
  obtain ⟨i, j, lo, hi, rfl⟩ := h
  refine .tup (by simp) fun x hx => ?_
  simp only [List.mem_cons, List.not_mem_nil, or_false] at hx
  rcases hx with rfl | rfl | rfl | rfl <;> exact .inl ⟨_, rfl⟩
theorem sum_vl {S : Store} {M x y : Int} {d d' : D} (hM : 0 < M) (sM : Sz 100 M) (sx : Sz 110 x) (sy : Sz 110 y) (h : Vl M x d) (h' : Vl M y d') : ∃ d'', gBinX tAdd rAdd Lk.gAdd d d' S = .ok d'' S ∧ Vl M (x + y) d'' := by
  obtain ⟨p, q, n, lo, e⟩ := h
  obtain ⟨p', q', n', lo', e'⟩ := h'
  obtain ⟨s1, s2⟩ := vl_sz lo hM e sM sx
  obtain ⟨s3, s4⟩ := vl_sz lo' hM e' sM sy
  have u : ∀ {i : Int}, Sz 110 i → Sz 300 i := fun h => h.mono (by decide)
  have w : ∀ {i : Int}, Sz 100 i → Sz 300 i := fun h => h.mono (by decide)
  have hb : q * q' ≠ 0 := Int.mul_ne_zero lo.ne lo'.ne
  have ev : (p * q' + p' * q) * M = (x + y) * (q * q') := by
    calc (p * q' + p' * q) * M = (p * M) * q' + (p' * M) * q := by grind
      _ = (x + y) * (q * q') := by rw [e, e']; grind
  rcases n with ⟨rfl, rfl⟩ | rfl
  · rcases n' with ⟨rfl, rfl⟩ | rfl
    · refine ⟨.int (p + p'), by rw [gbi]; rfl, p + p', 1, .inl ⟨rfl, rfl⟩, low_one _, ?_⟩
      rw [Int.mul_one] at e e' ⊢
      rw [Int.add_mul, e, e']
    · refine ⟨_, gbr (g := Lk.gAdd) rAdd_r (radd_ok (S := S) (u s3) (w s4) (u s1) lo'.ne), ?_⟩
      refine vl_mk (by rw [Int.mul_one]; exact lo'.ne) ?_
      calc (p' * 1 + p * q') * M = (p * q' + p' * 1) * M := by grind
        _ = (x + y) * (q' * 1) := by rw [ev]; grind
  · exact ⟨_, gb (g := Lk.gAdd) n' tAdd_r (add_ok (S := S) n' (u s1) (w s2) (u s3) (w s4) lo.ne lo'.ne), vl_mk hb ev⟩
/-! heads of pieces; the tree -/
def eI : D → Int
  | .tup [.int i, _, _, _] => i
  | _ => 0
def eJ : D → Int
  | .tup [_, .int j, _, _] => j
  | _ => 0
def hdAt (hs : List Int) (i : Int) : Int := hs.getD i.toNat 0
def jn (hs : List Int) (a c : Int) : List Int := hs.map fun h => if h = a ∨ h = c then (if c < a then c else a) else h
def mkF : Nat → List D → List Int → List Nat → List Int × List Nat
  | _, [], hs, ks => (hs, ks)
  | k, d :: ds, hs, ks => if hdAt hs (eI d) = hdAt hs (eJ d) then mkF (k + 1) ds hs ks else mkF (k + 1) ds (jn hs (hdAt hs (eI d)) (hdAt hs (eJ d))) (ks ++ [k])
theorem mkF_nil {k : Nat} {hs : List Int} {ks : List Nat} : mkF k [] hs ks = (hs, ks) := by rw [mkF]
theorem mkF_cons {k : Nat} {d : D} {ds : List D} {hs : List Int} {ks : List Nat} : mkF k (d :: ds) hs ks = if hdAt hs (eI d) = hdAt hs (eJ d) then mkF (k + 1) ds hs ks else mkF (k + 1) ds (jn hs (hdAt hs (eI d)) (hdAt hs (eJ d))) (ks ++ [k]) := by rw [mkF]
def rng0 (e : Nat) : List Int := (List.range e).map fun i => ((i : Nat) : Int)
def hds (e : Nat) (l : List D) : List Int := (mkF 0 l (rng0 e) []).1
def kpt (e : Nat) (l : List D) : List Nat := (mkF 0 l (rng0 e) []).2
theorem jn_len {hs : List Int} {a c : Int} : (jn hs a c).length = hs.length := by simp [jn]
theorem sp4 {b e : Int} {d : D} (h : spanB b e d = true) : ∃ i j lo hi, d = .tup [.int i, .int j, .int lo, .int hi] ∧ 0 ≤ i ∧ i < e ∧ 0 ≤ j ∧ j < e ∧ i ≠ j ∧ 0 ≤ lo ∧ lo ≤ hi ∧ hi ≤ 2880 ∧ hi - lo ≤ b - 2 := by
  obtain ⟨i, j, lo, hi, rfl⟩ := spanB_v4 h
  exact ⟨i, j, lo, hi, rfl, by simpa [spanB] using h⟩
theorem rng0_len {e : Nat} : (rng0 e).length = e := by simp [rng0]
section
variable {b : Int} {e : Nat}
end
/-! ways along the tree -/
abbrev Stp := Nat × Bool
def sb_ (l : List D) (s : Stp) : Int := if s.2 = true then eI (l.getD s.1 .non) else eJ (l.getD s.1 .non)
def se_ (l : List D) (s : Stp) : Int := if s.2 = true then eJ (l.getD s.1 .non) else eI (l.getD s.1 .non)
def stD (s : Stp) : D := .tup [.int (s.1 : Nat), .bl s.2]
def wayD (w : List Stp) : D := .tup (w.map stD)
def stL (ks : List Nat) : List Stp := ks.flatMap fun k => [(k, true), (k, false)]
def Chn (l : List D) : Int → List Stp → Int → Prop
  | s, [], t => s = t
  | s, x :: xs, t => sb_ l x = s ∧ Chn l (se_ l x) xs t
theorem Chn.snoc {l : List D} {x : Stp} : ∀ {xs : List Stp} {s t : Int}, Chn l s xs t → sb_ l x = t → Chn l s (xs ++ [x]) (se_ l x)
  | [], s, t, h, hx => by
    have h : s = t := h
    exact ⟨hx.trans h.symm, rfl⟩
  | y :: xs, s, t, h, hx => ⟨h.1, Chn.snoc h.2 hx⟩
abbrev Fd := List (Int × List Stp)
def kvF (fd : Fd) : List (Key × D) := fd.map fun p => (Sum.inl p.1, wayD p.2)
def keys (fd : Fd) : List Int := fd.map fun p => p.1
def fdL (fd : Fd) (x : Int) : Option (List Stp) := (fd.find? fun p => decide (p.1 = x)).map fun p => p.2
theorem fdL_some {fd : Fd} {x : Int} {w : List Stp} (h : fdL fd x = some w) : (x, w) ∈ fd := by
  unfold fdL at h
  cases q : fd.find? (fun p => decide (p.1 = x)) with
  | none => rw [q] at h; cases h
  | some p =>
    rw [q] at h
    have h1 := List.find?_some q
    have h2 := List.mem_of_find?_eq_some q
    have e1 : p.1 = x := by simpa using h1
    have e2 : p.2 = w := by simpa using h
    rw [← e1, ← e2]
    exact h2
theorem fdL_none {fd : Fd} {x : Int} : fdL fd x = none ↔ x ∉ keys fd := by
  unfold fdL keys
  rw [Option.map_eq_none_iff, List.find?_eq_none]
  constructor
  · intro h hx
    obtain ⟨p, hp, e⟩ := List.mem_map.mp hx
    exact h p hp (by simp [e])
  · intro h p hp z
    exact h (List.mem_map.mpr ⟨p, hp, by simpa using z⟩)
theorem fdL_is {fd : Fd} {x : Int} (h : x ∈ keys fd) : ∃ w, fdL fd x = some w := by
  cases q : fdL fd x with
  | none => exact absurd h (fdL_none.mp q)
  | some w => exact ⟨w, rfl⟩
theorem nd_len : ∀ (e : Nat) (xs : List Int), xs.Nodup → (∀ x ∈ xs, 0 ≤ x ∧ x < (e : Int)) → xs.length ≤ e
  | 0, xs, _, h => by
    cases xs with
    | nil => simp
    | cons x xs => have := h x List.mem_cons_self; omega
  | e + 1, xs, nd, h => by
    have ih := nd_len e (xs.erase (e : Int)) (nd.erase _) fun x hx => by
      have h1 := (nd.mem_erase_iff).mp hx
      have := h x h1.2
      have := h1.1
      omega
    by_cases c : (e : Int) ∈ xs
    · rw [List.length_erase_of_mem c] at ih
      omega
    · rw [List.erase_of_not_mem c] at ih
      omega
structure TW (l : List D) (ks : List Nat) (s : Int) (e : Nat) (fd : Fd) : Prop where
  st : s ∈ keys fd
  nd : (keys fd).Nodup
  rg : ∀ x ∈ keys fd, 0 ≤ x ∧ x < (e : Int)
  ch : ∀ p ∈ fd, Chn l s p.2 p.1
  ks : ∀ p ∈ fd, ∀ x ∈ p.2, x.1 ∈ ks
  ix : ∀ p ∈ fd, (p.2.map fun x => x.1).Nodup
  en : ∀ p ∈ fd, ∀ x ∈ p.2, sb_ l x ∈ keys fd ∧ se_ l x ∈ keys fd
theorem keys_app {fd : Fd} {x : Int} {w : List Stp} : keys (fd ++ [(x, w)]) = keys fd ++ [x] := by simp [keys]
theorem TW.len {l : List D} {ks : List Nat} {s : Int} {e : Nat} {fd : Fd} (h : TW l ks s e fd) : fd.length ≤ e := by
  have := nd_len e (keys fd) h.nd h.rg
  simpa [keys] using this
def Clo (l : List D) (ks : List Nat) (fd : Fd) (x : Int) : Prop := ∀ st ∈ stL ks, sb_ l st = x → se_ l st ∈ keys fd
theorem Clo.mono {l : List D} {ks : List Nat} {fd : Fd} {x y : Int} {w : List Stp} (h : Clo l ks fd x) : Clo l ks (fd ++ [(y, w)]) x := fun st hs e => by
  rw [keys_app]
  exact List.mem_append_left _ (h st hs e)
theorem stL_mem {ks : List Nat} {s : Stp} : s ∈ stL ks ↔ s.1 ∈ ks := by
  unfold stL
  rw [List.mem_flatMap]
  obtain ⟨k, f⟩ := s
  constructor
  · rintro ⟨a, ha, h⟩
    rcases List.mem_cons.mp h with z | z
    · cases z; exact ha
    · rw [List.mem_singleton] at z
      cases z
      exact ha
  · intro h
    exact ⟨k, h, by cases f <;> simp⟩
/-! pieces: equal heads, joined by spans of the tree -/
theorem jn_at {hs : List Int} {a c x : Int} (h0 : 0 ≤ x) (h1 : x < (hs.length : Nat)) : hdAt (jn hs a c) x = if hdAt hs x = a ∨ hdAt hs x = c then (if c < a then c else a) else hdAt hs x := by
  unfold hdAt jn
  rw [List.getD_eq_getElem?_getD, List.getElem?_map, List.getD_eq_getElem?_getD, List.getElem?_eq_getElem (by omega)]
  rfl
theorem rng0_at {e : Nat} {x : Int} (h0 : 0 ≤ x) (h1 : x < (e : Nat)) : hdAt (rng0 e) x = x := by
  unfold hdAt rng0
  rw [List.getD_eq_getElem?_getD, List.getElem?_map, List.getElem?_range (by omega)]
  simp
  omega
/-- what joins: closed under the tree's spans, heads alike -/
def Jo (e : Nat) (l : List D) (hs : List Int) (ks : List Nat) : Prop := ∀ C : Int → Prop, (∀ k ∈ ks, (C (eI (l.getD k .non)) ↔ C (eJ (l.getD k .non)))) → ∀ x y : Int, 0 ≤ x → x < (e : Nat) → 0 ≤ y → y < (e : Nat) → hdAt hs x = hdAt hs y → (C x ↔ C y)
def Sm (l : List D) (hs : List Int) (ks : List Nat) : Prop := ∀ k ∈ ks, hdAt hs (eI (l.getD k .non)) = hdAt hs (eJ (l.getD k .non))
theorem mkF_jo {b : Int} {e : Nat} {l : List D} (hd : ∀ d ∈ l, spanB b (e : Nat) d = true) : ∀ (ds pre : List D) (hs : List Int) (ks : List Nat), pre ++ ds = l → hs.length = e → (∀ k ∈ ks, k < pre.length) → Jo e l hs ks → Sm l hs ks → Jo e l (mkF pre.length ds hs ks).1 (mkF pre.length ds hs ks).2 ∧ Sm l (mkF pre.length ds hs ks).1 (mkF pre.length ds hs ks).2 ∧ ∀ k ∈ (mkF pre.length ds hs ks).2, k < l.length
  | [], pre, hs, ks, hl, he, hk, h1, h2 => by
    rw [mkF_nil]
    refine ⟨h1, h2, fun k z => ?_⟩
    have := hk k z
    rw [← hl]
    simpa using this
  | d :: ds, pre, hs, ks, hl, he, hk, h1, h2 => by
    have hl2 : (pre ++ [d]) ++ ds = l := by rw [← hl]; simp
    have len2 : (pre ++ [d]).length = pre.length + 1 := by simp
    have hdm : d ∈ l := by rw [← hl]; simp
    have gd : l.getD pre.length .non = d := by rw [← hl]; simp
    obtain ⟨i, j, lo, hi, ed, i0, i1, j0, j1, ij, _⟩ := sp4 (hd d hdm)
    have ei : eI d = i := by rw [ed]; rfl
    have ej : eJ d = j := by rw [ed]; rfl
    have key := mkF_jo hd ds (pre ++ [d])
    rw [len2] at key
    rw [mkF_cons, ei, ej]
    by_cases c : hdAt hs i = hdAt hs j
    · rw [if_pos c]
      exact key hs ks hl2 he (fun k z => by have := hk k z; omega) h1 h2
    · rw [if_neg c]
      refine key _ _ hl2 (by rw [jn_len]; exact he) (fun k z => ?_) ?_ ?_
      · rcases List.mem_append.mp z with z | z
        · have := hk k z; omega
        · rw [List.mem_singleton.mp z]; omega
      · intro C hC x y x0 x1 y0 y1 exy
        have hC1 : ∀ k ∈ ks, (C (eI (l.getD k .non)) ↔ C (eJ (l.getD k .non))) := fun k z => hC k (List.mem_append_left _ z)
        have hij : C i ↔ C j := by
          have := hC pre.length (by simp)
          rw [gd, ei, ej] at this
          exact this
        have cl : ∀ z : Int, 0 ≤ z → z < (e : Nat) → (hdAt hs z = hdAt hs i ∨ hdAt hs z = hdAt hs j) → (C z ↔ C i) := fun z z0 z1 hz => by
          rcases hz with hz | hz
          · exact h1 C hC1 z i z0 z1 i0 i1 hz
          · exact (h1 C hC1 z j z0 z1 j0 j1 hz).trans hij.symm
        rw [jn_at x0 (by omega), jn_at y0 (by omega)] at exy
        by_cases cx : hdAt hs x = hdAt hs i ∨ hdAt hs x = hdAt hs j
        · by_cases cy : hdAt hs y = hdAt hs i ∨ hdAt hs y = hdAt hs j
          · exact (cl x x0 x1 cx).trans (cl y y0 y1 cy).symm
          · rw [if_pos cx, if_neg cy] at exy
            exfalso
            apply cy
            rw [← exy]
            split <;> simp
        · by_cases cy : hdAt hs y = hdAt hs i ∨ hdAt hs y = hdAt hs j
          · rw [if_neg cx, if_pos cy] at exy
            exfalso
            apply cx
            rw [exy]
            split <;> simp
          · rw [if_neg cx, if_neg cy] at exy
            exact h1 C hC1 x y x0 x1 y0 y1 exy
      · intro k z
        have rg : ∀ k, k < l.length → 0 ≤ eI (l.getD k .non) ∧ eI (l.getD k .non) < (hs.length : Nat) ∧ 0 ≤ eJ (l.getD k .non) ∧ eJ (l.getD k .non) < (hs.length : Nat) := fun k hk => by
          have hm : l.getD k .non ∈ l := by
            rw [List.getD_eq_getElem?_getD, List.getElem?_eq_getElem hk]
            exact List.getElem_mem hk
          obtain ⟨i, j, lo, hi, ed, i0, i1, j0, j1, ij, _⟩ := sp4 (hd _ hm)
          rw [ed, he]
          exact ⟨i0, i1, j0, j1⟩
        have kl : k < l.length := by
          rcases List.mem_append.mp z with z | z
          · have := hk k z
            rw [← hl]; simp; omega
          · rw [List.mem_singleton.mp z, ← hl]; simp
        obtain ⟨r1, r2, r3, r4⟩ := rg k kl
        rw [jn_at r1 r2, jn_at r3 r4]
        rcases List.mem_append.mp z with z | z
        · rw [h2 k z]
        · rw [List.mem_singleton.mp z, gd, ei, ej, if_pos (show hdAt hs i = hdAt hs i ∨ hdAt hs i = hdAt hs j from .inl rfl), if_pos (show hdAt hs j = hdAt hs i ∨ hdAt hs j = hdAt hs j from .inr rfl)]
theorem tree_jo {b : Int} {e : Nat} {l : List D} (hd : ∀ d ∈ l, spanB b (e : Nat) d = true) : Jo e l (hds e l) (kpt e l) ∧ Sm l (hds e l) (kpt e l) ∧ ∀ k ∈ kpt e l, k < l.length := by
  have := mkF_jo hd l [] (rng0 e) [] rfl rng0_len (fun k z => by cases z) (fun C hC x y x0 x1 y0 y1 h => by
    rw [rng0_at x0 x1, rng0_at y0 y1] at h
    rw [h]) (fun k z => by cases z)
  exact this
/-- the state within: what is found, what is fresh -/
structure TI (l : List D) (ks : List Nat) (s : Int) (e : Nat) (S0 : Store) (ps pd pf : Nat) (fd : Fd) (fr : List Int) (S' : Store) : Prop where
  od : Od S0 S'
  hs : S'[ps]? = some (.lst ((stL ks).map stD))
  hd : S'[pd]? = some (.dk (kvF fd))
  hf : S'[pf]? = some (.lst (fr.map D.int))
  tw : TW l ks s e fd
  fk : ∀ x ∈ fr, x ∈ keys fd
def evB (e : Nat) : D → Bool
  | .int i => decide (0 ≤ i ∧ i < (e : Nat))
  | _ => false
theorem evB_int {d : D} (h : evB e d = true) : ∃ i : Int, d = .int i ∧ 0 ≤ i ∧ i < (e : Nat) := by
  cases d with
  | int i => exact ⟨i, rfl, by simpa [evB] using h⟩
  | _ => cases h
theorem evB_no {d : D} (h : isInt d = false) : evB e d = false := by
  cases d with
  | int i => cases h
  | _ => rfl
theorem below_any {S : Store} {l : Int} {d : D} (h : Kn S d) (hi : isInt d = false) : f_is_below [.int l, d] S = .ok (.bl false) S := by
  have h1 := isint h
  refine Wr.eq (w_def ?_)
  unfold b_is_below
  push_cast [h1, hi]
  exact w_gc_take (by simp [D.cl]) Od.refl.take ⟨rfl, rfl⟩
/-! the law's own look at a tree way -/
theorem draw_w {S : Store} {n : Nat} {k m : Int} (h : Src S n k) (hk : k < 2 ^ 50) (hm : 0 < m) (hm2 : bits m < 9000) : Wr (f__law_draw [.ref n, .int m] S) (fun d S' => ∃ r, d = .int r ∧ 0 ≤ r ∧ r < m ∧ Src S' n (k + 1) ∧ Ch S n S') noX := by
  obtain ⟨r, S', r0, r1, e, s, u⟩ := draw h hk hm hm2
  exact .by e ⟨r, rfl, r0, r1, s, u⟩
theorem pow1020 (S : Store) : Lk.gPow (.int 10) (.int 20) S = .ok (.int 100000000000000000000) S := by
  show (if 0 ≤ (20 : Int) ∧ (20 : Int) ≤ 1000000 ∧ (10 : Int).natAbs < 2 ^ 64 then Lk.R.ok (D.int ((10 : Int) ^ (20 : Int).toNat)) S else Lk.R.bad) = _
  rw [if_pos (by decide)]
  rfl
theorem Pt.imp {S S' : Store} {d : D} (h : Pt S d) (k : ∀ m o, S[m]? = some o → d = .ref m → S'[m]? = some o) : Pt S' d := Or.imp (fun z => z) (fun z => Odd.imp z k) h
theorem Ag.get {S S' : Store} {n m : Nat} {o : Ob} (u : Ag S n S') (h : S[m]? = some o) (hm : m ≠ n) : S'[m]? = some o := by
  rw [u.2 m (getlt h) hm]
  exact h
theorem Src.ch {S S' : Store} {n : Nat} {k : Int} (h : Src S' n k) : n < S'.length := h.lt
variable {e : Nat}
/-! the pieces: the events by their heads, in the order of the first ones -/
def evs (hs : List Int) (h : Int) (k : Nat) : List Int := (rng0 k).filter fun j => decide (hdAt hs j = h)
def firsts (hs : List Int) (k : Nat) : List Int := (rng0 k).filter fun i => decide ((hs.idxOf (hdAt hs i) : Int) = i)
/-- the dict of the heads -/
def KV (hs : List Int) (k : Nat) (kvs : List (Key × D)) (S : Store) (lo : Nat) : Prop := ∃ rs : List Nat, rs.length = (firsts hs k).length ∧ rs.Nodup ∧ (∀ r ∈ rs, lo < r) ∧ kvs = ((firsts hs k).zip rs).map (fun x => (.inl (hdAt hs x.1), D.ref x.2)) ∧ ∀ (j : Nat) i r, (firsts hs k)[j]? = some i → rs[j]? = some r → S[r]? = some (.lst ((evs hs (hdAt hs i) k).map D.int))
theorem KV.app {hs : List Int} {k : Nat} {kvs : List (Key × D)} {S T : Store} {lo : Nat} (g : KV hs k kvs S lo) : KV hs k kvs (S ++ T) lo := by
  obtain ⟨rs, rl, rn, rlo, hkv, hg⟩ := g
  exact ⟨rs, rl, rn, rlo, hkv, fun j i r h1 h2 => app_get (hg j i r h1 h2)⟩
/-! how often a way goes along a span; cuts of the tree -/
def sg (s : Stp) : Int := if s.2 = true then 1 else -1
def cnt : List Stp → Nat → Int
  | [], _ => 0
  | s :: w, k => (if s.1 = k then sg s else 0) + cnt w k
def bI (b : Bool) : Int := if b = true then 1 else 0
def cv (l : List D) (C : Int → Bool) (k : Nat) : Int := bI (C (eJ (l.getD k .non))) - bI (C (eI (l.getD k .non)))
def csm (l : List D) (C : Int → Bool) : List Stp → Int
  | [] => 0
  | s :: w => sg s * cv l C s.1 + csm l C w
theorem sg_ne (s : Stp) : sg s ≠ 0 := by
  unfold sg
  split <;> decide
theorem sg_cv {l : List D} {C : Int → Bool} {s : Stp} : sg s * cv l C s.1 = bI (C (se_ l s)) - bI (C (sb_ l s)) := by
  unfold sg cv se_ sb_
  by_cases c : s.2 = true
  · rw [if_pos c, if_pos c, if_pos c, Int.one_mul]
  · rw [if_neg c, if_neg c, if_neg c]
    omega
theorem Chn.csm {l : List D} {C : Int → Bool} : ∀ {w : List Stp} {s t : Int}, Chn l s w t → csm l C w = bI (C t) - bI (C s)
  | [], s, t, h => by
    have h : s = t := h
    subst h
    show (0 : Int) = _
    omega
  | x :: w, s, t, h => by
    show sg x * cv l C x.1 + Mi_k20.csm l C w = _
    rw [sg_cv, Chn.csm h.2, h.1]
    omega
theorem cnt_no {k : Nat} : ∀ {w : List Stp}, k ∉ w.map (fun x => x.1) → cnt w k = 0
  | [], _ => rfl
  | x :: w, h => by
    simp only [List.map_cons, List.mem_cons, not_or] at h
    show (if x.1 = k then sg x else 0) + cnt w k = 0
    rw [if_neg (fun e => h.1 e.symm), cnt_no h.2]
    rfl
theorem cnt_one {x : Stp} : ∀ {w : List Stp}, (w.map fun y => y.1).Nodup → x ∈ w → cnt w x.1 = sg x
  | y :: w, hn, hx => by
    rw [List.map_cons, List.nodup_cons] at hn
    show (if y.1 = x.1 then sg y else 0) + cnt w x.1 = sg x
    rcases List.mem_cons.mp hx with e | e
    · subst e
      rw [if_pos rfl, cnt_no hn.1]
      omega
    · have : ¬ y.1 = x.1 := fun z => hn.1 (by rw [z]; exact List.mem_map.mpr ⟨x, e, rfl⟩)
      rw [if_neg this, cnt_one hn.2 e]
      omega
/-- a cut that the span k alone of these goes through -/
def Cut (l : List D) (ks : List Nat) (k : Nat) (C : Int → Bool) : Prop := C (eI (l.getD k .non)) ≠ C (eJ (l.getD k .non)) ∧ ∀ j ∈ ks, j ≠ k → C (eI (l.getD j .non)) = C (eJ (l.getD j .non))
theorem Cut.cv0 {l : List D} {ks : List Nat} {k j : Nat} {C : Int → Bool} (h : Cut l ks k C) (hj : j ∈ ks) (n : j ≠ k) : cv l C j = 0 := by
  unfold cv
  rw [h.2 j hj n]
  omega
theorem Cut.cv1 {l : List D} {ks : List Nat} {k : Nat} {C : Int → Bool} (h : Cut l ks k C) : cv l C k * cv l C k = 1 := by
  have h1 := h.1
  unfold cv bI
  cases q1 : C (eI (l.getD k .non)) <;> cases q2 : C (eJ (l.getD k .non))
  · rw [q1, q2] at h1; exact absurd rfl h1
  · rfl
  · rfl
  · rw [q1, q2] at h1; exact absurd rfl h1
theorem Cut.csm {l : List D} {ks : List Nat} {k : Nat} {C : Int → Bool} (h : Cut l ks k C) : ∀ {w : List Stp}, (∀ x ∈ w, x.1 ∈ ks) → Mi_k20.csm l C w = cnt w k * cv l C k
  | [], _ => by simp [Mi_k20.csm, cnt]
  | x :: w, hw => by
    have ih := Cut.csm h fun y hy => hw y (List.mem_cons_of_mem _ hy)
    show sg x * cv l C x.1 + Mi_k20.csm l C w = ((if x.1 = k then sg x else 0) + cnt w k) * cv l C k
    rw [ih, Int.add_mul]
    by_cases c : x.1 = k
    · rw [if_pos c, c]
    · rw [if_neg c, h.cv0 (hw x List.mem_cons_self) c]
      simp
def Cuts (l : List D) (ks : List Nat) : Prop := ∀ k ∈ ks, ∃ C, Cut l ks k C
theorem mkF_cut {b : Int} {e : Nat} {l : List D} (hd : ∀ d ∈ l, spanB b (e : Nat) d = true) : ∀ (ds pre : List D) (hs : List Int) (ks : List Nat), pre ++ ds = l → hs.length = e → (∀ k ∈ ks, k < pre.length) → Cuts l ks → Sm l hs ks → (∀ k, k < pre.length → hdAt hs (eI (l.getD k .non)) = hdAt hs (eJ (l.getD k .non))) →
    Cuts l (mkF pre.length ds hs ks).2 ∧ ∀ k, k < l.length → hdAt (mkF pre.length ds hs ks).1 (eI (l.getD k .non)) = hdAt (mkF pre.length ds hs ks).1 (eJ (l.getD k .non))
  | [], pre, hs, ks, hl, he, hk, h1, h2, h3 => by
    rw [mkF_nil]
    refine ⟨h1, fun k hk => h3 k ?_⟩
    rw [← hl] at hk
    simpa using hk
  | d :: ds, pre, hs, ks, hl, he, hk, h1, h2, h3 => by
    have hl2 : (pre ++ [d]) ++ ds = l := by rw [← hl]; simp
    have len2 : (pre ++ [d]).length = pre.length + 1 := by simp
    have hdm : d ∈ l := by rw [← hl]; simp
    have gd : l.getD pre.length .non = d := by rw [← hl]; simp
    obtain ⟨i, j, lo, hi, ed, i0, i1, j0, j1, ij, _⟩ := sp4 (hd d hdm)
    have ei : eI d = i := by rw [ed]; rfl
    have ej : eJ d = j := by rw [ed]; rfl
    have key := mkF_cut hd ds (pre ++ [d])
    rw [len2] at key
    have ll : pre.length < l.length := by rw [← hl]; simp
    have rg : ∀ k, k < l.length → 0 ≤ eI (l.getD k .non) ∧ eI (l.getD k .non) < (hs.length : Nat) ∧ 0 ≤ eJ (l.getD k .non) ∧ eJ (l.getD k .non) < (hs.length : Nat) := fun k hk => by
      have hm : l.getD k .non ∈ l := by
        rw [List.getD_eq_getElem?_getD, List.getElem?_eq_getElem hk]
        exact List.getElem_mem hk
      obtain ⟨i, j, lo, hi, ed, i0, i1, j0, j1, ij, _⟩ := sp4 (hd _ hm)
      rw [ed, he]
      exact ⟨i0, i1, j0, j1⟩
    rw [mkF_cons, ei, ej]
    by_cases c : hdAt hs i = hdAt hs j
    · rw [if_pos c]
      refine key hs ks hl2 he (fun k z => by have := hk k z; omega) h1 h2 fun k z => ?_
      rcases Nat.lt_or_ge k pre.length with y | y
      · exact h3 k y
      · have : k = pre.length := by omega
        rw [this, gd, ei, ej]
        exact c
    · rw [if_neg c]
      have jnE : ∀ k, k < l.length → hdAt hs (eI (l.getD k .non)) = hdAt hs (eJ (l.getD k .non)) → hdAt (jn hs (hdAt hs i) (hdAt hs j)) (eI (l.getD k .non)) = hdAt (jn hs (hdAt hs i) (hdAt hs j)) (eJ (l.getD k .non)) := fun k kl z => by
        obtain ⟨r1, r2, r3, r4⟩ := rg k kl
        rw [jn_at r1 r2, jn_at r3 r4, z]
      have jnN : hdAt (jn hs (hdAt hs i) (hdAt hs j)) (eI (l.getD pre.length .non)) = hdAt (jn hs (hdAt hs i) (hdAt hs j)) (eJ (l.getD pre.length .non)) := by
        obtain ⟨r1, r2, r3, r4⟩ := rg pre.length ll
        rw [jn_at r1 r2, jn_at r3 r4, gd, ei, ej, if_pos (show hdAt hs i = hdAt hs i ∨ hdAt hs i = hdAt hs j from .inl rfl), if_pos (show hdAt hs j = hdAt hs i ∨ hdAt hs j = hdAt hs j from .inr rfl)]
      have kl : ∀ k ∈ ks, k < l.length := fun k z => by have := hk k z; omega
      refine key _ _ hl2 (by rw [jn_len]; exact he) (fun k z => ?_) ?_ ?_ ?_
      · rcases List.mem_append.mp z with z | z
        · have := hk k z; omega
        · rw [List.mem_singleton.mp z]; omega
      · intro k z
        rcases List.mem_append.mp z with z | z
        · obtain ⟨C, c1, c2⟩ := h1 k z
          have kne : k ≠ pre.length := by have := hk k z; omega
          by_cases q : C i = C j
          · refine ⟨C, c1, fun m hm nm => ?_⟩
            rcases List.mem_append.mp hm with y | y
            · exact c2 m y nm
            · rw [List.mem_singleton.mp y, gd, ei, ej]; exact q
          · refine ⟨fun x => if hdAt hs x = hdAt hs j then !C x else C x, ?_, fun m hm nm => ?_⟩
            · dsimp only
              rw [h2 k z]
              split
              · intro y; apply c1; simpa using y
              · exact c1
            · dsimp only
              rcases List.mem_append.mp hm with y | y
              · rw [h2 m y, c2 m y nm]
              · rw [List.mem_singleton.mp y, gd, ei, ej, if_neg c, if_pos rfl]
                cases q1 : C i <;> cases q2 : C j <;> simp_all
        · rw [List.mem_singleton.mp z]
          refine ⟨fun x => decide (hdAt hs x = hdAt hs i), ?_, fun m hm nm => ?_⟩
          · rw [gd, ei, ej]
            intro y
            simp only [decide_true] at y
            exact c (of_decide_eq_true y.symm).symm
          · rcases List.mem_append.mp hm with y | y
            · dsimp only
              rw [h2 m y]
            · exact absurd (List.mem_singleton.mp y) nm
      · intro k z
        rcases List.mem_append.mp z with z | z
        · exact jnE k (kl k z) (h2 k z)
        · rw [List.mem_singleton.mp z]; exact jnN
      · intro k z
        rcases Nat.lt_or_ge k pre.length with y | y
        · exact jnE k (by omega) (h3 k y)
        · have : k = pre.length := by omega
          rw [this]; exact jnN
theorem tree_cut {b : Int} {e : Nat} {l : List D} (hd : ∀ d ∈ l, spanB b (e : Nat) d = true) : Cuts l (kpt e l) ∧ ∀ k, k < l.length → hdAt (hds e l) (eI (l.getD k .non)) = hdAt (hds e l) (eJ (l.getD k .non)) :=
  mkF_cut hd l [] (rng0 e) [] rfl rng0_len (fun k z => by cases z) (fun k z => by cases z) (fun k z => by cases z) (fun k z => by cases z)
/-! ways along the tree are the only ones -/
theorem closed_nil {l : List D} {ks : List Nat} (hc : Cuts l ks) {w : List Stp} {s : Int} (h : Chn l s w s) (hk : ∀ x ∈ w, x.1 ∈ ks) (hn : (w.map fun x => x.1).Nodup) : w = [] := by
  cases w with
  | nil => rfl
  | cons x w =>
    exfalso
    obtain ⟨C, hC⟩ := hc x.1 (hk x List.mem_cons_self)
    have e1 := hC.csm hk
    rw [h.csm, cnt_one hn List.mem_cons_self] at e1
    have e2 : sg x * cv l C x.1 = 0 := by omega
    have e3 := hC.cv1
    rcases Int.mul_eq_zero.mp e2 with z | z
    · exact sg_ne x z
    · rw [z] at e3; exact absurd e3 (by decide)
theorem Chn.split {l : List D} : ∀ {v w : List Stp} {s t : Int}, Chn l s (v ++ w) t → ∃ m, Chn l s v m ∧ Chn l m w t
  | [], w, s, t, h => ⟨s, rfl, h⟩
  | x :: v, w, s, t, h => by
    obtain ⟨m, h1, h2⟩ := Chn.split (v := v) h.2
    exact ⟨m, ⟨h.1, h1⟩, h2⟩
theorem way_uniq {l : List D} {ks : List Nat} (hc : Cuts l ks) : ∀ {v w : List Stp} {s t : Int}, Chn l s v t → Chn l s w t → (∀ x ∈ v, x.1 ∈ ks) → (∀ x ∈ w, x.1 ∈ ks) → (v.map fun x => x.1).Nodup → (w.map fun x => x.1).Nodup → v = w
  | [], w, s, t, h1, h2, k1, k2, n1, n2 => by
    have h1 : s = t := h1
    subst h1
    exact (closed_nil hc h2 k2 n2).symm
  | x :: v, w, s, t, h1, h2, k1, k2, n1, n2 => by
    cases w with
    | nil =>
      have h2 : s = t := h2
      subst h2
      exact closed_nil hc h1 k1 n1
    | cons y w =>
      by_cases c : x = y
      · subst c
        have := way_uniq hc h1.2 h2.2 (fun z hz => k1 z (List.mem_cons_of_mem _ hz)) (fun z hz => k2 z (List.mem_cons_of_mem _ hz)) (by rw [List.map_cons, List.nodup_cons] at n1; exact n1.2) (by rw [List.map_cons, List.nodup_cons] at n2; exact n2.2)
        rw [this]
      · exfalso
        obtain ⟨C, hC⟩ := hc x.1 (k1 x List.mem_cons_self)
        have e1 := hC.csm k1
        have e2 := hC.csm k2
        rw [h1.csm] at e1
        rw [h2.csm, e1, cnt_one n1 List.mem_cons_self] at e2
        have e3 := hC.cv1
        have cvn : cv l C x.1 ≠ 0 := fun z => by rw [z] at e3; exact absurd e3 (by decide)
        have e4 : sg x = cnt (y :: w) x.1 := Int.eq_of_mul_eq_mul_right cvn e2
        have xm : x ∈ y :: w := by
          by_cases q : x.1 ∈ (y :: w).map fun z => z.1
          · obtain ⟨z, hz, ez⟩ := List.mem_map.mp q
            have e5 := cnt_one n2 hz
            rw [ez, ← e4] at e5
            have : z = x := by
              obtain ⟨z1, z2⟩ := z
              obtain ⟨x1, x2⟩ := x
              dsimp only at ez
              subst ez
              unfold sg at e5
              dsimp only at e5
              cases z2 <;> cases x2 <;> simp at e5 <;> rfl
            rw [← this]; exact hz
          · rw [cnt_no q] at e4
            exact absurd e4 (sg_ne x)
        have xw : x ∈ w := by
          rcases List.mem_cons.mp xm with z | z
          · exact absurd z c
          · exact z
        obtain ⟨p, q, rfl⟩ := List.append_of_mem xw
        have h3 : Chn l s ((y :: p) ++ (x :: q)) t := h2
        obtain ⟨m, h4, h5⟩ := h3.split
        have em : m = s := h5.1.symm.trans h1.1
        subst em
        have n3 : ((y :: p).map fun z => z.1).Nodup := by
          have : ((y :: p) ++ (x :: q)).map (fun z => z.1) = (y :: p).map (fun z => z.1) ++ (x :: q).map (fun z => z.1) := by simp
          have n2' : (((y :: p) ++ (x :: q)).map fun z => z.1).Nodup := n2
          rw [this, List.nodup_append] at n2'
          exact n2'.1
        have := closed_nil hc h4 (fun z hz => k2 z (by
          rcases List.mem_cons.mp hz with r | r
          · rw [r]; simp
          · simp [r])) n3
        cases this
/-! the counts of a ring come of those of the base -/
/-! the one tree way -/
def IsTw (e : Nat) (l : List D) (s t : Int) (w : List Stp) : Prop := Chn l s w t ∧ (∀ x ∈ w, x.1 ∈ kpt e l) ∧ (w.map fun x => x.1).Nodup
noncomputable def twy (e : Nat) (l : List D) (s t : Int) : List Stp := open Classical in if h : ∃ w, IsTw e l s t w then Classical.choose h else []
theorem twy_is {l : List D} {s t : Int} {w : List Stp} (hd : ∀ d ∈ l, spanB b (e : Nat) d = true) (h : IsTw e l s t w) : w = twy e l s t := by
  have hx : ∃ w, IsTw e l s t w := ⟨w, h⟩
  unfold twy
  rw [dif_pos hx]
  obtain ⟨h1, h2, h3⟩ := Classical.choose_spec hx
  exact way_uniq (tree_cut hd).1 h.1 h1 h.2.1 h2 h.2.2 h3
theorem TW.is {l : List D} {s t : Int} {fd : Fd} {w : List Stp} (h : TW l (kpt e l) s e fd) (hw : fdL fd t = some w) : IsTw e l s t w := ⟨h.ch _ (fdL_some hw), h.ks _ (fdL_some hw), h.ix _ (fdL_some hw)⟩
theorem TW.all {l : List D} {s t : Int} {fd : Fd} (hd : ∀ d ∈ l, spanB b (e : Nat) d = true) (h : TW l (kpt e l) s e fd) (cl : ∀ x ∈ keys fd, Clo l (kpt e l) fd x) (hs : 0 ≤ s ∧ s < (e : Nat)) (ht : 0 ≤ t ∧ t < (e : Nat)) (ch : hdAt (hds e l) s = hdAt (hds e l) t) : fdL fd t = some (twy e l s t) := by
  obtain ⟨jo, sm, kl⟩ := tree_jo hd
  have tk : t ∈ keys fd := by
    refine (jo (fun x => x ∈ keys fd) (fun k hk => ?_) s t hs.1 hs.2 ht.1 ht.2 ch).mp h.st
    constructor
    · intro h
      have := cl _ h (k, true) (stL_mem.mpr hk) (by simp [sb_])
      simpa [se_] using this
    · intro h
      have := cl _ h (k, false) (stL_mem.mpr hk) (by simp [sb_])
      simpa [se_] using this
  obtain ⟨w, hw⟩ := fdL_is tk
  rw [hw, twy_is hd (h.is hw)]
/-! what is a step, a way, a ring, of things drawn -/
inductive Itm (S : Store) : D → Prop
  | st (i : Int) (f : Bool) : Itm S (.tup [.int i, .bl f])
  | no (i : Int) : Itm S (.tup [.int i, .int 1])
  | int (i : Int) : Itm S (.int i)
  | odd {d : D} : Odd S d → (∀ C xs, d ≠ .ins C xs) → Itm S d
theorem Itm.imp {S S' : Store} {d : D} (h : Itm S d) (k : ∀ m o, S[m]? = some o → d = .ref m → S'[m]? = some o) : Itm S' d := by
  cases h with
  | st i f => exact .st i f
  | no i => exact .no i
  | int i => exact .int i
  | odd h n => exact .odd (h.imp k) n
theorem Itm.od {S S' : Store} {d : D} (h : Itm S d) (k : Od S S') : Itm S' d := h.imp fun m o hm _ => k.get hm
/-! the law's own tree way -/
abbrev Wq := (Int × List Stp) × Nat
def wqD (q : Wq) : D := .tup [.int q.1.1, .ref q.2]
def fdW (ws : List Wq) : Fd := ws.map fun q => q.1
structure PI (l : List D) (ks : List Nat) (s : Int) (e : Nat) (S0 : Store) (pw psn : Nat) (ws : List Wq) (S' : Store) : Prop where
  od : Od S0 S'
  hw : S'[pw]? = some (.lst (ws.map wqD))
  hs : S'[psn]? = some (.lst ((keys (fdW ws)).map D.int))
  hq : ∀ q ∈ ws, S0.length ≤ q.2 ∧ q.2 ≠ pw ∧ q.2 ≠ psn ∧ S'[q.2]? = some (.lst (q.1.2.map stD))
  tw : TW l ks s e (fdW ws)
/-! sums of bounds -/
structure GM (M b : Int) (e : Nat) (l ts : List D) (xs : List Int) : Prop where
  c : Cx M b e
  hd : ∀ d ∈ l, Lkd M b e xs d
  hl : l.length ≤ 60
  he : xs.length = e
  f : F2 (VT M) ts (xs.map D.int)
  hx : ∀ x ∈ xs, 0 ≤ x ∧ x < b * M
theorem GM.tt {l ts : List D} {xs : List Int} (g : GM M b e l ts xs) (S : Store) : f_is_timetable [net b (e : Nat) l, .tup ts] S = .ok (.bl true) S := by
  have hsp : ∀ d ∈ l, spanB b (e : Nat) d = true := fun d hd => (g.hd d hd).1
  have f2 : F2 (It M S) ts (xs.map D.int) := F2.imp (fun d r z => Or.inl z) g.f
  have tl : ts.length = e := by
    have := F2.len g.f
    rw [List.length_map, g.he] at this
    exact this.symm
  have tm : (xs.map D.int).map toI = xs := by
    rw [List.map_map]
    exact List.map_id' xs
  have bd : ∀ {k : Nat} (ys : List Int), (∀ y ∈ ys, 0 ≤ y ∧ y < b * M) → bad b M k (ys.map D.int) = none := fun {k} ys h => by
    induction ys generalizing k with
    | nil => rfl
    | cons y ys ih =>
      rw [List.map_cons, bad, if_pos (by simp only [momB]; exact decide_eq_true (h y List.mem_cons_self))]
      exact ih fun z hz => h z (List.mem_cons_of_mem _ hz)
  have bk : ∀ {k : Nat} (ds : List D), (∀ d ∈ ds, Lkd M b e xs d) → brk M b xs k ds = none := fun {k} ds h => by
    induction ds generalizing k with
    | nil => rfl
    | cons d ds ih =>
      rw [brk, if_neg (by have := (h d List.mem_cons_self).2; omega)]
      exact ih fun z hz => h z (List.mem_cons_of_mem _ hz)
  have due : dueD M b (xs.map D.int) l = .non := by
    unfold dueD
    rw [bd xs g.hx, tm]
    dsimp only
    rw [bk l g.hd]
  have mo := moments_ok g.c f2 tl hsp g.hl
  rw [due] at mo
  exact is_tt mo
theorem Vl.uniq {x y : Int} {d : D} (h : Vl M x d) (h' : Vl M y d) : x = y := by
  obtain ⟨p, q, n, lo, ev⟩ := h
  obtain ⟨p', q', n', lo', ev'⟩ := h'
  have e1 : p = p' ∧ q = q' := by
    rcases n with ⟨rfl, rfl⟩ | rfl
    · rcases n' with ⟨z, rfl⟩ | z
      · cases z; exact ⟨rfl, rfl⟩
      · cases z
    · rcases n' with ⟨z, rfl⟩ | z
      · cases z
      · cases z; exact ⟨rfl, rfl⟩
  obtain ⟨rfl, rfl⟩ := e1
  exact Int.eq_of_mul_eq_mul_right lo.ne (ev.symm.trans ev')
theorem F2.mem' {P : D → D → Prop} : ∀ {ds rs : List D}, F2 P ds rs → ∀ d ∈ ds, ∃ r ∈ rs, P d r
  | [], [], _, d, hd => by cases hd
  | x :: ds, r :: rs, h, d, hd => by
    rcases List.mem_cons.mp hd with z | z
    · exact ⟨r, List.mem_cons_self, by rw [z]; exact h.1⟩
    · obtain ⟨y, hy, p⟩ := F2.mem' h.2 d z
      exact ⟨y, List.mem_cons_of_mem _ hy, p⟩
  | [], _ :: _, h, _, _ => h.elim
  | _ :: _, [], h, _, _ => h.elim
/-- a row of numbers, plain -/
def PT (M : Int) (t s : D) : Prop := ∃ x, s = .int x ∧ Sz 60 x ∧ PVl M x t
theorem PT.vt {M : Int} {t s : D} (h : PT M t s) : VT M t s := by
  obtain ⟨x, e, z, p⟩ := h
  exact ⟨x, e, z, p.vl⟩
theorem all_scaled_ok {S : Store} {ts : List D} {zs : List Int} {n : Nat} (hM : 0 < M) (sM : Sz 100 M) (f : F2 (PT M) ts (zs.map D.int)) (hn : zs.length = n) (hl : n ≤ 100) :
    f__law_all_scaled [.tup ts, .int (n : Nat), .int M] S = .ok (.ref S.length) (S ++ [.lst (zs.map D.int)]) := by
  have tl : ts.length = n := by
    have := F2.len f
    rw [List.length_map] at this
    omega
  have tt := tupT (S := S) (ts := ts)
  have g := gn_int (S := S) (i := (ts.length : Nat)) (j := (n : Nat))
  have w : Wr (f__law_all_scaled [.tup ts, .int (n : Nat), .int M] S) (fun d S' => d = .ref S.length ∧ S' = S ++ [.lst (zs.map D.int)]) noX := by
    refine w_def ?_
    unfold b__law_all_scaled
    refine ws_seq ?_
    push_cast [tt, g, tl, decide_true]
    refine ws_seq ?_
    push_cast []
    refine w_lcP (R := fun t r => ∀ x, Sz 60 x → PVl M x t → r = .int x) (fun _ => trivial) (by have := lim_16; omega) ?_ ?_
    · intro t ht a
      obtain ⟨s, hs, x, rfl, sx, pv⟩ := F2.mem' f t ht
      have e1 := scaled_ok (S := S ++ [.lst a]) hM sM (sx.mono (by decide)) pv
      refine ⟨_, rfl, ?_⟩
      push_cast [e1]
      intro x' _ hv
      rw [Vl.uniq hv.vl pv.vl]
    · intro rs fr
      have key : ∀ {ts rs : List D} {zs : List Int}, F2 (PT M) ts (zs.map D.int) → F2 (fun t r => ∀ x, Sz 60 x → PVl M x t → r = .int x) ts rs → rs = zs.map D.int := fun {ts} => by
        induction ts with
        | nil => intro rs zs f fr; cases rs with
          | nil => cases zs with
            | nil => rfl
            | cons z zs => exact f.elim
          | cons r rs => exact fr.elim
        | cons t ts ih => intro rs zs f fr; cases rs with
          | nil => exact fr.elim
          | cons r rs => cases zs with
            | nil => exact f.elim
            | cons z zs =>
              obtain ⟨⟨x, ex, sx, pv⟩, f⟩ := f
              cases ex
              rw [fr.1 z sx pv, ih f fr.2]
              rfl
      have er := key f fr
      subst er
      have ni := non_in (S := S ++ [Ob.lst (zs.map D.int)]) (n := S.length) (ls := zs) last1
      refine ws_seq ?_
      push_cast [ni]
      exact w_gc_new (Nat.le_refl _) ⟨rfl, rfl⟩
  exact w.eq
theorem dBools_all {P : D → Bool} : ∀ ds : List D, dBools (ds.map fun d => D.bl (P d)) = some (ds.map P)
  | [] => rfl
  | d :: ds => by simp [dBools, dBools_all ds]
theorem ag_get {S S' : Store} {n m : Nat} {o : Ob} (u : Ag S n S') (h : S[m]? = some o) (hm : m ≠ n) : S'[m]? = some o := by rw [u.2 m (getlt h) hm]; exact h
theorem ag_set {S S' : Store} {n p : Nat} {o : Ob} (u : Ag S n S') (hp : S.length ≤ p) : Ag S n (S'.set p o) := ⟨by rw [List.length_set]; exact u.1, fun m h1 h2 => by rw [List.getElem?_set_ne (by omega)]; exact u.2 m h1 h2⟩
/-- numbers handed over, one behind another -/
theorem F2_app {P : D → D → Prop} : ∀ {a c a' c' : List D}, F2 P a c → F2 P a' c' → F2 P (a ++ a') (c ++ c')
  | [], [], _, _, _, h => h
  | x :: a, y :: c, _, _, h, h' => ⟨h.1, F2_app h.2 h'⟩
  | [], _ :: _, _, _, h, _ => h.elim
  | _ :: _, [], _, _, h, _ => h.elim
theorem rng_get {n k : Nat} {d : D} (h : (rngI 0 n)[k]? = some d) : k < n ∧ d = .int (k : Nat) := by
  have kl := (List.getElem?_eq_some_iff.mp h).1
  have rl : (rngI 0 n).length = n := by simp [rngI]
  rw [rl] at kl
  refine ⟨kl, ?_⟩
  unfold rngI at h
  rw [List.getElem?_map, List.getElem?_range kl] at h
  simp at h
  exact h.symm
theorem atI2 {a b : D} {r : Int} (h0 : 0 ≤ r) (h1 : r < 2) : atI [a, b] r = some a ∨ atI [a, b] r = some b := by
  have : r = 0 ∨ r = 1 := by omega
  rcases this with rfl | rfl
  · exact .inl rfl
  · exact .inr rfl
theorem atI4 {a b c d : D} {r : Int} (h0 : 0 ≤ r) (h1 : r < 4) : ∃ y, atI [a, b, c, d] r = some y ∧ (y = a ∨ y = b ∨ y = c ∨ y = d) := by
  have : r = 0 ∨ r = 1 ∨ r = 2 ∨ r = 3 := by omega
  rcases this with rfl | rfl | rfl | rfl
  · exact ⟨a, rfl, .inl rfl⟩
  · exact ⟨b, rfl, .inr (.inl rfl)⟩
  · exact ⟨c, rfl, .inr (.inr (.inl rfl))⟩
  · exact ⟨d, rfl, .inr (.inr (.inr rfl))⟩
theorem src_od {S S' : Store} {n : Nat} {k : Int} (h : Src S n k) (o : Od S S') : Src S' n k := by
  obtain ⟨a, b, c, d, h4, r⟩ := h
  exact ⟨a, b, c, d, o.get h4, r⟩
end Mi_k20

set_option linter.all false
set_option autoImplicit false
set_option maxRecDepth 100000
set_option maxHeartbeats 4000000
namespace Mi_k20
open PySem Lk L2
section
variable {b : Int} {e : Nat}
theorem is_ev {S : Store} {l : List D} {d : D} (h : Kn S d) : f_is_event [net b (e : Nat) l, d] S = .ok (.bl (evB e d)) S := by
  have q1 := fun S => fn_ev (S := S) (b := b) (e := (e : Nat)) (ds := l)
  refine Wr.eq (w_def ?_)
  unfold b_is_event
  cases hi : isInt d with
  | false =>
    have h1 := below_any (l := (e : Nat)) h hi
    push_cast [q1, h1]
    rw [evB_no hi]
    exact w_gc_take (by simp [D.cl]) Od.refl.take ⟨rfl, rfl⟩
  | true =>
    cases d with
    | int i =>
      have h1 := below (S := S) (l := (e : Nat)) (i := i)
      push_cast [q1, h1]
      exact w_gc_take (by simp [D.cl]) Od.refl.take ⟨rfl, rfl⟩
    | _ => cases hi
theorem odd_ok {S : Store} {n : Nat} {k : Int} (h : Src S n k) (hk : k < 2 ^ 40) : ∃ d S', f__law_odd [.ref n] S = .ok d S' ∧ Odd S' d ∧ Ag S n S' ∧ (∀ m, d = .ref m → S.length ≤ m) ∧ Src S' n (k + 1) := by
  have h0 := h
  have hn : n < S.length := by
    obtain ⟨a, b, c, d, h, _⟩ := h
    exact getlt h
  obtain ⟨W, hW⟩ : ∃ W : List D, W = [.non, .bl true, .bl false, .str (Str.ofString "7"), .str (Str.ofString ""), .tup [], .tup [.int 3], .ref S.length, .ref (S.length + 1), .ref (S.length + 2), .ref (S.length + 3), .str (Str.ofString "ab"), .ins "Ratio" [.int 1, .int 1], .ins "Ratio" [.int 5, .int 1]] := ⟨_, rfl⟩
  obtain ⟨T, hT⟩ : ∃ T : Store, T = [Ob.lst [], .lst [.int 5], .dk [], .dk [(.inl 1, .int 2)], .lst W] := ⟨_, rfl⟩
  have hs : Src (S ++ T) n k := by
    obtain ⟨a, b, c, d, h, r⟩ := h
    refine ⟨a, b, c, d, ?_, r⟩
    unfold Src4 at h ⊢
    rw [List.getElem?_append_left hn]
    exact h
  obtain ⟨r, S2, r1, r2, e2, s2, u2⟩ := draw hs (m := 14) (by omega) (by decide) (by decide +kernel)
  have ag2 := u2.ag
  obtain ⟨o, ho⟩ := u2
  have at_ : ∀ i : Nat, S2[S.length + i]? = T[i]? := fun i => by
    rw [ho, List.getElem?_set_ne (by omega), List.getElem?_append_right (by omega)]
    congr 1
    omega
  have g3 : (S ++ [Ob.lst [], Ob.lst [D.int 5], Ob.dk [], Ob.dk []])[S.length + 3]? = some (.dk []) := by
    rw [List.getElem?_append_right (by omega), show S.length + 3 - S.length = 3 by omega]
    rfl
  have g4 : (S ++ [Ob.lst [], Ob.lst [D.int 5], Ob.dk [], Ob.dk []]).set (S.length + 3) (Ob.dk [(.inl 1, .int 2)]) = S ++ [Ob.lst [], .lst [.int 5], .dk [], .dk [(.inl 1, .int 2)]] := by
    rw [List.set_append_right _ _ (by omega), show S.length + 3 - S.length = 3 by omega]
    rfl
  have i4 : S2[S.length + 4]? = some (.lst W) := by rw [at_ 4, hT]; rfl
  have pick : ∃ d, atI W r = some d ∧ Odd S2 d ∧ ∀ m, d = .ref m → S.length ≤ m := by
    have z : r = 0 ∨ r = 1 ∨ r = 2 ∨ r = 3 ∨ r = 4 ∨ r = 5 ∨ r = 6 ∨ r = 7 ∨ r = 8 ∨ r = 9 ∨ r = 10 ∨ r = 11 ∨ r = 12 ∨ r = 13 := by omega
    rw [hW]
    rcases z with rfl | rfl | rfl | rfl | rfl | rfl | rfl | rfl | rfl | rfl | rfl | rfl | rfl | rfl
    · exact ⟨_, rfl, .non, fun m h => by cases h⟩
    · exact ⟨_, rfl, .bl _, fun m h => by cases h⟩
    · exact ⟨_, rfl, .bl _, fun m h => by cases h⟩
    · exact ⟨_, rfl, .str _ (by decide +kernel), fun m h => by cases h⟩
    · exact ⟨_, rfl, .str _ (by decide +kernel), fun m h => by cases h⟩
    · exact ⟨_, rfl, .t0, fun m h => by cases h⟩
    · exact ⟨_, rfl, .t1, fun m h => by cases h⟩
    · exact ⟨_, rfl, .l0 ((at_ 0).trans (by rw [hT]; rfl)), fun m h => by cases h; omega⟩
    · exact ⟨_, rfl, .l1 ((at_ 1).trans (by rw [hT]; rfl)), fun m h => by cases h; omega⟩
    · exact ⟨_, rfl, .d0 ((at_ 2).trans (by rw [hT]; rfl)), fun m h => by cases h; omega⟩
    · exact ⟨_, rfl, .d1 ((at_ 3).trans (by rw [hT]; rfl)), fun m h => by cases h; omega⟩
    · exact ⟨_, rfl, .str _ (by decide +kernel), fun m h => by cases h⟩
    · exact ⟨_, rfl, .rt _ _, fun m h => by cases h⟩
    · exact ⟨_, rfl, .rt _ _, fun m h => by cases h⟩
  have w1 : ∀ S : Store, mkOf "Ratio" f_Ratio___init__ [.int 1, .int 1] S = .ok (.ins "Ratio" [.int 1, .int 1]) S := fun S => by
    have h := mk (S := S) (t := 1) (b := 1) (by decide) (.of 1 (by decide))
    rw [(low_one 1).nT, (low_one 1).nB] at h
    exact h
  have w5 : ∀ S : Store, mkOf "Ratio" f_Ratio___init__ [.int 5, .int 1] S = .ok (.ins "Ratio" [.int 5, .int 1]) S := fun S => by
    have h := mk (S := S) (t := 5) (b := 1) (by decide) (.of 1 (by decide))
    rw [(low_one 5).nT, (low_one 5).nB] at h
    exact h
  obtain ⟨d, ed, od, fr⟩ := pick
  have ev : (b__law_odd ([D.ref n].map some ++ List.replicate 1 none) S) = .rt d S2 := by
    rw [hT, hW] at e2
    rw [hW] at i4 ed
    unfold b__law_odd
    simp only [mSeq, RS.seq, mIfS, mTest, mSet, mRet, mVar, mC, mNil, mCons, Lk.m1, Lk.m2, mB, mAnd, mOr, mNot, mAndT, mOrT, mNotT, mIf, mAsg, mNext, mCall, R.bind, R.bindS, R.nxt, asB, gSub', mTup, mLst, List.getElem?_cons_succ, List.getElem?_cons_zero, List.getElem?_nil, List.set_cons_succ, List.set_cons_zero, List.map_cons, List.map_nil, List.cons_append, List.nil_append, List.length_cons, List.length_nil, List.replicate, Lk.gIx, Lk.gAdd, Lk.gSub, Lk.gMul, Lk.gDiv, Lk.gMod, gInt, gCmp, gNeg, gAbs, gGcd, gLen, List.length_map, Lk.listOf, stIx, if_true, if_false, Bool.false_eq_true, reduceIte, Nat.reduceAdd, Nat.reduceSub, Nat.zero_add, eqz_int, pow1010, pow1018, pow1019, Int.reduceMul, Int.reduceAdd, ix40, ix41, ix42, ix43, at40, at41, at42, at43, and_true, true_and, and_self, ne_eq, not_false_eq_true, decide_true, decide_false, decide_eq_true_eq, Bool.and_true, Bool.true_and, mFor, iSeq, srcOf, vals, forGo_n, forGo_c, gSet, mRaise1, mSetF, setF, lim_le, Nat.reduceLeDiff, Bool.not_false, Bool.not_true, Nat.lt_irrefl, List.length_append, List.append_assoc, mDict0, mDict1, Lk.keyOf, e2, g3, g4, i4, ed, mMake, w1, w5]
  have ed2 : f__law_odd [.ref n] S = gc S d S2 := by
    show mDef 2 b__law_odd [.ref n] S = _
    unfold mDef
    show (match b__law_odd ([D.ref n].map some ++ List.replicate 1 none) S with
      | .nx _ S' => gc S .non S'
      | .rt d S' => gc S d S'
      | .ex C xs _ S' => gcX S C xs S'
      | _ => .bad) = _
    rw [ev]
  rw [ed2]
  rcases gc_either (S := S) (S' := S2) (d := d) with ⟨g, c1, c2⟩ | g
  · rw [g]
    refine ⟨d, S, rfl, od.imp fun m o h e => ?_, .refl _ _, fr, h0.mono (by omega)⟩
    subst e
    have hm : m < S.length := by simpa [D.cl] using c1
    rw [← c2, List.getElem?_take_of_lt hm]
    exact h
  · rw [g]
    exact ⟨d, S2, rfl, od, (Ag.app S n T).trans ag2, fr, s2⟩
theorem Kn.ag {S S' : Store} {n : Nat} {d : D} (h : Kn S d) (hn : ∀ m, d = .ref m → m ≠ n) (u : Ag S n S') : Kn S' d := by
  obtain ⟨t, h1, h2⟩ := h
  refine ⟨t, ?_, h2⟩
  cases d with
  | ref m =>
    simp only [tyK] at h1 ⊢
    cases hm : S[m]? with
    | none => rw [hm] at h1; cases h1
    | some o => rw [ag_get u hm (hn m rfl)]; rw [hm] at h1; exact h1
  | _ => exact h1
/-- a thing of a known kind, no list of the source's -/
def KnN (S : Store) (n : Nat) (d : D) : Prop := Kn S d ∧ ∀ m, d = .ref m → m ≠ n
theorem KnN.ag {S S' : Store} {n : Nat} {d : D} (h : KnN S n d) (u : Ag S n S') : KnN S' n d := ⟨h.1.ag h.2 u, h.2⟩
theorem KnN.int {S : Store} {n : Nat} (i : Int) : KnN S n (.int i) := ⟨kn_int S i, fun m h => by cases h⟩
/-- a thing handed in for a move -/
inductive Mv (S : Store) (n : Nat) : D → Prop
  | tup {its : List D} {up : D} : (∀ i ∈ its, KnN S n i) → KnN S n up → its.length ≤ 40 → Mv S n (.tup [.tup its, up])
  | blk {r : Nat} {ys : List D} {up : D} : S[r]? = some (.lst ys) → r ≠ n → KnN S n up → Mv S n (.tup [.ref r, up])
  | lst {r : Nat} {ys : List D} : S[r]? = some (.lst ys) → r ≠ n → Mv S n (.ref r)
theorem Mv.ag {S S' : Store} {n : Nat} {d : D} (h : Mv S n d) (u : Ag S n S') : Mv S' n d := by
  cases h with
  | tup h1 h2 h3 => exact .tup (fun i hi => (h1 i hi).ag u) (h2.ag u) h3
  | blk h1 h2 h3 => exact .blk (ag_get u h1 h2) h2 (h3.ag u)
  | lst h1 h2 => exact .lst (ag_get u h1 h2) h2
def incB (js : List Int) : Bool := (List.range (js.length - 1)).all fun k => decide (js.getD k 0 < js.getD (k + 1) 0)
def upB : D → Bool
  | .int u => decide (u = 1) || decide (u = -1)
  | _ => false
def mvB (e : Nat) : D → Bool
  | .tup [.tup its, up] => !its.isEmpty && its.all (evB e) && incB (its.map toI) && upB up
  | _ => false
theorem ev_ints {its : List D} (h : its.all (evB e) = true) : its = (its.map toI).map D.int ∧ ∀ j ∈ its.map toI, 0 ≤ j ∧ j < (e : Nat) := by
  rw [List.all_eq_true] at h
  refine ⟨?_, fun j hj => ?_⟩
  · rw [List.map_map]
    conv => lhs; rw [← List.map_id its]
    refine List.map_congr_left fun d hd => ?_
    obtain ⟨i, rfl, _⟩ := evB_int (h d hd)
    rfl
  · obtain ⟨d, hd, rfl⟩ := List.mem_map.mp hj
    obtain ⟨i, rfl, h1⟩ := evB_int (h d hd)
    exact h1
def fzl : D → D
  | .tup [.int i, .int j] => .bl (decide (i < j))
  | _ => .non
theorem zip_inc {js : List Int} : (zipD (js.map D.int) ((js.map D.int).drop 1)).map fzl = ((List.range (js.length - 1)).map fun k => decide (js.getD k 0 < js.getD (k + 1) 0)).map D.bl := by
  refine List.ext_getElem? fun k => ?_
  unfold zipD
  simp only [List.map_map, List.getElem?_map]
  by_cases h : k < js.length - 1
  · have hz : ((js.map D.int).zip ((js.map D.int).drop 1))[k]? = some (D.int (js.getD k 0), D.int (js.getD (k + 1) 0)) := by
      rw [List.getElem?_zip_eq_some]
      refine ⟨?_, ?_⟩
      · show _ = some (D.int (js.getD k 0))
        rw [List.getElem?_map, List.getD_eq_getElem?_getD, List.getElem?_eq_getElem (show k < js.length by omega)]
        rfl
      · show _ = some (D.int (js.getD (k + 1) 0))
        rw [List.getElem?_drop, List.getElem?_map, List.getD_eq_getElem?_getD, Nat.add_comm 1 k, List.getElem?_eq_getElem (show k + 1 < js.length by omega)]
        rfl
    rw [hz, List.getElem?_range h]
    rfl
  · rw [List.getElem?_eq_none (by simp; omega), List.getElem?_eq_none (by simp; omega)]
    rfl
theorem fin_gc {d : D} {S : Store} {Q : D → Store → Prop} {X : XP} (h : Q d S) : Wr (gc S d S) Q X := by rw [w_gc_self]; exact h
theorem is_block_ok {S : Store} {l its : List D} (h : ∀ i ∈ its, Kn S i) (hl : its.length ≤ 40) : f_is_block [net b (e : Nat) l, .tup its] S = .ok (.bl (!its.isEmpty && its.all (evB e) && incB (its.map toI))) S := by
  have tt := tupT (S := S) (ts := its)
  have w : Wr (f_is_block [net b (e : Nat) l, .tup its] S) (fun d S' => d = .bl (!its.isEmpty && its.all (evB e) && incB (its.map toI)) ∧ S' = S) noX := by
    refine w_def ?_
    unfold b_is_block
    refine ws_seq ?_
    by_cases c0 : its = []
    · subst c0
      push_cast [tt, List.length_nil]
      first | exact fin_gc ⟨rfl, rfl⟩ | exact w_gc_cl rfl ⟨rfl, rfl⟩
    · have c1 : ¬ ((its.length : Nat) : Int) = 0 := by
        intro z
        exact c0 (List.length_eq_zero_iff.mp (by omega))
      have c2 : its.isEmpty = false := by
        cases its with
        | nil => exact absurd rfl c0
        | cons => rfl
      push_cast [tt, c1, decide_false]
      refine ws_seq ?_
      push_cast []
      refine w_lcM (fun d => D.bl (evB e d)) (fun T => trivial) (by have := lim_16; omega) ?_ ?_
      · intro d hd a
        have h1 := is_ev (S := S ++ [Ob.lst a]) (l := l) (b := b) (e := e) (h d hd).app
        refine ⟨_, rfl, ?_⟩
        push_cast [h1]
      · have h1 := dBools_all (P := evB e) its
        push_cast [last1, h1]
        have ea : (its.map (evB e)).all id = its.all (evB e) := by simp [List.all_map]
        rw [ea]
        cases q : its.all (evB e) with
        | false =>
          push_cast []
          first | exact fin_gc ⟨by simp [c2], rfl⟩ | exact w_gc_cl rfl ⟨by simp [c2], rfl⟩
        | true =>
          obtain ⟨ei, _⟩ := ev_ints q
          push_cast []
          obtain ⟨js, hjs⟩ : ∃ js, js = its.map toI := ⟨_, rfl⟩
          rw [← hjs] at ei ⊢
          have jl : js.length ≤ 40 := by rw [hjs, List.length_map]; exact hl
          subst ei
          push_cast [cut_drop (show (0 : Int) ≤ 1 by decide), v_zip]
          rw [v_srcZ seq_tup seq_tup]
          push_cast []
          have zl : (zipD (js.map D.int) ((js.map D.int).drop (Int.toNat 1))).length ≤ 100 := by
            unfold zipD
            rw [List.length_map, List.length_zip, List.length_map]
            omega
          refine w_lcM fzl (fun T => by first | exact trivial | exact ⟨trivial, trivial⟩) (by have := lim_16; omega) ?_ ?_
          · intro d hdm acc
            unfold zipD at hdm
            obtain ⟨p, hp, rfl⟩ := List.mem_map.mp hdm
            have pm := List.of_mem_zip hp
            obtain ⟨x, hx, ex⟩ := List.mem_map.mp pm.1
            obtain ⟨y, hy, ey⟩ := List.mem_map.mp (List.mem_of_mem_drop pm.2)
            rw [← ex, ← ey]
            refine ⟨_, rfl, ?_⟩
            push_cast [setL, fzl]
          · rw [show (Int.toNat 1) = 1 from rfl, zip_inc]
            push_cast [last1, dBools_map]
            simp only [List.append_assoc]
            refine w_gc_cl rfl ⟨?_, rfl⟩
            rw [c2]
            simp [incB, List.all_map]
  exact w.eq
end
end Mi_k20

set_option linter.all false
set_option autoImplicit false
set_option maxRecDepth 100000
set_option maxHeartbeats 4000000
namespace Mi_k20
open PySem Lk L2
section
variable {M b : Int} {e : Nat} {P : Po}
theorem in_up {S : Store} {u : Int} {neg : Bool} : gInZ neg (.int u) (.tup [.int 1, .int (-1)]) S = .ok (.bl (if neg then !(decide (u = 1) || decide (u = -1)) else (decide (u = 1) || decide (u = -1)))) S := by
  have h := gInZ_ints (S := S) (neg := neg) (x := u) (y := .tup [.int 1, .int (-1)]) (ys := [1, -1]) rfl
  rw [h]
  have : decide (u ∈ ([1, -1] : List Int)) = (decide (u = 1) || decide (u = -1)) := by simp
  rw [this]
theorem is_move_ok {S : Store} {n : Nat} {l : List D} {X : D} (h : Mv S n X) : f_is_move [net b (e : Nat) l, X] S = .ok (.bl (mvB e X)) S := by
  have c0 : ∀ x y : D, atI [x, y] 0 = some x := fun _ _ => rfl
  have c1 : ∀ x y : D, atI [x, y] 1 = some y := fun _ _ => rfl
  have w : Wr (f_is_move [net b (e : Nat) l, X] S) (fun d S' => d = .bl (mvB e X) ∧ S' = S) noX := by
    refine w_def ?_
    unfold b_is_move
    refine ws_seq ?_
    cases h with
    | @tup its up h1 h2 h3 =>
      have tt := tupT (S := S) (ts := [.tup its, up])
      have bk := is_block_ok (S := S) (b := b) (e := e) (l := l) (fun i hi => (h1 i hi).1) h3
      have iu := isint h2.1
      have g2 := gn_int (S := S) (i := 2) (j := 2)
      push_cast [tt, g2, decide_true]
      cases q : (!its.isEmpty && its.all (evB e) && incB (its.map toI)) with
      | false =>
        rw [q] at bk
        push_cast [c0, bk]
        first | exact fin_gc ⟨by simp [mvB, q], rfl⟩ | exact w_gc_cl rfl ⟨by simp [mvB, q], rfl⟩
      | true =>
        rw [q] at bk
        cases z : isInt up with
        | false =>
          rw [z] at iu
          push_cast [c0, c1, bk, iu]
          first | refine fin_gc ⟨?_, rfl⟩ | refine w_gc_cl rfl ⟨?_, rfl⟩
          cases up <;> simp_all [mvB, upB, isInt]
        | true =>
          cases up with
          | int u =>
            rw [z] at iu
            have g := in_up (S := S) (u := u) (neg := false)
            push_cast [c0, c1, bk, iu, g]
            first | exact fin_gc ⟨by simp [mvB, q, upB], rfl⟩ | exact w_gc_cl rfl ⟨by simp [mvB, q, upB], rfl⟩
          | _ => cases z
    | @blk r ys up h1 h2 h3 =>
      have tt := tupT (S := S) (ts := [.ref r, up])
      have g2 := gn_int (S := S) (i := 2) (j := 2)
      have bk : f_is_block [net b (e : Nat) l, .ref r] S = .ok (.bl false) S := by
        have kn : Kn S (.ref r) := ⟨.bi "list", by simp [tyK, h1], by decide⟩
        have g1 := gIt kn
        have w2 : Wr (f_is_block [net b (e : Nat) l, .ref r] S) (fun d S' => d = .bl false ∧ S' = S) noX := by
          refine w_def ?_
          unfold b_is_block
          refine ws_seq ?_
          push_cast [g1, isTup]
          first | exact fin_gc ⟨rfl, rfl⟩ | exact w_gc_cl rfl ⟨rfl, rfl⟩
        exact w2.eq
      push_cast [tt, g2, c0, bk, decide_true]
      first | exact fin_gc ⟨rfl, rfl⟩ | exact w_gc_cl rfl ⟨rfl, rfl⟩
    | @lst r ys h1 h2 =>
      have kn : Kn S (.ref r) := ⟨.bi "list", by simp [tyK, h1], by decide⟩
      have g1 := gIt kn
      push_cast [g1, isTup]
      first | exact fin_gc ⟨rfl, rfl⟩ | exact w_gc_cl rfl ⟨rfl, rfl⟩
  exact w.eq
theorem inc_law {js : List Int} : (rngI 1 ((js.length : Int) - 1).toNat).map (fun d => match d with | .int k => D.bl (decide (js.getD (k - 1).toNat 0 < js.getD k.toNat 0)) | _ => .non) = ((List.range (js.length - 1)).map fun k => decide (js.getD k 0 < js.getD (k + 1) 0)).map D.bl := by
  unfold rngI
  rw [show ((js.length : Int) - 1).toNat = js.length - 1 by omega, List.map_map, List.map_map]
  refine List.map_congr_left fun k _ => ?_
  simp only [Function.comp]
  rw [show ((1 : Int) + (k : Nat) - 1).toNat = k by omega, show ((1 : Int) + (k : Nat)).toNat = k + 1 by omega]
theorem law_is_move_ok {S : Store} {n : Nat} {X : D} (h : Mv S n X) : f__law_is_move [.int (e : Nat), X] S = .ok (.bl (mvB e X)) S := by
  have c0 : ∀ x y : D, atI [x, y] 0 = some x := fun _ _ => rfl
  have c1 : ∀ x y : D, atI [x, y] 1 = some y := fun _ _ => rfl
  have w : Wr (f__law_is_move [.int (e : Nat), X] S) (fun d S' => d = .bl (mvB e X) ∧ S' = S) noX := by
    refine w_def ?_
    unfold b__law_is_move
    refine ws_seq ?_
    cases h with
    | @tup its up h1 h2 h3 =>
      have tt := tupT (S := S) (ts := [.tup its, up])
      have t2 := tupT (S := S) (ts := its)
      have iu := isint h2.1
      rw [← lint] at iu
      have g2 := gn_int (S := S) (i := 2) (j := 2)
      by_cases q0 : its = []
      · subst q0
        push_cast [tt, t2, g2, c0, List.length_nil, decide_true]
        first | exact fin_gc ⟨rfl, rfl⟩ | exact w_gc_cl rfl ⟨rfl, rfl⟩
      have z0 : ¬ ((its.length : Nat) : Int) = 0 := by
        intro z
        exact q0 (List.length_eq_zero_iff.mp (by omega))
      have ie : its.isEmpty = false := by
        cases its with
        | nil => exact absurd rfl q0
        | cons => rfl
      push_cast [tt, t2, g2, c0, z0, decide_true, decide_false]
      refine ws_seq ?_
      cases z : isInt up with
      | false =>
        rw [z] at iu
        push_cast [c1, iu]
        first | refine fin_gc ⟨?_, rfl⟩ | refine w_gc_cl rfl ⟨?_, rfl⟩
        cases up <;> simp_all [mvB, upB, isInt]
      | true =>
        cases up with
        | int u =>
          rw [z] at iu
          have g := in_up (S := S) (u := u) (neg := true)
          cases q1 : (decide (u = 1) || decide (u = -1)) with
          | false =>
            rw [q1] at g
            push_cast [c1, iu, g]
            first | exact fin_gc ⟨by simp only [mvB, upB, q1, Bool.and_false], rfl⟩ | exact w_gc_cl rfl ⟨by simp only [mvB, upB, q1, Bool.and_false], rfl⟩
          | true =>
            rw [q1] at g
            push_cast [c1, iu, g]
            refine ws_seq ?_
            push_cast [c0]
            refine w_lcM (fun d => D.bl (evB e d)) (fun T => trivial) (by have := lim_16; omega) ?_ ?_
            · intro d hd a
              have kd : Kn (S ++ [Ob.lst a]) d := (h1 d hd).1.app
              have i1 := isint kd
              rw [← lint] at i1
              refine ⟨_, rfl, ?_⟩
              cases y : isInt d with
              | false =>
                rw [y] at i1
                push_cast [i1]
                rw [evB_no y]
              | true =>
                cases d with
                | int i =>
                  rw [y] at i1
                  push_cast [i1]
                  by_cases y1 : 0 ≤ i
                  · push_cast [y1, decide_true]
                    simp [evB, y1]
                  · push_cast [y1, decide_false]
                    simp [evB, y1]
                | _ => cases y
            · have h4 := dBools_all (P := evB e) its
              push_cast [last1, h4]
              have ea : (its.map (evB e)).all id = its.all (evB e) := by simp [List.all_map]
              rw [ea]
              cases q : its.all (evB e) with
              | false =>
                push_cast []
                first | exact fin_gc ⟨by simp [mvB, q], rfl⟩ | exact w_gc_cl rfl ⟨by simp [mvB, q], rfl⟩
              | true =>
                obtain ⟨ei, _⟩ := ev_ints q
                push_cast []
                obtain ⟨js, hjs⟩ : ∃ js, js = its.map toI := ⟨_, rfl⟩
                have jl : js.length = its.length := by rw [hjs, List.length_map]
                rw [← hjs] at ei
                have b1 : bd 1 := by decide
                have b2 : bd ((its.length : Nat) : Int) := bd_small (by omega)
                push_cast [c0, v_rng2, b1, b2, exists_eq_left', exists_eq_left]
                refine w_lcM (fun d => match d with | .int k => D.bl (decide (js.getD (k - 1).toNat 0 < js.getD k.toNat 0)) | _ => .non) (fun T => trivial) (by unfold rngI; simp; have := lim_16; omega) ?_ ?_
                · intro d hd a
                  unfold rngI at hd
                  obtain ⟨k, hk, rfl⟩ := List.mem_map.mp hd
                  have kl : k + 1 < js.length := by
                    have := List.mem_range.mp hk
                    omega
                  have a0 : atI its ((1 : Int) + (k : Nat) - 1) = some (.int (js.getD k 0)) := by
                    rw [ei]
                    exact atI_nat (by omega) (by
                      rw [show ((1 : Int) + (k : Nat) - 1).toNat = k by omega, List.getElem?_map, List.getD_eq_getElem?_getD, List.getElem?_eq_getElem (show k < js.length by omega)]
                      rfl)
                  have a1 : atI its ((1 : Int) + (k : Nat)) = some (.int (js.getD (k + 1) 0)) := by
                    rw [ei]
                    exact atI_nat (by omega) (by
                      rw [show ((1 : Int) + (k : Nat)).toNat = k + 1 by omega, List.getElem?_map, List.getD_eq_getElem?_getD, List.getElem?_eq_getElem kl]
                      rfl)
                  refine ⟨_, rfl, ?_⟩
                  push_cast [c0, a0, a1]
                  rw [show ((1 : Int) + (k : Nat) - 1).toNat = k by omega, show ((1 : Int) + (k : Nat)).toNat = k + 1 by omega]
                · rw [← jl, inc_law]
                  push_cast [last1, dBools_map]
                  simp only [List.append_assoc]
                  first | refine fin_gc ⟨?_, rfl⟩ | refine w_gc_cl rfl ⟨?_, rfl⟩
                  simp only [mvB, ie, q, upB, q1, incB, ← hjs, Bool.not_false, Bool.true_and, Bool.and_true, List.all_map]
                  rfl
        | _ => cases z
    | @blk r ys up h1 h2 h3 =>
      have tt := tupT (S := S) (ts := [.ref r, up])
      have g2 := gn_int (S := S) (i := 2) (j := 2)
      have kn : Kn S (.ref r) := ⟨.bi "list", by simp [tyK, h1], by decide⟩
      have g1 := gIt kn
      push_cast [tt, g2, c0, g1, isTup, decide_true]
      first | exact fin_gc ⟨rfl, rfl⟩ | exact w_gc_cl rfl ⟨rfl, rfl⟩
    | @lst r ys h1 h2 =>
      have kn : Kn S (.ref r) := ⟨.bi "list", by simp [tyK, h1], by decide⟩
      have g1 := gIt kn
      push_cast [g1, isTup]
      first | exact fin_gc ⟨rfl, rfl⟩ | exact w_gc_cl rfl ⟨rfl, rfl⟩
  exact w.eq
end
end Mi_k20

set_option linter.all false
set_option autoImplicit false
set_option maxRecDepth 100000
set_option maxHeartbeats 4000000
namespace Mi_k20
open PySem Lk L2
section
variable {M b : Int} {e : Nat} {P : Po}
def stepX (M b u : Int) (js xs : List Int) : List Int := js.foldl (fun xs j => xs.set j.toNat ((xs.getD j.toNat 0 + u * M) % (b * M))) xs
theorem stepX_snoc {u j : Int} {js xs : List Int} : stepX M b u (js ++ [j]) xs = (stepX M b u js xs).set j.toNat (((stepX M b u js xs).getD j.toNat 0 + u * M) % (b * M)) := by
  unfold stepX
  rw [List.foldl_append]
  rfl
theorem stepX_len {u : Int} : ∀ {js xs : List Int}, (stepX M b u js xs).length = xs.length
  | [], _ => rfl
  | j :: js, xs => by
    unfold stepX
    rw [List.foldl_cons]
    have := stepX_len (u := u) (js := js) (xs := xs.set j.toNat ((xs.getD j.toNat 0 + u * M) % (b * M)))
    unfold stepX at this
    rw [this, List.length_set]
theorem stepX_in {u : Int} (h : 0 < b * M) : ∀ {js xs : List Int}, (∀ x ∈ xs, 0 ≤ x ∧ x < b * M) → ∀ x ∈ stepX M b u js xs, 0 ≤ x ∧ x < b * M
  | [], _, hx => hx
  | j :: js, xs, hx => by
    unfold stepX
    rw [List.foldl_cons]
    exact stepX_in (u := u) h (js := js) (xs := xs.set j.toNat ((xs.getD j.toNat 0 + u * M) % (b * M))) fun x hm => by
      rcases List.mem_or_eq_of_mem_set hm with z | z
      · exact hx x z
      · rw [z]; exact ⟨Int.emod_nonneg _ (by omega), Int.emod_lt_of_pos _ h⟩
theorem take_snoc {js : List Int} {i : Nat} {j : Int} (h : js[i]? = some j) : js.take (i + 1) = js.take i ++ [j] := by
  rw [List.take_add_one, h]
  rfl
theorem in_sz {x : Int} (c : Cx M b e) (hM9 : M ≤ 1000000000) (h : 0 ≤ x ∧ x < b * M) : Sz 60 x := by
  have : b * M ≤ 1440 * 1000000000 := Int.mul_le_mul c.b2 hM9 (by have := c.hM; omega) (by omega)
  exact .of (1440 * 1000000000) (by omega)
theorem F2.at {P : D → D → Prop} : ∀ {ds rs : List D} {k : Nat} {r : D}, F2 P ds rs → rs[k]? = some r → ∃ d, ds[k]? = some d ∧ P d r
  | d :: ds, r' :: rs, 0, r, f, h => by
    simp at h
    subst h
    exact ⟨d, rfl, f.1⟩
  | d :: ds, r' :: rs, k + 1, r, f, h => F2.at (k := k) f.2 (by simpa using h)
  | [], [], _, _, _, h => by simp at h
  | [], _ :: _, _, _, f, _ => f.elim
  | _ :: _, [], _, _, f, _ => f.elim
theorem as_plain_w {S : Store} {ts : List D} {xs : List Int} (hM : 0 < M) (f : F2 (VT M) ts (xs.map D.int)) (hl : ts.length ≤ 100) :
    Wr (f_as_plain [.tup ts] S) (fun d S' => Od S S' ∧ ∃ rs, d = .tup rs ∧ F2 (PT M) rs (xs.map D.int)) noX := by
  refine w_def ?_
  unfold b_as_plain
  push_cast []
  refine w_lcP (R := fun t r => ∃ x, Vl M x t ∧ Sz 60 x ∧ PVl M x r) (fun T => trivial) (by have := lim_16; omega) ?_ ?_
  · intro t ht a
    obtain ⟨s, hs, x, rfl, sx, v⟩ := F2.mem' f t ht
    obtain ⟨d', e1, pv⟩ := plain_ok (S := S ++ [.lst a]) v
    refine ⟨_, rfl, ?_⟩
    push_cast [e1]
    exact ⟨x, v, sx, pv⟩
  · intro rs fr
    push_cast [last1]
    have key : ∀ {ts rs : List D} {xs : List Int}, F2 (VT M) ts (xs.map D.int) → F2 (fun t r => ∃ x, Vl M x t ∧ Sz 60 x ∧ PVl M x r) ts rs → F2 (PT M) rs (xs.map D.int) := fun {ts} => by
      induction ts with
      | nil => intro rs xs f g; cases rs with
        | nil => cases xs with
          | nil => trivial
          | cons x xs => exact f.elim
        | cons r rs => exact g.elim
      | cons t ts ih => intro rs xs f g; cases rs with
        | nil => exact g.elim
        | cons r rs => cases xs with
          | nil => exact f.elim
          | cons x xs =>
            obtain ⟨⟨x1, ex, s1, v1⟩, f⟩ := f
            obtain ⟨⟨x2, v2, s2, p2⟩, g⟩ := g
            cases ex
            rw [Vl.uniq v2 v1] at p2
            exact ⟨⟨x, rfl, s1, p2⟩, ih f g⟩
    exact w_gc ⟨Od.app, rs, rfl, key f fr⟩ fun _ _ => ⟨Od.refl, rs, rfl, key f fr⟩
theorem stepped_w {S : Store} {l rs : List D} {xs js : List Int} {u : Int} (c : Cx M b e) (hM9 : M ≤ 1000000000) (f : F2 (PT M) rs (xs.map D.int)) (xl : xs.length = e) (hx : ∀ x ∈ xs, 0 ≤ x ∧ x < b * M) (hj : ∀ j ∈ js, 0 ≤ j ∧ j < (e : Nat)) (hu : u = 1 ∨ u = -1) :
    Wr (f_stepped [net b (e : Nat) l, .tup rs, .tup [.tup (js.map D.int), .int u]] S) (fun d S' => Od S S' ∧ ∃ rs', d = .tup rs' ∧ F2 (PT M) rs' ((stepX M b u js xs).map D.int)) noX := by
  have cM := c.hM
  have cb1 := c.b1
  have sM : Sz 100 M := c.sM.mono (by decide)
  have sb : Sz 100 b := .of 1440 (by have := c.b2; omega)
  have bM : 0 < b * M := Int.mul_pos (by omega) cM
  have fb := fun S => fn_beat (S := S) (b := b) (e := (e : Nat)) (ds := l)
  refine w_def ?_
  unfold b_stepped
  refine ws_seq ?_
  push_cast []
  refine ws_seq ?_
  push_cast []
  refine ws_seq ?_
  push_cast []
  refine w_for (I := fun i env S' => ∃ w6 rs', env = [some (net b (e : Nat) l), some (.tup rs), some (.tup [.tup (js.map D.int), .int u]), some (.tup (js.map D.int)), some (.int u), some (.ref S.length), w6] ∧ S'[S.length]? = some (.lst rs') ∧ F2 (PT M) rs' ((stepX M b u (js.take i) xs).map D.int) ∧ Od S S') ?_ ?_ ?_
  · exact ⟨_, rs, rfl, last1, f, Od.app⟩
  · rintro i d env S1 hi ⟨w6, rs1, rfl, h1, f1, od1⟩
    rw [List.getElem?_map] at hi
    cases hj' : js[i]? with
    | none => rw [hj'] at hi; cases hi
    | some j =>
      rw [hj'] at hi
      simp only [Option.map_some, Option.some.injEq] at hi
      subst hi
      obtain ⟨j0, j1⟩ := hj j (List.mem_of_getElem? hj')
      obtain ⟨ys, hys⟩ : ∃ ys, ys = stepX M b u (js.take i) xs := ⟨_, rfl⟩
      have yl : ys.length = e := by rw [hys, stepX_len, xl]
      have yin : ∀ y ∈ ys, 0 ≤ y ∧ y < b * M := by rw [hys]; exact stepX_in bM hx
      rw [← hys] at f1
      have yj : ys[j.toNat]? = some (ys.getD j.toNat 0) := by
        rw [List.getD_eq_getElem?_getD, List.getElem?_eq_getElem (show j.toNat < ys.length by omega)]
        rfl
      obtain ⟨t, ht, x, ex, sx, pv⟩ := F2.at f1 (show (ys.map D.int)[j.toNat]? = some (.int (ys.getD j.toNat 0)) by rw [List.getElem?_map, yj]; rfl)
      cases ex
      have rl : rs1.length = e := by
        have := F2.len f1
        rw [List.length_map] at this
        omega
      have at_ : atI rs1 j = some t := atI_nat j0 ht
      have su : Sz 110 (u * M) := by
        rcases hu with z | z <;> subst z <;> simp only [Int.one_mul, Int.neg_mul]
        · exact sM.mono (by decide)
        · exact (sM.neg).mono (by decide)
      obtain ⟨t1, q1, v1⟩ := sum_vl (S := S1) cM sM (sx.mono (by decide)) su pv.vl (vl_int (p := u))
      obtain ⟨t2, q2, v2⟩ := restof_ok (S := S1) cM (show 0 < b by omega) sM sb v1
      refine ⟨trivial, ?_⟩
      generalize gBinX tAdd rAdd Lk.gAdd = GA at q1 ⊢
      push_cast [h1, at_, q1, fb, q2]
      refine ⟨j.toNat, ixN_lt j0 (by rw [rl]; exact j1), ?_⟩
      have nl := getlt h1
      refine ⟨_, rs1.set j.toNat t2, rfl, by rw [List.getElem?_set_self nl], ?_, od1.set (Nat.le_refl _)⟩
      rw [take_snoc hj', stepX_snoc, ← hys, List.map_set]
      exact F2.set ⟨_, rfl, in_sz c hM9 ⟨Int.emod_nonneg _ (by omega), Int.emod_lt_of_pos _ bM⟩, v2⟩ f1
  · rintro env S1 ⟨w6, rs1, rfl, h1, f1, od1⟩
    rw [List.length_map, List.take_length] at f1
    refine ⟨trivial, ?_⟩
    push_cast [h1]
    exact w_gc ⟨od1, rs1, rfl, f1⟩ fun _ _ => ⟨Od.refl, rs1, rfl, f1⟩
theorem bad_no {k : Nat} {ys : List Int} (h : ∀ y ∈ ys, 0 ≤ y ∧ y < b * M) : bad b M k (ys.map D.int) = none := by
  induction ys generalizing k with
  | nil => rfl
  | cons y ys ih =>
    rw [List.map_cons, bad, if_pos (by simp only [momB]; exact decide_eq_true (h y List.mem_cons_self))]
    exact ih fun z hz => h z (List.mem_cons_of_mem _ hz)
theorem toI_map {xs : List Int} : (xs.map D.int).map toI = xs := by
  rw [List.map_map]
  exact List.map_id' xs
theorem tt_brk {S : Store} {l ts : List D} {xs : List Int} (c : Cx M b e) (hd : ∀ d ∈ l, spanB b (e : Nat) d = true) (hl : l.length ≤ 60) (f : F2 (VT M) ts (xs.map D.int)) (xl : xs.length = e) (hx : ∀ x ∈ xs, 0 ≤ x ∧ x < b * M) :
    f_is_timetable [net b (e : Nat) l, .tup ts] S = .ok (.bl (brk M b xs 0 l).isNone) S := by
  have tl : ts.length = e := by
    have := F2.len f
    rw [List.length_map] at this
    omega
  have f2 : F2 (It M S) ts (xs.map D.int) := F2.imp (fun d r z => Or.inl z) f
  have mo := moments_ok c f2 tl hd hl
  have tt := is_tt mo
  rw [tt]
  have : isNonD (dueD M b (xs.map D.int) l) = (brk M b xs 0 l).isNone := by
    unfold dueD
    rw [bad_no hx, toI_map]
    dsimp only
    cases brk M b xs 0 l <;> rfl
  rw [this]
theorem fb_brk {S : Store} {l ts : List D} {xs : List Int} (c : Cx M b e) (hd : ∀ d ∈ l, spanB b (e : Nat) d = true) (hl : l.length ≤ 60) (f : F2 (VT M) ts (xs.map D.int)) (xl : xs.length = e) :
    f_first_broken [net b (e : Nat) l, .tup ts] S = .ok (res (brk M b xs 0 l)) S := by
  have tv := tv_of (S := S) (M := M) (F2.imp (fun d r z => Or.inl z) f) (fun s hs => by obtain ⟨x, _, rfl⟩ := List.mem_map.mp hs; exact ⟨x, rfl⟩)
  rw [toI_map] at tv
  exact first_broken_ok c tv xl hd hl
/-- what the law is told -/
def sRfu (p q r : Bool) : D := .tup [.str (Str.ofString "refused"), .tup [.bl p, .bl q, .bl r]]
def sBrk (k : Int) : D := .tup [.str (Str.ofString "broken"), .int k]
theorem eqd3 {S : Store} {p q r : Bool} : gEqD (.tup [.bl p, .bl q, .bl r]) (.tup [.bl false, .bl false, .bl true]) S = .ok (.bl (!p && !q && r)) S := by
  unfold gEqD
  have : eqData S (.tup [.bl p, .bl q, .bl r]) (.tup [.bl false, .bl false, .bl true]) = some (!p && !q && r) := by cases p <;> cases q <;> cases r <;> rfl
  rw [this]
theorem told_ex {S : Store} {nd th X : D} {C : Str} {xs : List D} {p q : Bool} (h : f_moved [nd, th, X] S = .ex C xs S) (h1 : sb (Str.ofString "SpansError") C = some true) (k1 : xk C (.own "BadTimetable") = some p) (k2 : xk C (.own "BadMove") = some q) (k3 : xk C (.own "Broken") = some false) : f__law_told [nd, th, X] S = .ok (sRfu p q false) S := by
  have w : Wr (f__law_told [nd, th, X] S) (fun d S' => d = sRfu p q false ∧ S' = S) noX := by
    have e3 := eqd3 (S := S) (p := p) (q := q) (r := false)
    simp only [Bool.and_false] at e3
    refine w_def ?_
    unfold b__law_told
    refine ws_seq ?_
    refine w_try ?_
    push_cast [h, w_ex]
    refine ⟨true, h1, ?_⟩
    simp only [if_true]
    refine w_endAs ?_
    refine ws_seq ?_
    push_cast [k1, k2, k3]
    refine ws_seq ?_
    push_cast [e3]
    exact fin_gc ⟨rfl, rfl⟩
  exact w.eq
theorem told_tt {S : Store} {nd th X : D} (h : f_is_timetable [nd, th] S = .ok (.bl false) S) : f__law_told [nd, th, X] S = .ok (sRfu true false false) S := by
  have mv : f_moved [nd, th, X] S = .ex "BadTimetable" [] S := by
    unfold f_moved mDef b_moved
    simp only [mSeq, RS.seq, mIfS, mTest, mSet, mRet, mVar, mC, mNil, mCons, Lk.m1, Lk.m2, mB, mAnd, mOr, mNot, mAndT, mOrT, mNotT, mIf, mAsg, mNext, mCall, R.bind, R.bindS, R.nxt, asB, gSub', mTup, mLst, List.getElem?_cons_succ, List.getElem?_cons_zero, List.getElem?_nil, List.set_cons_succ, List.set_cons_zero, List.map_cons, List.map_nil, List.cons_append, List.nil_append, List.length_cons, List.length_nil, List.replicate, Lk.gIx, Lk.gAdd, Lk.gSub, Lk.gMul, Lk.gDiv, Lk.gMod, gInt, gCmp, gNeg, gAbs, gGcd, gLen, List.length_map, Lk.listOf, stIx, if_true, if_false, Bool.false_eq_true, reduceIte, Nat.reduceAdd, Nat.reduceSub, Nat.zero_add, eqz_int, pow1010, pow1018, pow1019, Int.reduceMul, Int.reduceAdd, ix40, ix41, ix42, ix43, at40, at41, at42, at43, and_true, true_and, and_self, ne_eq, not_false_eq_true, decide_true, decide_false, decide_eq_true_eq, Bool.and_true, Bool.true_and, mFor, iSeq, srcOf, vals, forGo_n, forGo_c, gSet, mRaise1, mSetF, setF, lim_le, Nat.reduceLeDiff, Bool.not_false, Bool.not_true, Nat.lt_irrefl, List.length_append, List.append_assoc, h, mRaise0]
    exact gcX_self
  exact told_ex mv (by decide) (by decide) (by decide) (by decide)
theorem told_mv {S : Store} {nd th X : D} (h : f_is_timetable [nd, th] S = .ok (.bl true) S) (h2 : f_is_move [nd, X] S = .ok (.bl false) S) : f__law_told [nd, th, X] S = .ok (sRfu false true false) S := by
  have mv : f_moved [nd, th, X] S = .ex "BadMove" [] S := by
    unfold f_moved mDef b_moved
    simp only [mSeq, RS.seq, mIfS, mTest, mSet, mRet, mVar, mC, mNil, mCons, Lk.m1, Lk.m2, mB, mAnd, mOr, mNot, mAndT, mOrT, mNotT, mIf, mAsg, mNext, mCall, R.bind, R.bindS, R.nxt, asB, gSub', mTup, mLst, List.getElem?_cons_succ, List.getElem?_cons_zero, List.getElem?_nil, List.set_cons_succ, List.set_cons_zero, List.map_cons, List.map_nil, List.cons_append, List.nil_append, List.length_cons, List.length_nil, List.replicate, Lk.gIx, Lk.gAdd, Lk.gSub, Lk.gMul, Lk.gDiv, Lk.gMod, gInt, gCmp, gNeg, gAbs, gGcd, gLen, List.length_map, Lk.listOf, stIx, if_true, if_false, Bool.false_eq_true, reduceIte, Nat.reduceAdd, Nat.reduceSub, Nat.zero_add, eqz_int, pow1010, pow1018, pow1019, Int.reduceMul, Int.reduceAdd, ix40, ix41, ix42, ix43, at40, at41, at42, at43, and_true, true_and, and_self, ne_eq, not_false_eq_true, decide_true, decide_false, decide_eq_true_eq, Bool.and_true, Bool.true_and, mFor, iSeq, srcOf, vals, forGo_n, forGo_c, gSet, mRaise1, mSetF, setF, lim_le, Nat.reduceLeDiff, Bool.not_false, Bool.not_true, Nat.lt_irrefl, List.length_append, List.append_assoc, h, h2, mRaise0]
    exact gcX_self
  exact told_ex mv (by decide) (by decide) (by decide) (by decide)
theorem told_go {S : Store} {l ts : List D} {xs js : List Int} {u : Int} (c : Cx M b e) (hM9 : M ≤ 1000000000) (hd : ∀ d ∈ l, spanB b (e : Nat) d = true) (hl : l.length ≤ 60) (f : F2 (VT M) ts (xs.map D.int)) (xl : xs.length = e) (hx : ∀ x ∈ xs, 0 ≤ x ∧ x < b * M)
    (hb : brk M b xs 0 l = none) (hm : f_is_move [net b (e : Nat) l, .tup [.tup (js.map D.int), .int u]] S = .ok (.bl true) S) (hj : ∀ j ∈ js, 0 ≤ j ∧ j < (e : Nat)) (hu : u = 1 ∨ u = -1) :
    Wr (f__law_told [net b (e : Nat) l, .tup ts, .tup [.tup (js.map D.int), .int u]] S) (fun d S' => Od S S' ∧ match brk M b (stepX M b u js xs) 0 l with
      | some k => d = sBrk (k : Nat)
      | none => ∃ rs, d = .tup [.str (Str.ofString "told"), .tup rs] ∧ F2 (PT M) rs ((stepX M b u js xs).map D.int)) noX := by
  have tt := tt_brk (S := S) c hd hl f xl hx
  rw [hb] at tt
  have tl : ts.length = e := by
    have := F2.len f
    rw [List.length_map] at this
    omega
  have e2 := c.e2
  refine w_def ?_
  unfold b__law_told
  refine ws_seq ?_
  refine w_try ?_
  push_cast []
  have mv : Wr (f_moved [net b (e : Nat) l, .tup ts, .tup [.tup (js.map D.int), .int u]] S) (fun d S' => Od S S' ∧ brk M b (stepX M b u js xs) 0 l = none ∧ ∃ rs, d = .tup rs ∧ F2 (PT M) rs ((stepX M b u js xs).map D.int)) (fun C ds S' => Od S S' ∧ C = "Broken" ∧ ∃ k, brk M b (stepX M b u js xs) 0 l = some k ∧ ds = [.int (k : Nat)]) := by
    refine w_def ?_
    unfold b_moved
    refine ws_seq ?_
    push_cast [tt]
    refine ws_seq ?_
    push_cast [hm]
    refine ws_seq ?_
    push_cast []
    refine (as_plain_w c.hM f (by omega)).to ?_
    rintro _ S1 ⟨od1, rs, rfl, fr⟩
    refine (stepped_w c hM9 fr xl hx hj hu).to ?_
    rintro _ S2 ⟨od2, rs2, rfl, f2⟩
    have od := od1.trans od2
    refine ws_seq ?_
    have fb := fb_brk (S := S2) c hd hl (F2.imp (fun d r h => PT.vt h) f2) (by rw [stepX_len, xl])
    push_cast [fb]
    refine ws_seq ?_
    cases q : brk M b (stepX M b u js xs) 0 l with
    | some k =>
      push_cast [res, isNonD]
      exact w_gcX (by simp [clL, D.cl]) od.take ⟨Od.refl, rfl, rfl⟩
    | none =>
      push_cast [res, isNonD]
      exact w_gc ⟨od, rs2, rfl, f2⟩ fun _ _ => ⟨Od.refl, rs2, rfl, f2⟩
  refine mv.mono ?_ ?_
  · rintro _ S1 ⟨od, hk, rs, rfl, f2⟩
    rw [hk]
    push_cast []
    exact w_gc ⟨od, rs, rfl, f2⟩ fun _ _ => ⟨Od.refl, rs, rfl, f2⟩
  · rintro C ds S1 ⟨od, rfl, k, hk, rfl⟩
    rw [hk]
    dsimp only
    refine ⟨true, by decide, ?_⟩
    simp only [if_true]
    refine w_endAs ?_
    refine ws_seq ?_
    have e3 := eqd3 (S := S1) (p := false) (q := false) (r := true)
    have li := law_int (S := S1) (i := (k : Nat))
    have xf : ((xfl "Broken").zip [D.int (k : Nat)]).lookup (Str.ofString "index") = some (.int (k : Nat)) := by rfl
    push_cast [show xk "Broken" (.own "BadTimetable") = some false by decide, show xk "Broken" (.own "BadMove") = some false by decide, show xk "Broken" (.own "Broken") = some true by decide]
    refine ws_seq ?_
    push_cast [e3, xf, li]
    exact w_gc ⟨od, rfl⟩ fun _ _ => ⟨Od.refl, rfl⟩
end
end Mi_k20

set_option linter.all false
set_option autoImplicit false
set_option maxRecDepth 100000
set_option maxHeartbeats 4000000
namespace Mi_k20
open PySem Lk L2
section
variable {M b : Int} {e : Nat} {P : Po}
theorem brk_drop {xs : List Int} {l : List D} {k : Nat} {d : D} (h : l[k]? = some d) : brk M b xs k (l.drop k) = if hiOf d * M < lnOf M b xs d then some k else brk M b xs (k + 1) (l.drop (k + 1)) := by
  have kl := (List.getElem?_eq_some_iff.mp h).1
  rw [List.drop_eq_getElem_cons kl, brk]
  rw [List.getElem?_eq_getElem kl] at h
  cases h
  rfl
theorem law_fb {S : Store} {l : List D} {xs : List Int} {p q : Nat} (c : Cx M b e) (hM9 : M ≤ 1000000000) (hd : ∀ d ∈ l, spanB b (e : Nat) d = true) (hl : l.length ≤ 60) (hp : S[p]? = some (.lst l)) (hq : S[q]? = some (.lst (xs.map D.int))) (xl : xs.length = e) (hx : ∀ x ∈ xs, 0 ≤ x ∧ x < b * M) :
    f__law_first_broken [.int b, .int M, .ref p, .ref q] S = .ok (res (brk M b xs 0 l)) S := by
  have cM := c.hM
  have cb1 := c.b1
  have bM : 0 < b * M := Int.mul_pos (by omega) cM
  have nbM : ¬ b * M = 0 := by omega
  have mb := mulok c.sb c.sM
  have fm := fun z => fmd_p (i := z) bM
  have bdl : bd ((l.length : Nat) : Int) := bd_small (by omega)
  have w : Wr (f__law_first_broken [.int b, .int M, .ref p, .ref q] S) (fun d S' => d = res (brk M b xs 0 l) ∧ S' = S) noX := by
    refine w_def ?_
    unfold b__law_first_broken
    refine ws_seq ?_
    push_cast [hp, bdl, Int.toNat_natCast]
    refine w_for (I := fun k env S' => S' = S ∧ ∃ w4 w5 w6 w7 w8 w9, env = [some (.int b), some (.int M), some (.ref p), some (.ref q), w4, w5, w6, w7, w8, w9] ∧ brk M b xs 0 l = brk M b xs k (l.drop k)) ?_ ?_ ?_
    · exact ⟨rfl, _, _, _, _, _, _, rfl, rfl⟩
    · rintro k y env S' hi ⟨rfl, w4, w5, w6, w7, w8, w9, rfl, eb⟩
      obtain ⟨kl, rfl⟩ := rng_get hi
      have hk := List.getElem?_eq_getElem kl
      obtain ⟨i, j, lo, hi1, ed, i0, i1, j0, j1, ij, l0, l1, l2, l3⟩ := sp4 (hd _ (List.getElem_mem kl))
      have al : atI l (k : Nat) = some (.tup [.int i, .int j, .int lo, .int hi1]) := by
        have := atI_nat (l := l) (show (0 : Int) ≤ (k : Nat) by omega) (by rw [Int.toNat_natCast]; exact hk)
        rwa [ed] at this
      have ai : atI (xs.map D.int) i = some (.int (xs.getD i.toNat 0)) := atI_nat i0 (by
        rw [List.getElem?_map, List.getD_eq_getElem?_getD, List.getElem?_eq_getElem (show i.toNat < xs.length by omega)]
        rfl)
      have aj : atI (xs.map D.int) j = some (.int (xs.getD j.toNat 0)) := atI_nat j0 (by
        rw [List.getElem?_map, List.getD_eq_getElem?_getD, List.getElem?_eq_getElem (show j.toNat < xs.length by omega)]
        rfl)
      have ml := mulok (show Sz 20 lo from .of 2880 (by omega)) (c.sM.mono (show 35 ≤ 40 by decide))
      have mh := mulok (show Sz 20 hi1 from .of 2880 (by omega)) (c.sM.mono (show 35 ≤ 40 by decide))
      refine ⟨trivial, ?_⟩
      push_cast []
      refine ws_seq ?_
      push_cast [hp, al]
      refine ws_seq ?_
      push_cast [hq, ai, aj, ml, mb, nbM, fm]
      rw [brk_drop hk, ed] at eb
      by_cases z : hi1 * M < (xs.getD j.toNat 0 - xs.getD i.toNat 0 - lo * M) % (b * M) + lo * M
      · have z' : hiOf (D.tup [.int i, .int j, .int lo, .int hi1]) * M < lnOf M b xs (D.tup [.int i, .int j, .int lo, .int hi1]) := z
        rw [if_pos z'] at eb
        push_cast [mh, z, decide_true]
        rw [eb]
        exact fin_gc ⟨rfl, rfl⟩
      · have z' : ¬ hiOf (D.tup [.int i, .int j, .int lo, .int hi1]) * M < lnOf M b xs (D.tup [.int i, .int j, .int lo, .int hi1]) := z
        rw [if_neg z'] at eb
        push_cast [mh, z, decide_false]
        exact ⟨_, _, _, _, _, _, rfl, eb⟩
    · rintro env S' ⟨rfl, w4, w5, w6, w7, w8, w9, rfl, eb⟩
      have rl : (rngI 0 l.length).length = l.length := by simp [rngI]
      rw [rl, List.drop_length] at eb
      refine ⟨trivial, ?_⟩
      push_cast []
      rw [eb]
      exact fin_gc ⟨rfl, rfl⟩
  exact w.eq
theorem mv_true {S : Store} {n : Nat} {X : D} (h : Mv S n X) (hm : mvB e X = true) : ∃ (js : List Int) (u : Int), X = .tup [.tup (js.map D.int), .int u] ∧ (∀ j ∈ js, 0 ≤ j ∧ j < (e : Nat)) ∧ (u = 1 ∨ u = -1) := by
  cases h with
  | @tup its up h1 h2 h3 =>
    simp only [mvB, Bool.and_eq_true] at hm
    obtain ⟨⟨⟨_, a2⟩, _⟩, a4⟩ := hm
    obtain ⟨e1, e2⟩ := ev_ints a2
    cases up with
    | int u =>
      refine ⟨_, u, by rw [← e1], e2, ?_⟩
      simpa [upB] using a4
    | _ => cases a4
  | blk => cases hm
  | lst => cases hm
theorem eq_rfu {S : Store} {p q r : Bool} : gEqZ cs oe (sRfu p q r) (.tup [.str (Str.ofString "refused"), .tup [.bl p, .bl q, .bl r]]) S = .ok (.bl true) S := by
  have st : PyData.strOk (Str.ofString "refused") = true := by decide +kernel
  have o : okP 11 (sRfu p q r) = true := by simp [sRfu, okP, okPL, st]
  show gEqZ cs oe (sRfu p q r) (sRfu p q r) S = _
  rw [(Dat.val o).eqZ (Dat.val o)]
  have : PyData.eqv (toP (sRfu p q r)) (toP (sRfu p q r)) = true := by
    simp [sRfu, toP, toPL, PyData.eqv, PyData.eqvAll]
  rw [this]
theorem eq_brk {S : Store} {k : Int} : gEqZ cs oe (sBrk k) (.tup [.str (Str.ofString "broken"), .int k]) S = .ok (.bl true) S := by
  have st : PyData.strOk (Str.ofString "broken") = true := by decide +kernel
  have o : okP 11 (sBrk k) = true := by simp [sBrk, okP, okPL, st]
  have oc : okC (sBrk k) = true := by simp [sBrk, okC, okCL]
  show gEqZ cs oe (sBrk k) (sBrk k) S = _
  rw [(Dat.val o).eqZ (Dat.val o), eqv_dec (p := True) oc oc (by simp)]
  rfl
theorem eq_told {S : Store} : gEqZ cs oe (.str (Str.ofString "told")) (.str (Str.ofString "told")) S = .ok (.bl true) S := by
  have st : PyData.strOk (Str.ofString "told") = true := by decide +kernel
  have o : okP 11 (.str (Str.ofString "told")) = true := by simp [okP, st]
  rw [(Dat.val o).eqZ (Dat.val o), eqv_dec (p := True) rfl rfl (by simp)]
  rfl
theorem right_w {S : Store} {n : Nat} {l ts : List D} {xs : List Int} {X : D} {p q : Nat} (c : Cx M b e) (hM9 : M ≤ 1000000000) (hd : ∀ d ∈ l, spanB b (e : Nat) d = true) (hl : l.length ≤ 60) (hp : S[p]? = some (.lst l)) (hq : S[q]? = some (.lst (xs.map D.int))) (xl : xs.length = e) (hx : ∀ x ∈ xs, 0 ≤ x ∧ x < b * M) (f : F2 (VT M) ts (xs.map D.int)) (hX : Mv S n X) :
    Wr (f__law_right [net b (e : Nat) l, .int M, .ref p, .ref q, .tup ts, X] S) (fun d S' => d = .bl true ∧ Od S S') noX := by
  have cM := c.hM
  have cb1 := c.b1
  have e2 := c.e2
  have sM : Sz 100 M := c.sM.mono (by decide)
  have bM : 0 < b * M := Int.mul_pos (by omega) cM
  have nbM : ¬ b * M = 0 := by omega
  have mb := mulok c.sb c.sM
  have fm := fun z => fmd_p (i := z) bM
  have fb := fun S => fn_beat (S := S) (b := b) (e := (e : Nat)) (ds := l)
  have fe := fun S => fn_ev (S := S) (b := b) (e := (e : Nat)) (ds := l)
  have c0 : ∀ x y : D, atI [x, y] 0 = some x := fun _ _ => rfl
  have c1 : ∀ x y : D, atI [x, y] 1 = some y := fun _ _ => rfl
  have tt := tt_brk (S := S) c hd hl f xl hx
  have lf := law_fb (S := S) c hM9 hd hl hp hq xl hx
  refine w_def ?_
  unfold b__law_right
  refine ws_seq ?_
  cases qb : brk M b xs 0 l with
  | some k =>
    rw [qb] at tt lf
    have tl := told_tt (X := X) tt
    have eq := eq_rfu (S := S) (p := true) (q := false) (r := false)
    push_cast [tl]
    refine ws_seq ?_
    push_cast [fb, lf, res, isNonD, eq]
    exact fin_gc ⟨rfl, Od.refl⟩
  | none =>
    rw [qb] at tt lf
    have mv := is_move_ok (b := b) (e := e) (l := l) hX
    have lm := law_is_move_ok (e := e) hX
    cases qm : mvB e X with
    | false =>
      rw [qm] at mv lm
      have tl := told_mv tt mv
      have eq := eq_rfu (S := S) (p := false) (q := true) (r := false)
      push_cast [tl]
      refine ws_seq ?_
      push_cast [fb, lf, res, isNonD]
      refine ws_seq ?_
      push_cast [fe, lm, eq]
      exact fin_gc ⟨rfl, Od.refl⟩
    | true =>
      rw [qm] at mv lm
      obtain ⟨js, u, rfl, hj, hu⟩ := mv_true hX qm
      push_cast []
      refine (told_go c hM9 hd hl f xl hx qb mv hj hu).to ?_
      rintro told S1 ⟨od1, ht⟩
      have hp1 := od1.get hp
      have hq1 := od1.get hq
      have lf1 := law_fb (S := S1) c hM9 hd hl hp1 hq1 xl hx
      rw [qb] at lf1
      have lm1 := law_is_move_ok (S := S1) (n := n) (e := e) (X := .tup [.tup (js.map D.int), .int u]) (.tup (fun i hi => by obtain ⟨z, _, rfl⟩ := List.mem_map.mp hi; exact KnN.int z) (KnN.int u) (by cases hX with | tup _ _ h3 => exact h3))
      rw [qm] at lm1
      refine ws_seq ?_
      push_cast [fb, lf1, res, isNonD]
      refine ws_seq ?_
      push_cast [fe, lm1]
      refine ws_seq ?_
      push_cast [hq1]
      refine ws_seq ?_
      push_cast [c0]
      have su : Sz 20 u := .of 1 (by omega)
      have mu := mulok su (c.sM.mono (show 35 ≤ 40 by decide))
      refine w_for (I := fun i env S' => ∃ w8, env = [some (net b (e : Nat) l), some (.int M), some (.ref p), some (.ref q), some (.tup ts), some (.tup [.tup (js.map D.int), .int u]), some told, some (.ref S1.length), w8, none] ∧ S'[S1.length]? = some (.lst ((stepX M b u (js.take i) xs).map D.int)) ∧ Od S1 S') ?_ ?_ ?_
      · exact ⟨_, rfl, last1, Od.app⟩
      · rintro i d env S2 hi ⟨w8, rfl, h2, od2⟩
        rw [List.getElem?_map] at hi
        cases hj' : js[i]? with
        | none => rw [hj'] at hi; cases hi
        | some j =>
          rw [hj'] at hi
          simp only [Option.map_some, Option.some.injEq] at hi
          subst hi
          obtain ⟨j0, j1⟩ := hj j (List.mem_of_getElem? hj')
          obtain ⟨ys, hys⟩ : ∃ ys, ys = stepX M b u (js.take i) xs := ⟨_, rfl⟩
          have yl : ys.length = e := by rw [hys, stepX_len, xl]
          rw [← hys] at h2
          have at_ : atI (ys.map D.int) j = some (.int (ys.getD j.toNat 0)) := atI_nat j0 (by
            rw [List.getElem?_map, List.getD_eq_getElem?_getD, List.getElem?_eq_getElem (show j.toNat < ys.length by omega)]
            rfl)
          refine ⟨trivial, ?_⟩
          push_cast [h2, at_, c1, mu, fb, mb, nbM, fm, List.length_map]
          refine ⟨j.toNat, ixN_lt j0 (by rw [yl]; exact j1), ?_⟩
          have nl := getlt h2
          refine ⟨_, rfl, ?_, od2.set (Nat.le_refl _)⟩
          rw [List.getElem?_set_self nl, take_snoc hj', stepX_snoc, ← hys, List.map_set]
      · rintro env S2 ⟨w8, rfl, h2, od2⟩
        rw [List.length_map, List.take_length] at h2
        refine ⟨trivial, ?_⟩
        have od := od1.trans od2
        have hp2 := od.get hp
        have lf2 := law_fb (S := S2) c hM9 hd hl hp2 h2 (by rw [stepX_len, xl]) (stepX_in bM hx)
        refine ws_seq ?_
        push_cast [fb, lf2]
        refine ws_seq ?_
        cases qk : brk M b (stepX M b u js xs) 0 l with
        | some k =>
          rw [qk] at ht
          dsimp only at ht
          subst ht
          have eq := eq_brk (S := S2) (k := (k : Nat))
          push_cast [res, isNonD, eq]
          exact w_gc ⟨rfl, od⟩ fun _ _ => ⟨rfl, Od.refl⟩
        | none =>
          rw [qk] at ht
          dsimp only at ht
          obtain ⟨rs, rfl, fr⟩ := ht
          have et := eq_told (S := S2)
          have as := all_scaled_ok (S := S2) cM sM fr (n := e) (by rw [stepX_len, xl]) (by omega)
          have eq := eq_lists (S := S2 ++ [Ob.lst ((stepX M b u js xs).map D.int)]) (m := S2.length) (n := S1.length) (ls := stepX M b u js xs) last1 (app_get h2)
          push_cast [res, isNonD, c0, c1, et]
          push_cast [fe, as, eq]
          exact w_gc ⟨rfl, od.snoc⟩ fun _ _ => ⟨rfl, Od.refl⟩
end
end Mi_k20

set_option linter.all false
set_option autoImplicit false
set_option maxRecDepth 100000
set_option maxHeartbeats 4000000
namespace Mi_k20
open PySem Lk L2
section
variable {M b : Int} {e : Nat} {X : XP} {Q : D → Store → Prop}
theorem hand_w {S : Store} {n q i : Nat} {k : Int} {all : List Int} {env : Lk.Env} {ma : MA} (hM : 0 < M) (sM : Sz 100 M) (hma : ∀ (d : D) (S : Store), ma (env.set i (some d)) S = .ok [.ref n, d, .int M] S) (h : Src S n k) (hk : k < 2 ^ 30) (hq : S[q]? = some (.lst (all.map D.int))) (qn : q ≠ n) (hz : ∀ y ∈ all, Sz 60 y) (hl : all.length ≤ 100)
    (hQ : ∀ ts S', F2 (VT M) ts (all.map D.int) → Src S' n (k + 100) → Ag S n S' → S'[S.length]? = some (.lst ts) → Q (.ref S.length) S') : Wr (lcGo (lstAt q (all.map D.int)).gd (.nm i) mYes (mCall 3 f__law_handed ma) env S.length (all.map D.int) (S ++ [.lst []])) Q X := by
  have nl := h.lt
  refine w_lcGo (J := fun l rs S' => ∃ (m : Nat), l = (all.drop m).map D.int ∧ m ≤ all.length ∧ F2 (VT M) rs ((all.take m).map D.int) ∧ Src S' n (k + (m : Nat)) ∧ Ag S n S') ?_ (all.map D.int) [] _ ?_ ?_ ?_ last1
  · rintro rs S' ⟨m, e1, ml, f, s, u⟩ hp
    have : all.length ≤ m := by
      have := congrArg List.length e1
      simp at this
      omega
    rw [List.take_of_length_le this] at f
    exact ⟨ag_get u hq qn, hQ rs S' f (s.mono (by omega)) u hp⟩
  · have := lim_16
    simp only [List.length_nil, List.length_map]
    omega
  · rintro d ds' rs S' _ ⟨m, e1, ml, f, s, u⟩ hp
    have mlt : m < all.length := by
      rcases Nat.lt_or_ge m all.length with z | z
      · exact z
      · rw [List.drop_of_length_le z] at e1
        cases e1
    rw [List.drop_eq_getElem_cons mlt, List.map_cons, List.cons.injEq] at e1
    obtain ⟨rfl, rfl⟩ := e1
    refine ⟨ag_get u hq qn, _, rfl, ?_⟩
    have hy : ∀ (env : Lk.Env) (S : Store), mYes env S = .ok true S := fun _ _ => rfl
    rw [hy, w_ok, if_pos rfl, v_call, hma, w_ok]
    obtain ⟨t, S1, e2, v, s1, u1⟩ := handed_ok (x := all[m]) s (by omega) hM sM
    refine ⟨rfl, .by e2 ⟨ag_get u1.ag hp (by omega), m + 1, rfl, by omega, ?_, (s1.ag (n := S.length) (Ch.ag ⟨_, rfl⟩) (by omega)).mono (by omega), ag_set (u.trans u1.ag) (Nat.le_refl _)⟩⟩
    rw [List.take_add_one, List.getElem?_eq_getElem mlt, Option.toList_some, List.map_append]
    exact F2_app f ⟨⟨_, rfl, hz _ (List.getElem_mem mlt), v⟩, trivial⟩
  · exact ⟨0, by simp, by omega, trivial, by simpa using h.app, .app _ _ _⟩
theorem moms_w {ns : List Int} {S : Store} {cnt : Nat} {env : Lk.Env} {i : Nat} {ma : MA} (hn : ns.length ≤ 63) (c : Cx M b e) (hM9 : M ≤ 1000000000) (hc : cnt ≤ 24) (hma : ∀ (k : Nat) (S : Store), ma (env.set i (some (.int (k : Nat)))) S = (f__law_source [.rol (ns.map D.int), .int ((2 + k : Nat) : Int)] S).bind fun d S1 => .ok [d, .int b, .int M] S1)
    (hQ : ∀ (xs : List Int) (S' : Store), xs.length = cnt → (∀ x ∈ xs, 0 ≤ x ∧ x < b * M) → Od S S' → S'[S.length]? = some (.lst (xs.map D.int)) → Q (.ref S.length) S') :
    Wr (lcGo (fun _ => True) (.nm i) mYes (mCall 3 f__law_moment ma) env S.length (rngI 0 cnt) (S ++ [.lst []])) Q X := by
  refine w_lcGo (J := fun l rs S' => ∃ xs : List Int, rs = xs.map D.int ∧ (∀ x ∈ xs, 0 ≤ x ∧ x < b * M) ∧ xs.length + l.length = cnt ∧ Od S S') ?_ (rngI 0 cnt) [] _ ?_ ?_ ?_ last1
  · rintro rs S' ⟨xs, rfl, h1, h2, h3⟩ hp
    have h2 : xs.length = cnt := by simpa using h2
    exact ⟨trivial, hQ xs S' h2 h1 h3 hp⟩
  · have := lim_16
    simp [rngI]
    omega
  · rintro d ds' rs S' ⟨pre, hpre⟩ ⟨xs, rfl, h1, h2, h3⟩ hp
    simp only [List.length_cons] at h2
    obtain ⟨pl, rfl⟩ := rng_get (n := cnt) (k := pre.length) (d := d) (by rw [hpre]; simp)
    refine ⟨trivial, _, rfl, ?_⟩
    have hm : ∀ env S, mYes env S = .ok true S := fun _ _ => rfl
    rw [hm, w_ok, if_pos rfl]
    obtain ⟨T, e1, _, s1⟩ := source ns hn (2 + pre.length) (by omega) S'
    have pl2 := getlt hp
    obtain ⟨x, S2, e2, x0, x1, s2, u2⟩ := moment_gen s1 (by decide) c hM9
    rw [v_call, hma, e1]
    show Wr (Lk.R.ok _ _) _ _
    rw [w_ok]
    have hp2 : S2[S.length]? = some (.lst (xs.map D.int)) := ag_get u2.ag (app_get hp) (by omega)
    refine ⟨rfl, .by e2 ⟨hp2, xs ++ [x], by simp, fun y hy => ?_, by simp; omega, ?_⟩⟩
    · rcases List.mem_append.mp hy with z | z
      · exact h1 y z
      · rw [List.mem_singleton.mp z]; exact ⟨x0, x1⟩
    · have z := (h3.snoc (T := T))
      have od2 : Od S S2 := ⟨Nat.le_trans z.1 u2.ag.1, fun m hm => by rw [u2.ag.2 m (Nat.lt_of_lt_of_le hm z.1) (by have := h3.1; omega), z.2 m hm]⟩
      exact od2.set (Nat.le_refl _)
  · exact ⟨[], rfl, by simp, by simp [rngI], .app⟩
theorem Kn.back {S S' : Store} {d : D} (h : Kn S' d) (k : ∀ m, d = .ref m → S[m]? = S'[m]?) : Kn S d := by
  obtain ⟨t, h1, h2⟩ := h
  refine ⟨t, ?_, h2⟩
  cases d with
  | ref m =>
    have := k m rfl
    unfold tyK at h1 ⊢
    dsimp only at h1 ⊢
    rw [this]
    exact h1
  | _ => exact h1
theorem clL_mem : ∀ {n : Nat} {ds : List D} {d : D}, clL n ds = true → d ∈ ds → d.cl n = true
  | n, x :: ds, d, h, hd => by
    simp only [clL, Bool.and_eq_true] at h
    rcases List.mem_cons.mp hd with z | z
    · rw [z]; exact h.1
    · exact clL_mem h.2 z
theorem take_get {S S' : Store} {m : Nat} (t : S'.take S.length = S) (h : m < S.length) : S[m]? = S'[m]? := by
  have := List.getElem?_take_of_lt (l := S') h
  rw [t] at this
  exact this
theorem KnN.back {S S' : Store} {n : Nat} {d : D} (h : KnN S' n d) (hc : d.cl S.length = true) (ht : S'.take S.length = S) : KnN S n d := ⟨h.1.back fun m e => by
  subst e
  exact take_get ht (by simpa [D.cl] using hc), h.2⟩
theorem Mv.back {S S' : Store} {n : Nat} {d : D} (h : Mv S' n d) (hc : d.cl S.length = true) (ht : S'.take S.length = S) : Mv S n d := by
  cases h with
  | tup h1 h2 h3 =>
    simp only [D.cl, clL, Bool.and_eq_true, Bool.and_true] at hc
    exact .tup (fun i hi => (h1 i hi).back (clL_mem hc.1 hi) ht) (h2.back hc.2 ht) h3
  | blk h1 h2 h3 =>
    simp only [D.cl, clL, Bool.and_eq_true, Bool.and_true, decide_eq_true_eq] at hc
    exact .blk (by rw [take_get ht hc.1]; exact h1) h2 (h3.back hc.2 ht)
  | lst h1 h2 =>
    simp only [D.cl, decide_eq_true_eq] at hc
    exact .lst (by rw [take_get ht hc]; exact h1) h2
/-- a block drawn -/
theorem block_w {S : Store} {n : Nat} {k : Int} (h : Src S n k) (hk : k < 2 ^ 30) (he : 1 ≤ e ∧ e ≤ 24) :
    Wr (f__law_block [.ref n, .int (e : Nat)] S) (fun d S' => (∃ its : List D, d = .tup its ∧ (∀ i ∈ its, ∃ z, i = .int z) ∧ its.length ≤ 24) ∧ Src S' n (k + 30) ∧ Ag S n S') noX := by
  have nl := h.lt
  have bde : bd ((e : Nat) : Int) := bd_small (by omega)
  refine w_def ?_
  unfold b__law_block
  refine ws_seq ?_
  push_cast []
  refine (draw_w h (m := 4) (by omega) (by decide) (bs (by decide) (by decide))).to ?_
  rintro _ S1 ⟨r, rfl, r0, r1, s1, u1⟩
  refine ws_seq ?_
  by_cases c0 : r = 0
  · push_cast [c0, decide_true]
    refine (draw_w s1 (m := (e : Nat)) (by omega) (by omega) (bs (by omega) (by omega))).to ?_
    rintro _ S2 ⟨r2, rfl, r20, r21, s2, u2⟩
    have P : ∃ its : List D, D.tup [.int r2] = .tup its ∧ (∀ i ∈ its, ∃ z, i = .int z) ∧ its.length ≤ 24 := ⟨_, rfl, fun i hi => by simp at hi; exact ⟨_, hi⟩, by simp⟩
    exact w_gc ⟨P, s2.mono (by omega), (u1.trans u2).ag⟩ fun _ _ => ⟨P, h.mono (by omega), .refl _ _⟩
  · push_cast [c0, decide_false]
    refine ws_seq ?_
    by_cases c1 : r = 1
    · have ok := okRg_small (j := (e : Nat)) (by omega) (by omega)
      push_cast [c1, decide_true, v_lstRg1, ok, last1]
      have P : ∃ its : List D, D.tup (rgD 0 (e : Nat)) = .tup its ∧ (∀ i ∈ its, ∃ z, i = .int z) ∧ its.length ≤ 24 := ⟨_, rfl, fun i hi => by
        rw [rgD_nat] at hi
        obtain ⟨k, _, rfl⟩ := List.mem_map.mp hi
        exact ⟨_, rfl⟩, by rw [rgD_nat]; simp; omega⟩
      exact w_gc ⟨P, (s1.mono (by omega)).app, u1.ag.trans (.app _ _ _)⟩ fun _ _ => ⟨P, h.mono (by omega), .refl _ _⟩
    · push_cast [c1, decide_false, bde]
      refine w_lcGo (J := fun rest rs S' => (∀ i ∈ rs, ∃ z, i = .int z) ∧ rs.length + rest.length ≤ e ∧ Ag S n S' ∧ Src S' n (k + 1 + ((e - rest.length : Nat) : Int))) ?_ (rngI 0 e) [] _ (by simp [rngI]; have := lim_16; omega) ?_ ?_ last1
      · rintro rs S2 ⟨j1, j2, j3, j4⟩ hp
        refine ⟨trivial, ?_⟩
        push_cast [hp]
        have P : ∃ its : List D, D.tup rs = .tup its ∧ (∀ i ∈ its, ∃ z, i = .int z) ∧ its.length ≤ 24 := ⟨_, rfl, j1, by simp at j2; omega⟩
        exact w_gc ⟨P, j4.mono (by simp; omega), j3⟩ fun _ _ => ⟨P, h.mono (by omega), .refl _ _⟩
      · rintro d rest rs S2 ⟨pre, hpre⟩ ⟨j1, j2, j3, j4⟩ hp
        simp only [List.length_cons] at j2 j4
        obtain ⟨pl, rfl⟩ := rng_get (n := e) (k := pre.length) (d := d) (by rw [hpre]; simp)
        refine ⟨trivial, _, rfl, ?_⟩
        have nl2 := j4.lt
        have pl2 := getlt hp
        have l1 := u1.len
        show Wr (mTest _ [some (.ref n), some (.int (e : Nat)), some (.int r), some (.int (pre.length : Nat))] S2) _ _
        push_cast []
        refine (draw_w j4 (m := 2) (by omega) (by decide) (bs (by decide) (by decide))).to ?_
        rintro _ S3 ⟨r3, rfl, r30, r31, s3, u3⟩
        have hp3 := ag_get u3.ag hp (by omega)
        by_cases c2 : r3 = 0
        · push_cast [c2, decide_true]
          refine ⟨hp3, fun i hi => ?_, by simp; omega, ag_set (j3.trans u3.ag) (by omega), ((s3.ag (n := S1.length) (Ch.ag ⟨_, rfl⟩) (by omega)).mono (by omega))⟩
          rcases List.mem_append.mp hi with z | z
          · exact j1 i z
          · rw [List.mem_singleton.mp z]; exact ⟨_, rfl⟩
        · push_cast [c2, decide_false]
          exact ⟨hp3, j1, by omega, j3.trans u3.ag, s3.mono (by omega)⟩
      · exact ⟨by simp, by simp [rngI], u1.ag.trans (.app _ _ _), by simpa [rngI] using s1.app⟩
theorem Odd.kn' {S S' : Store} {n : Nat} {d : D} (h : Odd S' d) (fr : ∀ m, d = .ref m → S.length ≤ m) (hn : n < S.length) : KnN S' n d := ⟨h.kn, fun m e => by have := fr m e; omega⟩
theorem pw20 (S : Store) : Lk.gPow (.int 10) (.int 20) S = .ok (.int 100000000000000000000) S := pow1020 S
/-- a move changed -/
theorem changed_w {S : Store} {n : Nat} {k u : Int} {its : List D} (h : Src S n k) (hk : k < 2 ^ 30) (he : 1 ≤ e ∧ e ≤ 24) (hi : ∀ i ∈ its, ∃ z, i = .int z) (hl : its.length ≤ 24) :
    Wr (f__law_changed [.ref n, .tup [.tup its, .int u], .int (e : Nat)] S) (fun d S' => Mv S' n d ∧ Src S' n (k + 10) ∧ Ag S n S') noX := by
  have nl := h.lt
  have ki : ∀ {S' : Store}, ∀ i ∈ its, KnN S' n i := fun i hm => by obtain ⟨z, rfl⟩ := hi i hm; exact KnN.int z
  refine w_def ?_
  unfold b__law_changed
  refine ws_seq ?_
  push_cast []
  refine ws_seq ?_
  push_cast []
  refine (draw_w h (m := 9) (by omega) (by decide) (bs (by decide) (by decide))).to ?_
  rintro _ S1 ⟨r, rfl, r0, r1, s1, u1⟩
  refine ws_seq ?_
  push_cast []
  refine (draw_w s1 (m := (its.length : Nat) + 1) (by omega) (by omega) (bs (by omega) (by omega))).to ?_
  rintro _ S2 ⟨at_, rfl, at0, at1, s2, u2⟩
  have ag2 : Ag S n S2 := (u1.trans u2).ag
  have l2 := (u1.trans u2).len
  refine ws_seq ?_
  have fin : ∀ {d : D} {S' : Store} {X : XP}, Mv S' n d → Src S' n (k + 10) → Ag S n S' → Wr (gc S d S') (fun d S' => Mv S' n d ∧ Src S' n (k + 10) ∧ Ag S n S') X := fun m s a => w_gc ⟨m, s, a⟩ fun hc ht => ⟨m.back hc ht, h.mono (by omega), .refl _ _⟩
  by_cases c0 : r < 4
  · push_cast [c0, decide_true]
    refine ws_seq ?_
    push_cast []
    obtain ⟨od, S3, e3, odd, u3, fr, s3⟩ := odd_ok s2 (by omega)
    push_cast [e3]
    refine (draw_w s3 (m := (e : Nat)) (by omega) (by omega) (bs (by omega) (by omega))).to ?_
    rintro _ S4 ⟨r4, rfl, r40, r41, s4, u4⟩
    have ko : KnN S4 n od := (Odd.kn' odd fr (by omega)).ag u4.ag
    obtain ⟨y, ey, hy⟩ := atI4 (a := D.int (e : Nat)) (b := D.int (-1)) (c := od) (d := D.int r4) r0 c0
    have ky : KnN S4 n y := by
      rcases hy with rfl | rfl | rfl | rfl
      · exact KnN.int _
      · exact KnN.int _
      · exact ko
      · exact KnN.int _
    have a4 : Ag S n S4 := (ag2.trans u3).trans u4.ag
    push_cast [last1, ey, cut_take at0, cut_drop at0]
    have M4 : ∀ T, Mv (S4 ++ T) n (.tup [.tup (its.take at_.toNat ++ [y] ++ its.drop at_.toNat), .int u]) := fun T => .tup (fun i hm => by
      rcases List.mem_append.mp hm with z | z
      · rcases List.mem_append.mp z with z | z
        · exact ki i (List.mem_of_mem_take z)
        · rw [List.mem_singleton.mp z]; exact ⟨ky.1.app, ky.2⟩
      · exact ki i (List.mem_of_mem_drop z)) (KnN.int u) (by simp only [List.length_append, List.length_take, List.length_drop, List.length_cons, List.length_nil]; omega)
    refine ⟨by have := lim_16; simp only [List.length_take]; omega, by have := lim_16; simp only [List.length_append, List.length_take, List.length_drop, List.length_cons, List.length_nil]; omega, fin (M4 _) (s4.app.mono (by omega)) (a4.trans (.app _ _ _))⟩
  · push_cast [c0, decide_false]
    refine ws_seq ?_
    by_cases c1 : r = 4
    · push_cast [c1, decide_true, v_revT]
      exact fin (.tup (fun i hm => ki i (List.mem_reverse.mp hm)) (KnN.int u) (by rw [List.length_reverse]; omega)) (s2.mono (by omega)) ag2
    · push_cast [c1, decide_false]
      refine ws_seq ?_
      push_cast [pw20]
      refine (draw_w (s2.app.app (T := [Ob.lst [D.int 0, .int 2, .int (-2), .int 100000000000000000000]])) (m := 4) (by omega) (by decide) (bs (by decide) (by decide))).to ?_
      rintro _ S4 ⟨r4, rfl, r40, r41, s4, u4⟩
      have hs4 : S4[(S2 ++ [Ob.lst its]).length]? = some (.lst [D.int 0, .int 2, .int (-2), .int 100000000000000000000]) := ag_get u4.ag last1 (by simp; omega)
      obtain ⟨v, ev, hv⟩ := atI4 (a := D.int 0) (b := D.int 2) (c := D.int (-2)) (d := D.int 100000000000000000000) r40 r41
      have kv : ∀ {S' : Store}, KnN S' n v := fun {S'} => by
        rcases hv with rfl | rfl | rfl | rfl <;> exact KnN.int _
      have a4 : Ag S n S4 := ((ag2.trans (.app _ _ [Ob.lst its])).trans (.app _ _ [Ob.lst [D.int 0, .int 2, .int (-2), .int 100000000000000000000]])).trans u4.ag
      have hb4 : S4[S2.length]? = some (.lst its) := ag_get u4.ag (app_get last1) (by omega)
      push_cast [hs4, ev]
      obtain ⟨od, S5, e5, odd, u5, fr, s5⟩ := odd_ok s4 (by omega)
      have l4 := a4.1
      have ko : KnN S5 n od := Odd.kn' odd fr (by omega)
      have a5 := a4.trans u5
      have hb5 := ag_get u5 hb4 (by omega)
      have l5 := u5.1
      push_cast [e5]
      refine ⟨_, last1, ?_⟩
      obtain ⟨T, hT⟩ : ∃ T, T = [Ob.lst [D.tup its, .int u]] ++ [Ob.lst [.tup [.ref S2.length, .int u], .tup [.tup its, v], .tup [.tup its, od], .ref S5.length]] := ⟨_, rfl⟩
      obtain ⟨y, ey, hy⟩ := atI4 (a := D.tup [.ref S2.length, .int u]) (b := D.tup [.tup its, v]) (c := D.tup [.tup its, od]) (d := D.ref S5.length) (r := r - 5) (by omega) (by omega)
      refine ⟨y, ey, ?_⟩
      rw [List.append_assoc, ← hT]
      refine fin ?_ (s5.app.mono (by omega)) (a5.trans (.app _ _ _))
      have w2 : Mv S5 n (D.tup [.ref S2.length, .int u]) := .blk hb5 (by omega) (KnN.int u)
      have ap : Ag S5 n (S5 ++ T) := .app _ _ _
      rcases hy with rfl | rfl | rfl | rfl
      · exact w2.ag ap
      · exact .tup (fun i hm => ki i hm) kv (by omega)
      · exact .tup (fun i hm => ki i hm) (ko.ag ap) (by omega)
      · exact .lst (ys := [D.tup its, .int u]) (by rw [hT, ← List.append_assoc]; exact app_get last1) (by omega)
end
end Mi_k20

set_option linter.all false
set_option autoImplicit false
set_option maxRecDepth 100000
set_option maxHeartbeats 4000000
namespace Mi_k20
open PySem Lk L2
section
variable {M b : Int} {e : Nat} {P : Po}
/-- a statement in between: what it leaves -/
theorem ws_mid {a c : MS} {env : Lk.Env} {S : Store} {P : Po} (I : Lk.Env → Store → Prop) (h1 : Ws (a env S) ⟨I, fun _ _ => False, fun _ _ => False, fun _ _ => False, fun _ _ _ _ => False⟩) (h2 : ∀ e S', I e S' → Ws (c e S') P) : Ws (mSeq a c env S) P :=
  ws_seq (h1.mono (fun e S h => h2 e S h) (fun _ _ h => h.elim) (fun _ _ h => h.elim) (fun _ _ h => h.elim) (fun _ _ _ _ h => h.elim))
theorem t8_ok {ns : List Int} {S : Store} {l : List D} {xs : List Int} {p q n0 : Nat} {k0 : Int} {v6 v7 v14 v15 : Option D} (hn : ns.length ≤ 63) (hP : ∀ S, P.rt (.bl true) S) (c : Cx M b e) (hM9 : M ≤ 1000000000) (hd : ∀ d ∈ l, spanB b (e : Nat) d = true) (hl : l.length ≤ 60) (h : Src S n0 k0) (hk : k0 ≤ 1000) (hp : S[p]? = some (.lst l)) (hq : S[q]? = some (.lst (xs.map D.int))) (xl : xs.length = e) (hx : ∀ x ∈ xs, 0 ≤ x ∧ x < b * M) :
    Ws (b_law_t8 [some (.rol (ns.map D.int)), some (.ref n0), some (.int b), some (.int M), some (.int (e : Nat)), some (.ref q), v6, v7, some (.ref p), some (net b (e : Nat) l), none, none, none, none, v14, v15] S) P := by
  have cM := c.hM
  have cb1 := c.b1
  have cb2 := c.b2
  have he : 1 ≤ e ∧ e ≤ 24 := ⟨c.e1, c.e2⟩
  have sM : Sz 100 M := c.sM.mono (by decide)
  have bM : 0 < b * M := Int.mul_pos (by omega) cM
  have nbM : ¬ b * M = 0 := by omega
  have mb := mulok c.sb c.sM
  have fm := fun z => fmd_p (i := z) bM
  unfold b_law_t8
  refine ws_seq ?_
  have nl : ((ns.map D.int).length : Int) = (ns.length : Nat) := by simp
  push_cast [v_rng2]
  generalize hmn : (if (if (44 : Int) < ((ns.map D.int).length : Nat) then (44 : Int) else ((ns.map D.int).length : Nat)) > 20 then (if (44 : Int) < ((ns.map D.int).length : Nat) then (44 : Int) else ((ns.map D.int).length : Nat)) else (20 : Int)) = mn
  have mn1 : 20 ≤ mn ∧ mn ≤ 44 := by
    rw [nl] at hmn
    rw [← hmn]
    split <;> split at * <;> omega
  have bd14 : bd 14 := by decide
  have bdm : bd mn := by
    have e62 : (2 : Int) ^ 62 = 4611686018427387904 := by decide
    unfold bd
    rw [e62]
    constructor <;> omega
  refine ⟨bd14, bdm, ?_⟩
  refine w_for (I := fun i env S' => ∃ n' w6 w10 w11 w12 w13 w14 w15, env = [some (.rol (ns.map D.int)), some (.ref n'), some (.int b), some (.int M), some (.int (e : Nat)), some (.ref q), w6, v7, some (.ref p), some (net b (e : Nat) l), w10, w11, w12, w13, w14, w15] ∧ Src S' n' 1000 ∧ S'[p]? = some (.lst l) ∧ S'[q]? = some (.lst (xs.map D.int))) ?_ ?_ ?_
  · exact ⟨_, _, _, _, _, _, _, _, rfl, h.mono hk, hp, hq⟩
  · rintro i y env S1 hi ⟨n', w6, w10, w11, w12, w13, w14, w15, rfl, s1, hp1, hq1⟩
    have il : i < (mn - 14).toNat := by
      have := (List.getElem?_eq_some_iff.mp hi).1
      simpa [rngI] using this
    have ed : y = .int ((14 + i : Nat) : Int) := by
      unfold rngI at hi
      rw [List.getElem?_map, List.getElem?_range il] at hi
      simp at hi
      rw [← hi]
      congr 1
    subst ed
    refine ⟨trivial, ?_⟩
    push_cast []
    refine ws_seq ?_
    obtain ⟨T, e2, _, s2⟩ := source ns hn (14 + i) (by omega) S1
    have pl := getlt hp1
    have ql := getlt hq1
    have nl1 := s2.lt
    obtain ⟨n, hnn⟩ : ∃ n, n = S1.length := ⟨_, rfl⟩
    rw [← hnn] at s2 e2 nl1
    push_cast [e2]
    obtain ⟨S2, hS2⟩ : ∃ S2, S2 = S1 ++ T := ⟨_, rfl⟩
    have hp2 : S2[p]? = some (.lst l) := by rw [hS2]; exact app_get hp1
    have hq2 : S2[q]? = some (.lst (xs.map D.int)) := by rw [hS2]; exact app_get hq1
    rw [← hS2] at s2 nl1 ⊢
    have l12 : S1.length ≤ S2.length := by rw [hS2]; simp
    refine ws_seq ?_
    push_cast []
    refine (block_w s2 (by decide) he).to ?_
    rintro _ S3 ⟨⟨its, rfl, hi3, hl3⟩, s3, a3⟩
    refine (draw_w s3 (m := 2) (by decide) (by decide) (bs (by decide) (by decide))).to ?_
    rintro _ S4 ⟨r, rfl, r0, r1, s4, u4⟩
    have a4 := a3.trans u4.ag
    have m2r := mulok (show Sz 20 (2 : Int) from .of 2 (by decide)) (show Sz 20 r from .of 2 (by omega))
    push_cast [m2r]
    refine ws_mid (fun env S' => ∃ X, env = [some (.rol (ns.map D.int)), some (.ref n), some (.int b), some (.int M), some (.int (e : Nat)), some (.ref q), some (.int ((14 + i : Nat) : Int)), v7, some (.ref p), some (net b (e : Nat) l), some X, w11, w12, w13, w14, w15] ∧ Mv S' n X ∧ Src S' n 200 ∧ Ag S2 n S') ?_ ?_
    · push_cast []
      refine (draw_w s4 (m := 3) (by decide) (by decide) (bs (by decide) (by decide))).to ?_
      rintro _ S5 ⟨r5, rfl, r50, r51, s5, u5⟩
      by_cases c0 : r5 = 0
      · push_cast [c0, decide_true]
        refine (changed_w s5 (by decide) he hi3 hl3).to ?_
        rintro X S6 ⟨mX, s6, a6⟩
        exact ⟨X, rfl, mX, s6.mono (by decide), (a4.trans u5.ag).trans a6⟩
      · push_cast [c0, decide_false]
        exact ⟨_, rfl, .tup (fun i hm => by obtain ⟨z, rfl⟩ := hi3 i hm; exact KnN.int z) (KnN.int _) (by omega), s5.mono (by decide), a4.trans u5.ag⟩
    rintro env S5 ⟨X, rfl, mX, s5, a5⟩
    have hq5 := ag_get a5 hq2 (by omega)
    refine ws_seq ?_
    push_cast [hq5]
    obtain ⟨g, hg⟩ : ∃ g, g = S5.length := ⟨_, rfl⟩
    have gn : g ≠ n := by have := s5.lt; omega
    have s5l := s5.lt
    have a5l := a5.1
    refine ws_mid (fun env S' => ∃ (w12 : Option D) (zs : List Int), env = [some (.rol (ns.map D.int)), some (.ref n), some (.int b), some (.int M), some (.int (e : Nat)), some (.ref q), some (.int ((14 + i : Nat) : Int)), v7, some (.ref p), some (net b (e : Nat) l), some X, some (.ref g), w12, w13, w14, w15] ∧ zs.length = e ∧ (∀ z ∈ zs, 0 ≤ z ∧ z < b * M) ∧ S'[g]? = some (.lst (zs.map D.int)) ∧ Src S' n 300 ∧ Ag S5 n S') ?_ ?_
    · push_cast []
      refine (draw_w (s5.app (T := [Ob.lst (xs.map D.int)])) (m := 9) (by decide) (by decide) (bs (by decide) (by decide))).to ?_
      rintro _ S6 ⟨r6, rfl, r60, r61, s6, u6⟩
      have hg6 : S6[S5.length]? = some (.lst (xs.map D.int)) := ag_get u6.ag last1 (by omega)
      have a6 : Ag S5 n S6 := (Ag.app S5 n [Ob.lst (xs.map D.int)]).trans u6.ag
      by_cases c0 : r6 = 0
      · push_cast [c0, decide_true]
        refine ws_seq ?_
        push_cast []
        refine (draw_w s6 (m := (e : Nat)) (by decide) (by omega) (bs (by omega) (by omega))).to ?_
        rintro _ S7 ⟨at_, rfl, at0, at1, s7, u7⟩
        have hg7 := ag_get u7.ag hg6 (by omega)
        have ax : atI (xs.map D.int) at_ = some (.int (xs.getD at_.toNat 0)) := atI_nat at0 (by
          rw [List.getElem?_map, List.getD_eq_getElem?_getD, List.getElem?_eq_getElem (show at_.toNat < xs.length by omega)]
          rfl)
        push_cast [hg7, ax]
        refine (draw_w s7 (m := b) (by decide) (by omega) (bs (by omega) (by omega))).to ?_
        rintro _ S8 ⟨r8, rfl, r80, r81, s8, u8⟩
        have hg8 := ag_get u8.ag hg7 (by omega)
        have m8 := mulok (c.sM.mono (show 35 ≤ 40 by decide)) (show Sz 20 r8 from .of 1440 (by omega))
        push_cast [m8, mb, nbM, fm, hg8, List.length_map]
        refine ⟨at_.toNat, ixN_lt at0 (by rw [xl]; exact at1), ?_⟩
        have gl := getlt hg8
        refine ⟨_, xs.set at_.toNat ((xs.getD at_.toNat 0 + M * r8) % (b * M)), by rw [hg], by rw [List.length_set]; exact xl, fun z hz => ?_, by rw [hg, List.getElem?_set_self gl, List.map_set], (s8.ag (n := S5.length) (Ch.ag ⟨_, rfl⟩) (by omega)).mono (by decide), ag_set ((a6.trans u7.ag).trans u8.ag) (Nat.le_refl _)⟩
        rcases List.mem_or_eq_of_mem_set hz with y | y
        · exact hx z y
        · rw [y]; exact ⟨Int.emod_nonneg _ nbM, Int.emod_lt_of_pos _ bM⟩
      · push_cast [c0, decide_false]
        exact ⟨_, xs, by rw [hg], xl, hx, by rw [hg]; exact hg6, s6.mono (by decide), a6⟩
    rintro env S6 ⟨w12', zs, rfl, zl, hz, hg6, s6, a6⟩
    have a26 := a5.trans a6
    refine ws_seq ?_
    push_cast [hg6]
    refine hand_w (k := 300) (n := n) cM sM (fun d S => rfl) s6 (by decide) hg6 gn (fun y hy => in_sz c hM9 (hz y hy)) (by omega) ?_
    intro ts S7 ft s7 a7 ht7
    push_cast [ht7]
    have a27 := a26.trans a7
    have hp7 := ag_get a27 hp2 (by omega)
    have hq7 := ag_get a27 hq2 (by omega)
    have hg7 := ag_get a7 hg6 gn
    refine (right_w (X := X) c hM9 hd hl hp7 hg7 zl hz ft (mX.ag (a6.trans a7))).to ?_
    rintro _ S8 ⟨rfl, od8⟩
    push_cast []
    exact ⟨_, _, _, _, _, _, _, _, rfl, src_od (s7.mono (by decide)) od8, od8.get hp7, od8.get hq7⟩
  · rintro env S1 ⟨n', w6, w10, w11, w12, w13, w14, w15, rfl, s1, hp1, hq1⟩
    refine ⟨trivial, ?_⟩
    have last : ∀ (th : D) (S' : Store), NoT S' e th → Ws (b_law_t11 [some (.rol (ns.map D.int)), some (.ref n'), some (.int b), some (.int M), some (.int (e : Nat)), some (.ref q), w6, v7, some (.ref p), some (net b (e : Nat) l), w10, w11, w12, w13, w14, some th] S') P := fun th S' no => by
      have mo := moments_no (b := b) (ds := l) no
      have tt := is_tt mo
      have tl := told_tt (X := th) tt
      have eq := eq_rfu (S := S') (p := true) (q := false) (r := false)
      unfold b_law_t11
      push_cast [tl, eq]
      exact hP _
    unfold b_law_t9
    refine ws_seq ?_
    obtain ⟨od, S2, e2, odd, u2, fr, s2⟩ := odd_ok s1 (by decide)
    push_cast [e2]
    unfold b_law_t10
    have g1 := gIt odd.kn
    refine ws_seq ?_
    cases z : isTup od with
    | true =>
      rw [z] at g1
      push_cast [g1]
      exact last .non S2 ⟨⟨.bi "NoneType", rfl, by decide⟩, .inl rfl⟩
    | false =>
      rw [z] at g1
      push_cast [g1]
      exact last od S2 ⟨odd.kn, .inl z⟩
end
end Mi_k20

set_option linter.all false
set_option autoImplicit false
set_option maxRecDepth 100000
set_option maxHeartbeats 4000000
namespace Mi_k20
open PySem Lk L2
theorem law_ok (ns : List Int) (hn : ns.length ≤ 63) : ∃ S', f_law [.rol (ns.map D.int)] [] = .ok (.bl true) S' := by
  have w : Wr (f_law [.rol (ns.map D.int)] []) (fun d _ => d = .bl true) noX := by
    have fin : ∀ S : Store, Wr (gc [] (.bl true) S) (fun d _ => d = .bl true) noX := fun S => w_gc rfl fun _ _ => rfl
    refine w_def ?_
    unfold b_law
    refine ws_seq ?_
    obtain ⟨T, e1, _, s1⟩ := source ns hn 0 (by decide) []
    have e1 : f__law_source [.rol (ns.map D.int), .int 0] [] = .ok (.ref 0) ([] ++ T) := e1
    push_cast [e1]
    have s1 : Src T 0 0 := s1
    unfold b_law_t1
    refine ws_seq ?_
    obtain ⟨b, S2, e2, b1, b2, s2, u2⟩ := beat_ok s1 (by decide)
    push_cast [e2]
    unfold b_law_t2
    refine ws_seq ?_
    obtain ⟨M, S3, e3, M1, M9, s3, u3⟩ := parts_ok s2 (by decide)
    push_cast [e3]
    have sM35 : Sz 35 M := .of 1000000000 (by omega)
    unfold b_law_t3
    refine ws_seq ?_
    push_cast []
    have s3l := s3.lt
    refine (draw_w (s3.app (T := [Ob.lst [.int 12, .int 4]])) (m := 2) (by omega) (by decide) (bs (by decide) (by decide))).to ?_
    rintro _ S4 ⟨r4, rfl, r40, r41, s4, u4⟩
    have g4 : S4[S3.length]? = some (.lst [.int 12, .int 4]) := ag_get u4.ag last1 (by omega)
    have pk : ∃ m : Int, atI [D.int 12, .int 4] r4 = some (.int m) ∧ 0 < m ∧ m ≤ 12 := by
      rcases atI2 (a := D.int 12) (b := D.int 4) r40 r41 with z | z
      · exact ⟨12, z, by decide, by decide⟩
      · exact ⟨4, z, by decide, by decide⟩
    obtain ⟨m, em, m0, m1⟩ := pk
    push_cast [g4, em]
    refine (draw_w s4 (m := m) (by omega) m0 (bs (by omega) (by omega))).to ?_
    rintro _ S5 ⟨r5, rfl, r50, r51, s5, u5⟩
    obtain ⟨e, he⟩ : ∃ e : Nat, 1 + r5 = (e : Nat) := ⟨(1 + r5).toNat, by omega⟩
    have he24 : 1 ≤ e ∧ e ≤ 24 := by omega
    have bd24 : bd ((e : Nat) : Int) := bd_small (by omega)
    have cx : Cx M b e := ⟨by omega, sM35, b1, b2, he24.1, he24.2⟩
    push_cast [he]
    unfold b_law_t4
    refine ws_seq ?_
    push_cast [bd24, Int.toNat_natCast]
    have s5l := s5.lt
    refine moms_w (i := 6) (cnt := e) hn cx M9 he24.2 (fun k S => ?_) ?_
    · have ec : (2 : Int) + ((k : Nat) : Int) = ((2 + k : Nat) : Int) := by omega
      simp only [mCons, mCall, mVar, mC, mNil, Lk.m2, R.bind, Lk.gAdd, List.set_cons_succ, List.set_cons_zero, List.getElem?_cons_succ, List.getElem?_cons_zero, ec]
      cases f__law_source [.rol (ns.map D.int), .int ((2 + k : Nat) : Int)] S <;> rfl
    intro xs S8 xl hx od8 hm8
    have s8 := src_od s5 od8
    have s8l := s8.lt
    have lm8 := getlt hm8
    unfold b_law_t5
    refine ws_seq ?_
    push_cast []
    refine (draw_w (s8.app (T := [Ob.lst [.int 1, .int 2, .int b]])) (m := 3) (by omega) (by decide) (bs (by decide) (by decide))).to ?_
    rintro _ S9 ⟨r9, rfl, r90, r91, s9, u9⟩
    have g9 : S9[S8.length]? = some (.lst [.int 1, .int 2, .int b]) := ag_get u9.ag last1 (by omega)
    obtain ⟨wd, ewd, wd0⟩ : ∃ m : Int, atI [D.int 1, .int 2, .int b] r9 = some (.int m) ∧ 0 ≤ m := by
      have : r9 = 0 ∨ r9 = 1 ∨ r9 = 2 := by omega
      rcases this with rfl | rfl | rfl
      · exact ⟨1, rfl, by decide⟩
      · exact ⟨2, rfl, by decide⟩
      · exact ⟨b, rfl, by omega⟩
    have hm9 : S9[S5.length]? = some (.lst (xs.map D.int)) := ag_get u9.ag (app_get hm8) (by omega)
    have l89 := u9.ag.1
    have s9l := s9.lt
    push_cast [g9, ewd]
    unfold b_law_t6
    refine ws_seq ?_
    obtain ⟨T10, e10, _, s10⟩ := source ns hn 1 (by decide) S9
    have e10 : f__law_source [.rol (ns.map D.int), .int 1] S9 = .ok (.ref S9.length) (S9 ++ T10) := e10
    push_cast [e10]
    have s10l := s10.lt
    refine (draw_w (s9.app (T := T10)) (m := 9) (by omega) (by decide) (bs (by decide) (by decide))).to ?_
    rintro _ S11 ⟨r11, rfl, r110, r111, s11, u11⟩
    have s10' : Src S11 S9.length 0 := s10.ag u11.ag (by omega)
    have hm11 : S11[S5.length]? = some (.lst (xs.map D.int)) := ag_get u11.ag (app_get hm9) (by have := getlt hm9; omega)
    have lm9 := getlt hm9
    obtain ⟨a0, b0, c0, d0, h0, r0⟩ := s11
    obtain ⟨p, l, S12, e12, pl, hp12, ok, hm12, h12, lkd⟩ := spans_ok (M := M) (loose := r11) (w := wd) cx s10' (by decide) hm11 (by omega) h0 (by omega) xl (by omega) wd0
    have s12 : Src S12 0 100 := Src.mono (j := _) ⟨a0, b0, c0, d0, h12, r0⟩ (by omega)
    push_cast [e12]
    unfold b_law_t7
    refine ws_seq ?_
    have hd : ∀ d ∈ l, spanB b (e : Nat) d = true := ok.1
    have eN : mkOf "Net" f_Net___init__ [.int b, .int (e : Nat), .ref p] S12 = .ok (net b (e : Nat) l) S12 := net_good (S := S12) (th := .ref p) (ds := l) (b := b) (e := (e : Nat)) ⟨b1, b2⟩ ⟨by omega, by omega⟩ (.inr ⟨_, rfl, hp12⟩) (fun x hx => V4.sv (ok.v4 x hx)) ok.v4 (by have := ok.2.2; omega) ok.flt
    push_cast [eN]
    exact t8_ok hn fin cx M9 hd ok.2.2 s12 (by decide) hp12 hm12 xl hx
  obtain ⟨d, S', e, rfl⟩ := w.get
  exact ⟨S', e⟩
end Mi_k20

theorem PySem.Challenge.cw_likespans_k20_moves_kept_or_broken_holds : PySem.Challenge.rw_likespans_k20_moves_kept_or_broken.Holds := by
  exact Mi_k20.holds_of Mi_k20.law_ok
