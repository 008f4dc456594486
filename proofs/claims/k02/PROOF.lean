import PyProof.Rows.All
import Wide.All
import OpenK.AllK
import Wide.FinOn
import HandS.ForMost
import HandS.Exc
import HandS.CallSlots
import HandS.Defaults
import HandS.ExcOwn
import HandS.ExcInit
import HandS.ExcField
import HandS.ExcIs
import HandS.TryOnly
import HandS.TryMany
import HandS.IsInst
import HandS.Wide
import HandS.TupAny
import HandS.Gcd
import HandS.More
import HandS.Codes
import HandS.WordsDict
import HandS.OwnEq
import HandS.HeadEnd
import HandS.HeadHook1
import HandS.HeadHook2
import HandS.Head0
import HandS.Head1
import HandS.Head2
import PyProof.InstNe
import HandS.Head3
import PyProof.SeqIndex
import PyProof.FactsAll.dict_1
import HandS.Deep
import HandS.Iter
import KE.GoesMore
import PyProof.Draws
import PyProof.EnumMake
import HandS.Conv
import HandS.Style
import KE.GoesZip
import HandS.SetFor
import KE.KOpsOwn
import PyProof.StrReplace2
import PySem.Challenge.RW_likespans_k02_nets_made
set_option Elab.async false
set_option linter.all false
set_option autoImplicit false
set_option maxRecDepth 100000
set_option maxHeartbeats 2000000
/-! Data by value over the hand layer: D (tuples and instances by value, lists and dicts by their number in a store), and what evaluates to what. -/
namespace Lk
open PySem PySem.Spec PyProof.Rows L2

inductive D where
  | non | bl (b : Bool) | int (i : Int) | str (x : Str) | tup (xs : List D) | rol (xs : List D) | ref (n : Nat) | ins (C : Str) (xs : List D)
inductive Ob where
  | lst (xs : List D) | obj (C : Str) (xs : List D) | dk (kvs : List (Key × D)) | dt (kvs : List (List Key × D)) | gone
abbrev Store := List Ob
abbrev Env := List (Option D)
structure G where
  K : PySem.W.Frag
  c : Str → Addr
  flds : Str → List Str
  af : List Str
  xfl : Str → List Str
  xc : Option (Addr × Nat × Str × List D × Option Addr) := none

/-- a list that is read alone -/
def SqR (K : PySem.W.Frag) (H : Hp) (a : Addr) (xs : List V) : Prop := SqL K H a xs ∧ ((∃ o, H a = some (.frz o (.lst xs))) ∨ ∃ (o : Obj) (its : Array Value) (n : Nat), K.lookup a = some o ∧ o.cls = .type "list" ∧ o.dict = none ∧ o.data = .seq its n ∧ its.size ≤ sizeLine ∧ Vals xs its.toList)
section
variable (Γ : G) (f : List Addr) (H : Hp)
mutual
def Rp : D → V → Prop
  | .non, v => v = .non
  | .bl b, v => v = .bl b
  | .int i, v => v = .int i
  | .str x, v => v = .str x
  | .tup ds, v => ∃ a vs, v = .ref a ∧ SqT Γ.K H a vs ∧ RpL ds vs
  | .rol ds, v => ∃ a vs, v = .ref a ∧ SqR Γ.K H a vs ∧ RpL ds vs
  | .ref n, v => ∃ a, f[n]? = some a ∧ v = .ref a
  | .ins C ds, v => ∃ a dx fvs, v = .ref a ∧ H a = some (.ins (Γ.c C) dx fvs) ∧ (∀ x, (fvs.lookup x).isSome = true → x ∈ Γ.af) ∧ RpF ds (Γ.flds C) fvs
def RpL : List D → List V → Prop
  | [], vs => vs = []
  | d :: ds, vs => ∃ v r, vs = v :: r ∧ Rp d v ∧ RpL ds r
def RpF : List D → List Str → List (Str × V) → Prop
  | [], _, _ => True
  | d :: ds, ns, fvs => ∃ x r v, ns = x :: r ∧ fvs.lookup x = some v ∧ Rp d v ∧ RpF ds r fvs
end
end
/-- what stays for ever: tuples, frozen things, instances' fields -/
structure Keep (Γ : G) (H H' : Hp) : Prop where
  tup : ∀ a xs, H a = some (.tup xs) → H' a = some (.tup xs)
  frz : ∀ a o u, H a = some (.frz o u) → H' a = some (.frz o u)
  xd : ∀ a fs, H a = some (.xd fs) → H' a = some (.xd fs)
  ins : ∀ C a dx fs, H a = some (.ins C dx fs) → ∃ fs', H' a = some (.ins C dx fs') ∧ (∀ x v, fs.lookup x = some v → fs'.lookup x = some v) ∧ ∀ x, (fs'.lookup x).isSome = true → (fs.lookup x).isSome = true ∨ x ∈ Γ.af
structure Up (Γ : G) (f : List Addr) (H : Hp) (f' : List Addr) (H' : Hp) : Prop where
  pre : ∃ t, f' = f ++ t
  keep : Keep Γ H H'
section
variable {Γ : G} {f f' f'' : List Addr} {H H' H'' : Hp}
theorem Keep.refl : Keep Γ H H := ⟨fun _ _ h => h, fun _ _ _ h => h, fun _ _ h => h, fun _ a dx fs h => ⟨fs, h, fun _ _ h => h, fun _ h => .inl h⟩⟩
theorem Keep.trans (a : Keep Γ H H') (b : Keep Γ H' H'') : Keep Γ H H'' := ⟨fun x y h => b.tup x y (a.tup x y h), fun x y z h => b.frz x y z (a.frz x y z h), fun x y h => b.xd x y (a.xd x y h), fun C x dx fs h => by
  obtain ⟨fs1, h1, s1, m1⟩ := a.ins C x dx fs h
  obtain ⟨fs2, h2, s2, m2⟩ := b.ins C x dx fs1 h1
  exact ⟨fs2, h2, fun x v q => s2 x v (s1 x v q), fun x q => (m2 x q).elim (fun z => m1 x z) .inr⟩⟩
theorem Up.refl : Up Γ f H f H := ⟨⟨[], by simp⟩, .refl⟩
theorem Up.trans (a : Up Γ f H f' H') (b : Up Γ f' H' f'' H'') : Up Γ f H f'' H'' := by
  obtain ⟨⟨t, e⟩, k⟩ := a
  obtain ⟨⟨u, e'⟩, k'⟩ := b
  exact ⟨⟨t ++ u, by rw [e', e, List.append_assoc]⟩, k.trans k'⟩
theorem Keep.sqT (k : Keep Γ H H') {a : Addr} {vs : List V} (h : SqT Γ.K H a vs) : SqT Γ.K H' a vs := by
  rcases h with (h | ⟨o, h⟩) | h
  · exact .inl (.inl (k.tup _ _ h))
  · exact .inl (.inr ⟨o, k.frz _ _ _ h⟩)
  · exact .inr h
theorem Keep.sqR (k : Keep Γ H H') {a : Addr} {vs : List V} (h : SqR Γ.K H a vs) : SqR Γ.K H' a vs := by
  rcases h.2 with ⟨o, h⟩ | h
  · exact ⟨.inl (.inr ⟨o, k.frz _ _ _ h⟩), .inl ⟨o, k.frz _ _ _ h⟩⟩
  · exact ⟨.inr h, .inr h⟩
theorem Up.at (u : Up Γ f H f' H') {n : Nat} {a : Addr} (h : f[n]? = some a) : f'[n]? = some a := by
  obtain ⟨⟨t, e⟩, _⟩ := u
  have hn := (List.getElem?_eq_some_iff.mp h).1
  rw [e, List.getElem?_append_left hn]
  exact h
mutual
theorem Rp.up (u : Up Γ f H f' H') : ∀ {d : D} {v : V}, Rp Γ f H d v → Rp Γ f' H' d v
  | .non, _, h => by simp only [Rp] at h ⊢; exact h
  | .bl _, _, h => by simp only [Rp] at h ⊢; exact h
  | .int _, _, h => by simp only [Rp] at h ⊢; exact h
  | .str _, _, h => by simp only [Rp] at h ⊢; exact h
  | .tup ds, _, h => by
    simp only [Rp] at h ⊢
    obtain ⟨a, vs, e, s, r⟩ := h
    exact ⟨a, vs, e, u.keep.sqT s, RpL.up u r⟩
  | .rol ds, _, h => by
    simp only [Rp] at h ⊢
    obtain ⟨a, vs, e, s, r⟩ := h
    exact ⟨a, vs, e, u.keep.sqR s, RpL.up u r⟩
  | .ref n, _, h => by
    simp only [Rp] at h ⊢
    obtain ⟨a, e, r⟩ := h
    exact ⟨a, u.at e, r⟩
  | .ins C ds, _, h => by
    simp only [Rp] at h ⊢
    obtain ⟨a, dx, fvs, e, s, m, r⟩ := h
    obtain ⟨fs', h', s', m'⟩ := u.keep.ins _ a dx fvs s
    exact ⟨a, dx, fs', e, h', fun x q => (m' x q).elim (m x) id, RpF.up u s' r⟩
theorem RpL.up (u : Up Γ f H f' H') : ∀ {ds : List D} {vs : List V}, RpL Γ f H ds vs → RpL Γ f' H' ds vs
  | [], _, h => by simp only [RpL] at h ⊢; exact h
  | d :: ds, _, h => by
    simp only [RpL] at h ⊢
    obtain ⟨v, r, e, h1, h2⟩ := h
    exact ⟨v, r, e, Rp.up u h1, RpL.up u h2⟩
theorem RpF.up (u : Up Γ f H f' H') : ∀ {ds : List D} {ns : List Str} {fs fs' : List (Str × V)}, (∀ x v, fs.lookup x = some v → fs'.lookup x = some v) → RpF Γ f H ds ns fs → RpF Γ f' H' ds ns fs'
  | [], _, _, _, _, h => by simp only [RpF]
  | d :: ds, _, _, _, s, h => by
    simp only [RpF] at h ⊢
    obtain ⟨x, r, v, e, l, h1, h2⟩ := h
    exact ⟨x, r, v, e, s x v l, Rp.up u h1, RpF.up u s h2⟩
end
end
/-! no number from n on stands in it -/
mutual
def D.cl (n : Nat) : D → Bool
  | .ref m => decide (m < n)
  | .tup ds => clL n ds
  | .rol ds => clL n ds
  | .ins _ ds => clL n ds
  | .non => true
  | .bl _ => true
  | .int _ => true
  | .str _ => true
def clL (n : Nat) : List D → Bool
  | [] => true
  | d :: ds => d.cl n && clL n ds
end
section
variable {Γ : G} {f f' : List Addr} {H H' : Hp}
mutual
theorem Rp.cl : ∀ {d : D} {v : V}, Rp Γ f H d v → d.cl f.length = true
  | .non, _, h => by simp only [D.cl]
  | .bl _, _, h => by simp only [D.cl]
  | .int _, _, h => by simp only [D.cl]
  | .str _, _, h => by simp only [D.cl]
  | .tup ds, _, h => by
    simp only [Rp] at h
    simp only [D.cl]
    obtain ⟨a, vs, e, s, r⟩ := h
    exact RpL.cl r
  | .rol ds, _, h => by
    simp only [Rp] at h
    simp only [D.cl]
    obtain ⟨a, vs, e, s, r⟩ := h
    exact RpL.cl r
  | .ref n, _, h => by
    simp only [Rp] at h
    simp only [D.cl]
    obtain ⟨a, e, r⟩ := h
    exact decide_eq_true (List.getElem?_eq_some_iff.mp e).1
  | .ins C ds, _, h => by
    simp only [Rp] at h
    simp only [D.cl]
    obtain ⟨a, dx, fvs, e, s, m, r⟩ := h
    exact RpF.cl r
theorem RpL.cl : ∀ {ds : List D} {vs : List V}, RpL Γ f H ds vs → clL f.length ds = true
  | [], _, h => by simp only [clL]
  | d :: ds, _, h => by
    simp only [RpL] at h
    simp only [clL]
    obtain ⟨v, r, e, h1, h2⟩ := h
    rw [Rp.cl h1, RpL.cl h2]
    rfl
theorem RpF.cl : ∀ {ds : List D} {ns : List Str} {fs : List (Str × V)}, RpF Γ f H ds ns fs → clL f.length ds = true
  | [], _, _, h => by simp only [clL]
  | d :: ds, _, _, h => by
    simp only [RpF] at h
    simp only [clL]
    obtain ⟨x, r, v, e, l, h1, h2⟩ := h
    rw [Rp.cl h1, RpF.cl h2]
    rfl
end
mutual
theorem Rp.cut {t : List Addr} : ∀ {d : D} {v : V}, d.cl f.length = true → Rp Γ (f ++ t) H d v → Rp Γ f H d v
  | .non, _, _, h => by simp only [Rp] at h ⊢; exact h
  | .bl _, _, _, h => by simp only [Rp] at h ⊢; exact h
  | .int _, _, _, h => by simp only [Rp] at h ⊢; exact h
  | .str _, _, _, h => by simp only [Rp] at h ⊢; exact h
  | .tup ds, _, c, h => by
    simp only [Rp] at h ⊢
    simp only [D.cl] at c
    obtain ⟨a, vs, e, s, r⟩ := h
    exact ⟨a, vs, e, s, RpL.cut c r⟩
  | .rol ds, _, c, h => by
    simp only [Rp] at h ⊢
    simp only [D.cl] at c
    obtain ⟨a, vs, e, s, r⟩ := h
    exact ⟨a, vs, e, s, RpL.cut c r⟩
  | .ref n, _, c, h => by
    simp only [Rp] at h ⊢
    simp only [D.cl] at c
    obtain ⟨a, e, r⟩ := h
    rw [List.getElem?_append_left (of_decide_eq_true c)] at e
    exact ⟨a, e, r⟩
  | .ins C ds, _, c, h => by
    simp only [Rp] at h ⊢
    simp only [D.cl] at c
    obtain ⟨a, dx, fvs, e, s, m, r⟩ := h
    exact ⟨a, dx, fvs, e, s, m, RpF.cut c r⟩
theorem RpL.cut {t : List Addr} : ∀ {ds : List D} {vs : List V}, clL f.length ds = true → RpL Γ (f ++ t) H ds vs → RpL Γ f H ds vs
  | [], _, _, h => by simp only [RpL] at h ⊢; exact h
  | d :: ds, _, c, h => by
    simp only [RpL] at h ⊢
    simp only [clL] at c
    obtain ⟨c1, c2⟩ := Bool.and_eq_true_iff.mp c
    obtain ⟨v, r, e, h1, h2⟩ := h
    exact ⟨v, r, e, Rp.cut c1 h1, RpL.cut c2 h2⟩
theorem RpF.cut {t : List Addr} : ∀ {ds : List D} {ns : List Str} {fs : List (Str × V)}, clL f.length ds = true → RpF Γ (f ++ t) H ds ns fs → RpF Γ f H ds ns fs
  | [], _, _, _, h => by simp only [RpF]
  | d :: ds, _, _, c, h => by
    simp only [RpF] at h ⊢
    simp only [clL] at c
    obtain ⟨c1, c2⟩ := Bool.and_eq_true_iff.mp c
    obtain ⟨x, r, v, e, l, h1, h2⟩ := h
    exact ⟨x, r, v, e, l, Rp.cut c1 h1, RpF.cut c2 h2⟩
end
end
end Lk

set_option Elab.async false
set_option linter.all false
set_option autoImplicit false
set_option maxRecDepth 100000
set_option maxHeartbeats 2000000
namespace Lk
open PySem PySem.Spec PyProof.Rows L2

def ROb (Γ : G) (f : List Addr) (H : Hp) : Ob → Addr → Prop
  | .lst ds, a => ∃ vs, H a = some (.lst vs) ∧ RpL Γ f H ds vs
  | .dk kvs, a => ∃ us : List (Key × V), H a = some (.dK us) ∧ us.map (·.1) = kvs.map (·.1) ∧ RpL Γ f H (kvs.map (·.2)) (us.map (·.2))
  | .dt kvs, a => ∃ us : List (List Key × V), H a = some (.dT us) ∧ us.map (·.1) = kvs.map (·.1) ∧ RpL Γ f H (kvs.map (·.2)) (us.map (·.2))
  | .obj C ds, a => ∃ dx fvs, H a = some (.ins (Γ.c C) dx fvs) ∧ RpF Γ f H ds (Γ.flds C) fvs ∧ (∀ x, (fvs.lookup x).isSome = true → x ∈ (Γ.flds C).take ds.length) ∧ fvs.length ≤ ds.length
  | .gone, a => ∃ o, H a = some o
/-- an exception's own dict -/
def XRep (Γ : G) (f : List Addr) (H : Hp) (C : Str) (ds : List D) (o : Option Addr) : Prop :=
  (ds = [] ∧ o = none) ∨ ∃ dd fvs, o = some dd ∧ H dd = some (.xd fvs) ∧ RpF Γ f H ds (Γ.xfl C) fvs

theorem nd_ix {N : List Addr} (hN : N.Nodup) {i j : Nat} {x : Addr} (a : N[i]? = some x) (b : N[j]? = some x) : i = j := by
  obtain ⟨h1, e1⟩ := List.getElem?_eq_some_iff.mp a
  obtain ⟨h2, e2⟩ := List.getElem?_eq_some_iff.mp b
  exact (List.getElem_inj hN).mp (e1.trans e2.symm)
structure RelS (Γ : G) (f : List Addr) (S : Store) (H : Hp) : Prop where
  len : f.length = S.length
  nd : f.Nodup
  ob : ∀ (n : Nat) (o : Ob), S[n]? = some o → ∃ a, f[n]? = some a ∧ ROb Γ f H o a
  xc : ∀ a i C ds o, Γ.xc = some (a, i, C, ds, o) → XRep Γ f H C ds o
def RelE (Γ : G) (f : List Addr) (H : Hp) (env : Env) (σ : L2.St) : Prop := env.length = σ.length ∧ (∀ (i : Nat) (d : D), env[i]? = some (some d) → ∃ v, σ[i]? = some (some v) ∧ Rp Γ f H d v) ∧ ∀ a i C ds o, Γ.xc = some (a, i, C, ds, o) → env[i]? = some none → σ[i]? = some (some (.ref a))
inductive R (α : Type) where
  | ok (a : α) (S : Store) | ex (C : Str) (ds : List D) (S : Store) | bad
def R.bind {α β : Type} (r : R α) (k : α → Store → R β) : R β := match r with
  | .ok a S => k a S
  | .ex C ds S => .ex C ds S
  | .bad => .bad
inductive RS where
  | nx (e : Env) (S : Store) | rt (d : D) (S : Store) | bk (e : Env) (S : Store) | ct (e : Env) (S : Store) | ex (C : Str) (ds : List D) (e : Env) (S : Store) | bad
abbrev ME := Env → Store → R D
abbrev MT := Env → Store → R Bool
abbrev MA := Env → Store → R (List D)
abbrev MS := Env → Store → RS

section
variable {Γ : G} {f f' f'' : List Addr} {H H' H'' : Hp} {S S' : Store} {α β : Type}
theorem XRep.up {C : Str} {ds : List D} {o : Option Addr} (u : Up Γ f H f' H') (h : XRep Γ f H C ds o) : XRep Γ f' H' C ds o := by
  rcases h with h | ⟨dd, fvs, e1, e2, r⟩
  · exact .inl h
  · exact .inr ⟨dd, fvs, e1, u.keep.xd _ _ e2, r.up u fun _ _ q => q⟩
theorem XRep.cl {C : Str} {ds : List D} {o : Option Addr} (h : XRep Γ f H C ds o) : clL f.length ds = true := by
  rcases h with ⟨h, _⟩ | ⟨dd, fvs, e1, e2, r⟩
  · rw [h]
    rfl
  · exact r.cl
theorem XRep.cut {C : Str} {ds : List D} {o : Option Addr} {t : List Addr} (c : clL f.length ds = true) (h : XRep Γ (f ++ t) H C ds o) : XRep Γ f H C ds o := by
  rcases h with h | ⟨dd, fvs, e1, e2, r⟩
  · exact .inl h
  · exact .inr ⟨dd, fvs, e1, e2, r.cut c⟩
theorem ROb.at {o : Ob} {a : Addr} (h : ROb Γ f H o a) : ∃ u, H a = some u := by
  cases o with
  | lst ds => obtain ⟨vs, e, _⟩ := h; exact ⟨_, e⟩
  | dk ds => obtain ⟨vs, e, _⟩ := h; exact ⟨_, e⟩
  | dt ds => obtain ⟨vs, e, _⟩ := h; exact ⟨_, e⟩
  | obj C ds => obtain ⟨dx, vs, e, _⟩ := h; exact ⟨_, e⟩
  | gone => exact h
theorem ROb.move {o : Ob} {a : Addr} (u : Up Γ f H f' H') (e : H' a = H a) (h : ROb Γ f H o a) : ROb Γ f' H' o a := by
  cases o with
  | lst ds => obtain ⟨vs, h1, h2⟩ := h; exact ⟨vs, e.trans h1, h2.up u⟩
  | dk ds => obtain ⟨vs, h1, h3, h2⟩ := h; exact ⟨vs, e.trans h1, h3, h2.up u⟩
  | dt ds => obtain ⟨vs, h1, h3, h2⟩ := h; exact ⟨vs, e.trans h1, h3, h2.up u⟩
  | obj C ds => obtain ⟨dx, vs, h1, h2, h3⟩ := h; exact ⟨dx, vs, e.trans h1, h2.up u fun _ _ q => q, h3⟩
  | gone => obtain ⟨o, h⟩ := h; exact ⟨o, e.trans h⟩
theorem RelS.mem {a : Addr} (r : RelS Γ f S H) (h : a ∈ f) : ∃ u, H a = some u := by
  obtain ⟨n, hn, e⟩ := List.getElem_of_mem h
  have hs : n < S.length := by rw [← r.len]; exact hn
  obtain ⟨b, hb, ho⟩ := r.ob n S[n] (List.getElem?_eq_getElem hs)
  rw [List.getElem?_eq_getElem hn] at hb
  cases hb
  rw [← e]
  exact ho.at
theorem RelS.fresh {p : Addr} (r : RelS Γ f S H) (h : H p = none) : p ∉ f := fun z => by
  obtain ⟨u, e⟩ := r.mem z
  rw [h] at e
  cases e
theorem Keep.new {p : Addr} {o : HO} (h : H p = none) : Keep Γ H (upd H p o) :=
  ⟨fun a xs e => by rw [upd_ne (ne_of_none e h)]; exact e, fun a _ _ e => by rw [upd_ne (ne_of_none e h)]; exact e, fun a _ e => by rw [upd_ne (ne_of_none e h)]; exact e, fun C a dx fs e => ⟨fs, by rw [upd_ne (ne_of_none e h)]; exact e, fun _ _ q => q, fun _ q => .inl q⟩⟩
/-- what may be changed: no tuple, nothing frozen, no instance -/
def Chg : HO → Prop
  | .tup _ => False
  | .frz _ _ => False
  | .ins _ _ _ => False
  | .xd _ => False
  | _ => True
theorem Keep.chg {p : Addr} {o u : HO} (h : H p = some u) (c : Chg u) : Keep Γ H (upd H p o) := by
  have ne : ∀ a w, H a = some w → ¬ Chg w → a ≠ p := fun a w e n z => by
    rw [z, h] at e
    cases e
    exact n c
  exact ⟨fun a xs e => by rw [upd_ne (ne a _ e id)]; exact e, fun a _ _ e => by rw [upd_ne (ne a _ e id)]; exact e, fun a _ e => by rw [upd_ne (ne a _ e id)]; exact e, fun C a dx fs e => ⟨fs, by rw [upd_ne (ne a _ e id)]; exact e, fun _ _ q => q, fun _ q => .inl q⟩⟩
theorem Up.new {p : Addr} {o : HO} (h : H p = none) : Up Γ f H f (upd H p o) := ⟨⟨[], by simp⟩, .new h⟩
theorem Up.alloc {p : Addr} {o : HO} (h : H p = none) : Up Γ f H (f ++ [p]) (upd H p o) := ⟨⟨[p], rfl⟩, .new h⟩
theorem Up.chg {p : Addr} {o u : HO} (h : H p = some u) (c : Chg u) : Up Γ f H f (upd H p o) := ⟨⟨[], by simp⟩, .chg h c⟩
theorem RelS.newT {p : Addr} {o : HO} (r : RelS Γ f S H) (h : H p = none) : RelS Γ f S (upd H p o) :=
  ⟨r.len, r.nd, fun n b e => by
    obtain ⟨a, ha, ho⟩ := r.ob n b e
    obtain ⟨u, hu⟩ := ho.at
    exact ⟨a, ha, ho.move (.new h) (upd_ne (ne_of_none hu h))⟩, fun a i C ds o e => (r.xc a i C ds o e).up (.new h)⟩
theorem RelS.alloc {p : Addr} {o : HO} {b : Ob} (r : RelS Γ f S H) (h : H p = none) (hb : ROb Γ (f ++ [p]) (upd H p o) b p) : RelS Γ (f ++ [p]) (S ++ [b]) (upd H p o) :=
  ⟨by rw [List.length_append, List.length_append, r.len]; rfl, by
    rw [List.nodup_append]
    refine ⟨r.nd, by simp, fun a ha b hb e => ?_⟩
    have : b = p := by simpa using hb
    exact r.fresh h (by rw [← this, ← e]; exact ha), fun n c e => by
    by_cases hn : n < S.length
    · rw [List.getElem?_append_left hn] at e
      obtain ⟨a, ha, ho⟩ := r.ob n c e
      obtain ⟨u, hu⟩ := ho.at
      exact ⟨a, (Up.alloc (Γ := Γ) (o := o) h).at ha, ho.move (.alloc h) (upd_ne (ne_of_none hu h))⟩
    · rw [List.getElem?_append_right (Nat.le_of_not_lt hn)] at e
      have z : n - S.length = 0 := by
        cases q : n - S.length with
        | zero => rfl
        | succ k => rw [q] at e; cases e
      rw [z] at e
      cases e
      have en : n = f.length := by rw [r.len]; omega
      exact ⟨p, by rw [en]; simp, hb⟩, fun a i C ds o e => (r.xc a i C ds o e).up (.alloc h)⟩
theorem RelS.set {n : Nat} {a : Addr} {o : HO} {b : Ob} (r : RelS Γ f S H) (ha : f[n]? = some a) (k : Keep Γ H (upd H a o)) (hb : ROb Γ f (upd H a o) b a) : RelS Γ f (S.set n b) (upd H a o) :=
  ⟨by rw [List.length_set]; exact r.len, r.nd, fun m d e => by
    by_cases hm : m = n
    · subst hm
      have hs : m < S.length := by rw [← r.len]; exact (List.getElem?_eq_some_iff.mp ha).1
      rw [List.getElem?_set_self hs] at e
      cases e
      exact ⟨a, ha, hb⟩
    · rw [List.getElem?_set_ne (Ne.symm hm)] at e
      obtain ⟨a', ha', ho⟩ := r.ob m d e
      have ne : a' ≠ a := fun z => by
        subst z
        exact hm (nd_ix r.nd ha' ha)
      exact ⟨a', ha', ho.move ⟨⟨[], by simp⟩, k⟩ (upd_ne ne)⟩, fun a i C ds o e => (r.xc a i C ds o e).up ⟨⟨[], by simp⟩, k⟩⟩
/-- an object is given up -/
theorem RelS.drop (r : RelS Γ f S H) (n : Nat) : RelS Γ f (S.set n .gone) H := ⟨by rw [List.length_set]; exact r.len, r.nd, fun m d e => by
  by_cases hm : m = n
  · subst hm
    have hs : m < S.length := by
      have := (List.getElem?_eq_some_iff.mp e).1
      rwa [List.length_set] at this
    rw [List.getElem?_set_self hs] at e
    cases e
    obtain ⟨a, ha, ho⟩ := r.ob m S[m] (List.getElem?_eq_getElem hs)
    exact ⟨a, ha, ho.at⟩
  · rw [List.getElem?_set_ne (Ne.symm hm)] at e
    exact r.ob m d e, r.xc⟩
theorem ROb.cl {o : Ob} {a : Addr} {t : List Addr} (h : ROb Γ f H o a) (h' : ROb Γ (f ++ t) H' o a) : ROb Γ f H' o a := by
  cases o with
  | lst ds => obtain ⟨vs, h1, h2⟩ := h; obtain ⟨vs', h1', h2'⟩ := h'; exact ⟨vs', h1', h2'.cut h2.cl⟩
  | dk ds => obtain ⟨vs, h1, h3, h2⟩ := h; obtain ⟨vs', h1', h3', h2'⟩ := h'; exact ⟨vs', h1', h3', h2'.cut h2.cl⟩
  | dt ds => obtain ⟨vs, h1, h3, h2⟩ := h; obtain ⟨vs', h1', h3', h2'⟩ := h'; exact ⟨vs', h1', h3', h2'.cut h2.cl⟩
  | obj C ds => obtain ⟨dx, vs, h1, h2, h3⟩ := h; obtain ⟨dx', vs', h1', h2', h3'⟩ := h'; exact ⟨dx', vs', h1', h2'.cut h2.cl, h3'⟩
  | gone => exact h'
/-- what a call has made and nobody names is forgotten -/
theorem RelS.cut {S1 : Store} {t : List Addr} (r : RelS Γ f S H) (r1 : RelS Γ (f ++ t) S1 H') (e : S1.take S.length = S) : RelS Γ f S H' := ⟨r.len, r.nd, fun n o q => by
  have hn : n < S.length := (List.getElem?_eq_some_iff.mp q).1
  obtain ⟨a, ha, ho⟩ := r.ob n o q
  have q1 : S1[n]? = some o := by
    rw [← e, List.getElem?_take_of_lt hn] at q
    exact q
  obtain ⟨b, hb, ho'⟩ := r1.ob n o q1
  rw [List.getElem?_append_left (by rw [r.len]; exact hn), ha] at hb
  cases hb
  exact ⟨a, ha, ho.cl ho'⟩, fun a i C ds o q => (r1.xc a i C ds o q).cut (r.xc a i C ds o q).cl⟩
theorem RelE.up {env : Env} {σ : L2.St} (u : Up Γ f H f' H') (r : RelE Γ f H env σ) : RelE Γ f' H' env σ := ⟨r.1, fun i d e => by
  obtain ⟨v, h1, h2⟩ := r.2.1 i d e
  exact ⟨v, h1, h2.up u⟩, r.2.2⟩
theorem RelE.set {env : Env} {σ : L2.St} {d : D} {v : V} (r : RelE Γ f H env σ) (h : Rp Γ f H d v) (i : Nat) : RelE Γ f H (env.set i (some d)) (σ.set i (some v)) := ⟨by rw [List.length_set, List.length_set]; exact r.1, fun j e q => by
  by_cases hj : j = i
  · subst hj
    have hl : j < env.length := by
      have := (List.getElem?_eq_some_iff.mp q).1
      rwa [List.length_set] at this
    rw [List.getElem?_set_self hl] at q
    cases q
    exact ⟨v, List.getElem?_set_self (by rw [← r.1]; exact hl), h⟩
  · rw [List.getElem?_set_ne (Ne.symm hj)] at q
    obtain ⟨v', h1, h2⟩ := r.2.1 j e q
    exact ⟨v', by rw [List.getElem?_set_ne (Ne.symm hj)]; exact h1, h2⟩, fun a j C ds o e q => by
  by_cases hj : j = i
  · subst hj
    have hl : j < env.length := by
      have := (List.getElem?_eq_some_iff.mp q).1
      rwa [List.length_set] at this
    rw [List.getElem?_set_self hl] at q
    cases q
  · rw [List.getElem?_set_ne (Ne.symm hj)] at q ⊢
    exact r.2.2 a j C ds o e q⟩
/-- a slot whose value the mirror does not know -/
theorem RelE.miss {env : Env} {σ : L2.St} (hx : Γ.xc = none) (r : RelE Γ f H env σ) (i : Nat) (x : Option V) : RelE Γ f H (env.set i none) (σ.set i x) := ⟨by rw [List.length_set, List.length_set]; exact r.1, fun j e q => by
  by_cases hj : j = i
  · subst hj
    have hl : j < env.length := by
      have := (List.getElem?_eq_some_iff.mp q).1
      rwa [List.length_set] at this
    rw [List.getElem?_set_self hl] at q
    cases q
  · rw [List.getElem?_set_ne (Ne.symm hj)] at q
    obtain ⟨v', h1, h2⟩ := r.2.1 j e q
    exact ⟨v', by rw [List.getElem?_set_ne (Ne.symm hj)]; exact h1, h2⟩, fun a j C ds o e => by
  rw [hx] at e
  cases e⟩

/-- what a result of the mirror wants -/
def Wp (Γ : G) (W : WX) (σ : L2.St) (f : List Addr) (H : Hp) (rep : List Addr → Hp → α → β → Prop) (Q : β → Hp → Prop) : R α → Prop
  | .ok a S' => ∀ f' H' b, Up Γ f H f' H' → RelS Γ f' S' H' → rep f' H' a b → Q b H'
  | .ex C ds S' => ∀ f' H' o, Up Γ f H f' H' → RelS Γ f' S' H' → XRep Γ f' H' C ds o → W (.ref (Γ.c C)) o σ H'
  | .bad => False
theorem Wp.mono {W : WX} {σ : L2.St} {rep : List Addr → Hp → α → β → Prop} {Q : β → Hp → Prop} {r : R α} (u : Up Γ f H f' H') (h : Wp Γ W σ f H rep Q r) : Wp Γ W σ f' H' rep Q r := by
  cases r with
  | ok a S1 => exact fun f1 H1 b u1 => h f1 H1 b (u.trans u1)
  | ex C ds S1 => exact fun f1 H1 o u1 => h f1 H1 o (u.trans u1)
  | bad => exact h
/-- a bind's result, seen from its first part -/
theorem Wp.bindL {γ δ : Type} {W : WX} {σ : L2.St} {rep : List Addr → Hp → α → β → Prop} {rep2 : List Addr → Hp → γ → δ → Prop} {Q : δ → Hp → Prop} {Q1 : β → Hp → Prop} {r : R α} {k : α → Store → R γ} (h : Wp Γ W σ f H rep2 Q (r.bind k))
    (hk : ∀ a S1 f1 H1 b, Up Γ f H f1 H1 → RelS Γ f1 S1 H1 → rep f1 H1 a b → Wp Γ W σ f1 H1 rep2 Q (k a S1) → Q1 b H1) : Wp Γ W σ f H rep Q1 r := by
  cases r with
  | ok a S1 => exact fun f1 H1 b u1 r1 p => hk a S1 f1 H1 b u1 r1 p (Wp.mono u1 h)
  | ex C ds S1 => exact h
  | bad => exact h
def WpS (Γ : G) (W : WX) (f : List Addr) (H : Hp) (D : Ends) : RS → Prop
  | .nx e S' => ∀ f' σ' H', Up Γ f H f' H' → RelS Γ f' S' H' → RelE Γ f' H' e σ' → D.nx σ' H'
  | .rt d S' => ∀ f' H' v, Up Γ f H f' H' → RelS Γ f' S' H' → Rp Γ f' H' d v → D.rt v H'
  | .bk e S' => ∀ f' σ' H', Up Γ f H f' H' → RelS Γ f' S' H' → RelE Γ f' H' e σ' → D.bk σ' H'
  | .ct e S' => ∀ f' σ' H', Up Γ f H f' H' → RelS Γ f' S' H' → RelE Γ f' H' e σ' → D.ct σ' H'
  | .ex C ds e S' => ∀ f' σ' H' o, Up Γ f H f' H' → RelS Γ f' S' H' → RelE Γ f' H' e σ' → XRep Γ f' H' C ds o → W (.ref (Γ.c C)) o σ' H'
  | .bad => False
theorem WpS.mono {W : WX} {D : Ends} {r : RS} (u : Up Γ f H f' H') (h : WpS Γ W f H D r) : WpS Γ W f' H' D r := by
  cases r with
  | nx e S1 => exact fun f1 σ1 H1 u1 => h f1 σ1 H1 (u.trans u1)
  | rt d S1 => exact fun f1 H1 v u1 => h f1 H1 v (u.trans u1)
  | bk e S1 => exact fun f1 σ1 H1 u1 => h f1 σ1 H1 (u.trans u1)
  | ct e S1 => exact fun f1 σ1 H1 u1 => h f1 σ1 H1 (u.trans u1)
  | ex C ds e S1 => exact fun f1 σ1 H1 o u1 => h f1 σ1 H1 o (u.trans u1)
  | bad => exact h
def tE (Γ : G) (W : WX) (m : ME) : TE := fun σ H Q => ∃ env S f, RelS Γ f S H ∧ RelE Γ f H env σ ∧ Wp Γ W σ f H (Rp Γ) Q (m env S)
def tT (Γ : G) (W : WX) (m : MT) : TT := fun σ H Q => ∃ env S f, RelS Γ f S H ∧ RelE Γ f H env σ ∧ Wp Γ W σ f H (fun _ _ a b => a = b) Q (m env S)
def tA (Γ : G) (W : WX) (m : MA) : TA := fun σ H Q => ∃ env S f, RelS Γ f S H ∧ RelE Γ f H env σ ∧ Wp Γ W σ f H (RpL Γ) Q (m env S)
def tS (Γ : G) (W : WX) (m : MS) : TS := fun D σ H => ∃ env S f, RelS Γ f S H ∧ RelE Γ f H env σ ∧ WpS Γ W f H D (m env S)
/-- a statement whose expression is evaluated first -/
def R.bindS {α : Type} (r : R α) (env : Env) (k : α → Store → RS) : RS := match r with
  | .ok a S => k a S
  | .ex C ds S => .ex C ds env S
  | .bad => .bad
theorem WpS.bindL {W : WX} {σ : L2.St} {env : Env} {rep : List Addr → Hp → α → β → Prop} {Q1 : β → Hp → Prop} {D : Ends} {r : R α} {k : α → Store → RS} (hE : RelE Γ f H env σ) (h : WpS Γ W f H D (r.bindS env k))
    (hk : ∀ a S1 f1 H1 b, Up Γ f H f1 H1 → RelS Γ f1 S1 H1 → rep f1 H1 a b → WpS Γ W f1 H1 D (k a S1) → Q1 b H1) : Wp Γ W σ f H rep Q1 r := by
  cases r with
  | ok a S1 => exact fun f1 H1 b u1 r1 p => hk a S1 f1 H1 b u1 r1 p (WpS.mono u1 h)
  | ex C ds S1 => exact fun f1 H1 o u1 r1 x => h f1 σ H1 o u1 r1 (hE.up u1) x
  | bad => exact h
end
/-- readings that ask less -/
theorem PE.imp {X : Cx} {e : Expr} {t t' : TE} (h : PE X e t) (i : ∀ σ H Q, t' σ H Q → t σ H Q) : PE X e t' := ⟨fun pins s σ H Q I q => h.run pins s σ H Q I (i σ H Q q)⟩
theorem PT.imp {X : Cx} {e : Expr} {t t' : TT} (h : PT X e t) (i : ∀ σ H Q, t' σ H Q → t σ H Q) : PT X e t' := ⟨fun pins s σ H Q I q => h.run pins s σ H Q I (i σ H Q q)⟩
theorem PW.imp {X : Cx} {e : Expr} {t t' : TT} (h : PW X e t) (i : ∀ σ H Q, t' σ H Q → t σ H Q) : PW X e t' := ⟨fun wh pins s σ H Q I q => h.run wh pins s σ H Q I (i σ H Q q)⟩
theorem PA.imp {X : Cx} {e : List Expr} {t t' : TA} (h : PA X e t) (i : ∀ σ H Q, t' σ H Q → t σ H Q) : PA X e t' := ⟨fun pos pins s σ H Q I q => h.run pos pins s σ H Q I (i σ H Q q)⟩
theorem PS.imp {X : Cx} {e : Stmt} {t t' : TS} (h : PS X e t) (i : ∀ D σ H, t' D σ H → t D σ H) : PS X e t' := ⟨fun pins s σ H D I q => h.run pins s σ H D I (i D σ H q)⟩
theorem PSs.imp {X : Cx} {e : List Stmt} {t t' : TS} (h : PSs X e t) (i : ∀ D σ H, t' D σ H → t D σ H) : PSs X e t' := ⟨fun pins s σ H D I q => h.run pins s σ H D I (i D σ H q)⟩
end Lk

set_option Elab.async false
set_option linter.all false
set_option autoImplicit false
set_option maxRecDepth 100000
set_option maxHeartbeats 2000000
namespace Lk
open PySem PySem.Spec PyProof.Rows L2

/-! ### the mirror's words: expressions -/
def mVar (i : Nat) : ME := fun env S => match env[i]? with
  | some (some d) => .ok d S
  | _ => .bad
def mC (d : D) : ME := fun _ S => .ok d S
def mNil : MA := fun _ S => .ok [] S
def mCons (m : ME) (r : MA) : MA := fun env S => (m env S).bind fun d S1 => (r env S1).bind fun ds S2 => .ok (d :: ds) S2
def lim : Nat := 16777216
theorem lim_eq : sizeLine = lim := by decide
def mTup (m : MA) : ME := fun env S => (m env S).bind fun ds S1 => if ds.length ≤ lim then .ok (.tup ds) S1 else .bad
def mLst (m : MA) : ME := fun env S => (m env S).bind fun ds S1 => if ds.length ≤ lim then .ok (.ref S1.length) (S1 ++ [.lst ds]) else .bad
def m2 (g : D → D → Store → R D) (a b : ME) : ME := fun env S => (a env S).bind fun x S1 => (b env S1).bind fun y S2 => g x y S2
def m1 (g : D → Store → R D) (a : ME) : ME := fun env S => (a env S).bind fun x S1 => g x S1
def mB (g : List D → Store → R D) (a : MA) : ME := fun env S => (a env S).bind fun xs S1 => g xs S1
def mIf (t : MT) (a b : ME) : ME := fun env S => (t env S).bind fun c S1 => if c = true then a env S1 else b env S1
def asB : D → Store → R Bool
  | .bl b, S => .ok b S
  | _, _ => .bad
def mTest (a : ME) : MT := fun env S => (a env S).bind asB
def mAndT (t u : MT) : MT := fun env S => (t env S).bind fun c S1 => if c = true then u env S1 else .ok false S1
def mOrT (t u : MT) : MT := fun env S => (t env S).bind fun c S1 => if c = true then .ok true S1 else u env S1
def mNotT (t : MT) : MT := fun env S => (t env S).bind fun c S1 => .ok (!c) S1
def mAnd (a b : ME) : ME := fun env S => (a env S).bind fun x S1 => (asB x S1).bind fun c S2 => if c = true then b env S2 else .ok (.bl false) S2
def mOr (a b : ME) : ME := fun env S => (a env S).bind fun x S1 => (asB x S1).bind fun c S2 => if c = true then .ok (.bl true) S2 else b env S2
def mNot (a : ME) : ME := fun env S => (a env S).bind fun x S1 => (asB x S1).bind fun c S2 => .ok (.bl (!c)) S2
/-! ### statements -/
def mNext : MS := fun env S => .nx env S
def RS.seq (r : RS) (k : Env → Store → RS) : RS := match r with
  | .nx e S => k e S
  | r => r
def mSeq (a b : MS) : MS := fun env S => (a env S).seq b
def mRet (a : ME) : MS := fun env S => (a env S).bindS env fun d S1 => .rt d S1
def mRetN : MS := fun _ S => .rt .non S
def mDrop (a : ME) : MS := fun env S => (a env S).bindS env fun _ S1 => .nx env S1
def mSet (i : Nat) (a : ME) : MS := fun env S => (a env S).bindS env fun d S1 => .nx (env.set i (some d)) S1
def mIfS (t : MT) (a b : MS) : MS := fun env S => (t env S).bindS env fun c S1 => if c = true then a env S1 else b env S1
def mBreak : MS := fun env S => .bk env S
def mCont : MS := fun env S => .ct env S
/-- what a target does with a value -/
abbrev MG := D → Env → Store → R Env
def gSet (i : Nat) : MG := fun d env S => .ok (env.set i (some d)) S
abbrev MGs := List D → Env → Store → R Env
def gNil' : MGs := fun ds env S => match ds with
  | [] => .ok env S
  | _ => .bad
def gCons' (g : MG) (r : MGs) : MGs := fun ds env S => match ds with
  | [] => .bad
  | d :: ds => (g d env S).bind fun e S1 => r ds e S1
def itemsOf (S : Store) : D → Option (List D)
  | .tup ds => some ds
  | _ => none
def gUnpack (n : Nat) (r : MGs) : MG := fun d env S => match d with
  | .tup ds => if ds.length = n then r ds env S else .bad
  | _ => .bad
def R.nxt (r : R Env) : RS := match r with
  | .ok e S => .nx e S
  | _ => .bad
def mAsg (a : ME) (g : MG) : MS := fun env S => (a env S).bindS env fun d S1 => (g d env S1).nxt

section
variable {Γ : G} {W : WX} {X : Cx} {f : List Addr} {H : Hp} {S : Store} {a b c : Expr} {es : List Expr} {ma mb mc : ME} {mt mu : MT} {mr : MA} {pos pos' : Pos}
/-! ### names, constants -/
theorem q_var (i : Nat) {x : Str} (hN : X.N[i]? = some x := by rfl) (hv : Vis X.env.scope x := by first | exact Or.inl rfl | exact Or.inr (Or.inl rfl) | exact Or.inr (Or.inr rfl)) (hd : (x == ("__debug__" : Str)) = false := by decide)
    (hcd : (x == ("__classdict__" : Str)) = false := by decide) : PE X (.Name x pos) (tE Γ W (mVar i)) := PE.imp (pv i hN hv hd hcd) fun σ H Q ⟨env, S, f, rs, re, h⟩ => by
  unfold mVar at h
  split at h
  · rename_i d e
    obtain ⟨v, hv, hr⟩ := re.2.1 i d e
    exact ⟨v, hv, h f H v .refl rs hr⟩
  · exact h.elim
theorem q_con {e : Expr} {v : V} {d : D} (h : PE X e (tC v)) (hr : ∀ f H, Rp Γ f H d v) : PE X e (tE Γ W (mC d)) := PE.imp h fun σ H Q ⟨env, S, f, rs, re, h⟩ => h f H v .refl rs (hr f H)
theorem q_int {i j} : PE X (.Constant (.int i) j pos) (tE Γ W (mC (.int i))) := q_con pe_int fun f H => by simp only [Rp]
theorem q_bl {i j} : PE X (.Constant (.bool i) j pos) (tE Γ W (mC (.bl i))) := q_con pe_bl fun f H => by simp only [Rp]
theorem q_non {j} : PE X (.Constant .none j pos) (tE Γ W (mC .non)) := q_con pe_non fun f H => by simp only [Rp]
theorem q_str {i j} : PE X (.Constant (.str i) j pos) (tE Γ W (mC (.str i))) := q_con pe_str fun f H => by simp only [Rp]
/-! ### argument lists, displays -/
theorem qa_nil : PA X [] (tA Γ W mNil) := PA.imp pa_nil fun σ H Q ⟨env, S, f, rs, re, h⟩ => h f H [] .refl rs (by simp only [RpL])
theorem qa_cons (ha : PE X a (tE Γ W ma)) (hr : PA X es (tA Γ W mr)) (hs : starEach (a :: es) X.env = (false, eval a X.env) :: starEach es X.env := by rfl) : PA X (a :: es) (tA Γ W (mCons ma mr)) :=
  PA.imp (pa_cons ha hr hs) fun σ H Q ⟨env, S, f, rs, re, h⟩ => ⟨env, S, f, rs, re, Wp.bindL h fun x S1 f1 H1 v u1 rs1 r1 h1 => ⟨env, S1, f1, rs1, re.up u1, Wp.bindL h1 fun xs S2 f2 H2 vs u2 rs2 r2 h2 => h2 f2 H2 (v :: vs) .refl rs2 (by
    simp only [RpL]
    exact ⟨v, vs, rfl, r1.up u2, r2⟩)⟩⟩
theorem RpL.length : ∀ {ds : List D} {vs : List V}, RpL Γ f H ds vs → ds.length = vs.length
  | [], _, h => by
    simp only [RpL] at h
    rw [h]
    rfl
  | _ :: ds, _, h => by
    simp only [RpL] at h
    obtain ⟨v, r, e, _, h2⟩ := h
    rw [e, List.length_cons, List.length_cons, RpL.length h2]
theorem Rp.tupI {a : Addr} {ds : List D} {vs : List V} (h : SqT Γ.K H a vs) (r : RpL Γ f H ds vs) : Rp Γ f H (.tup ds) (.ref a) := by
  simp only [Rp]
  exact ⟨a, vs, rfl, h, r⟩
theorem Rp.refI {a : Addr} {n : Nat} (h : f[n]? = some a) : Rp Γ f H (.ref n) (.ref a) := by
  simp only [Rp]
  exact ⟨a, h, rfl⟩
theorem q_tup {k} (hr : PA X es (tA Γ W mr)) : PE X (.Tuple es k pos) (tE Γ W (mTup mr)) := PE.imp (pe_tup hr) fun σ H Q ⟨env, S, f, rs, re, h⟩ => ⟨env, S, f, rs, re, Wp.bindL h fun ds S1 f1 H1 vs u1 rs1 r1 h1 => by
  by_cases hl : ds.length ≤ lim
  · rw [if_pos hl] at h1
    refine ⟨by rw [← r1.length, lim_eq]; exact hl, fun p hp => ?_⟩
    exact h1 f1 _ (.ref p) (.new hp) (rs1.newT hp) (Rp.tupI (SqT.of upd_same) (r1.up (.new hp)))
  · rw [if_neg hl] at h1
    exact h1.elim⟩
theorem q_lst (hr : PA X es (tA Γ W mr)) : PE X (.List es pos) (tE Γ W (mLst mr)) := PE.imp (pe_lst hr) fun σ H Q ⟨env, S, f, rs, re, h⟩ => ⟨env, S, f, rs, re, Wp.bindL h fun ds S1 f1 H1 vs u1 rs1 r1 h1 => by
  by_cases hl : ds.length ≤ lim
  · rw [if_pos hl] at h1
    refine ⟨by rw [← r1.length, lim_eq]; exact hl, fun p hp => ?_⟩
    exact h1 (f1 ++ [p]) _ (.ref p) (.alloc hp) (rs1.alloc hp ⟨vs, upd_same, r1.up (.alloc hp)⟩) (Rp.refI (by rw [← rs1.len]; simp))
  · rw [if_neg hl] at h1
    exact h1.elim⟩
/-! ### operators by values -/
def OpOk (Γ : G) (r : R2) (g : D → D → Store → R D) : Prop := ∀ (W : WX) (σ : L2.St) (f : List Addr) (S : Store) (H : Hp) (x y : D) (v u : V) (Q : VK), RelS Γ f S H → Rp Γ f H x v → Rp Γ f H y u → Wp Γ W σ f H (Rp Γ) Q (g x y S) → r v u H Q
theorem two {r : R2} {g : D → D → Store → R D} (hg : OpOk Γ r g) {σ : L2.St} {H : Hp} {Q : VK} (h : tE Γ W (m2 g ma mb) σ H Q) : tOp r (tE Γ W ma) (tE Γ W mb) σ H Q := by
  obtain ⟨env, S, f, rs, re, h⟩ := h
  exact ⟨env, S, f, rs, re, Wp.bindL h fun x S1 f1 H1 v u1 rs1 r1 h1 => ⟨env, S1, f1, rs1, re.up u1, Wp.bindL h1 fun y S2 f2 H2 u u2 rs2 r2 h2 => hg W σ f2 S2 H2 x y v u Q rs2 (r1.up u2) r2 h2⟩⟩
theorem q_op {op : Operator} {r : R2} {g : D → D → Store → R D} (ho : OpR X (binaryOp op) r) (hg : OpOk Γ r g) (ha : PE X a (tE Γ W ma)) (hb : PE X b (tE Γ W mb)) : PE X (.BinOp a op b pos) (tE Γ W (m2 g ma mb)) := PE.imp (pe_op ho ha hb) fun σ H Q => two hg
theorem q_cmp {op : CmpOp} {r : R2} {g : D → D → Store → R D} (ho : OpR X (compareOp op) r) (hg : OpOk Γ r g) (ha : PE X a (tE Γ W ma)) (hb : PE X b (tE Γ W mb)) (hm : behindInMarks op b = false) : PE X (.Compare a [op] [b] pos) (tE Γ W (m2 g ma mb)) := PE.imp (pe_cmpR ho ha hb hm) fun σ H Q => two hg
theorem q_ix {r : R2} {g : D → D → Store → R D} (ho : IxR X r) (hg : OpOk Γ r g) (ha : PE X a (tE Γ W ma)) (hb : PE X b (tE Γ W mb)) (hs : PlainIx b) : PE X (.Subscript a b pos) (tE Γ W (m2 g ma mb)) := PE.imp (pe_ix ho ha hb hs) fun σ H Q => two hg
def UnOk (Γ : G) (r : V → Hp → VK → Prop) (g : D → Store → R D) : Prop := ∀ (W : WX) (σ : L2.St) (f : List Addr) (S : Store) (H : Hp) (x : D) (v : V) (Q : VK), RelS Γ f S H → Rp Γ f H x v → Wp Γ W σ f H (Rp Γ) Q (g x S) → r v H Q
theorem one {r : V → Hp → VK → Prop} {g : D → Store → R D} (hg : UnOk Γ r g) {σ : L2.St} {H : Hp} {Q : VK} (h : tE Γ W (m1 g ma) σ H Q) : tUn r (tE Γ W ma) σ H Q := by
  obtain ⟨env, S, f, rs, re, h⟩ := h
  exact ⟨env, S, f, rs, re, Wp.bindL h fun x S1 f1 H1 v u1 rs1 r1 h1 => hg W σ f1 S1 H1 x v Q rs1 r1 h1⟩
theorem q_un {op : UnaryOp} {r : V → Hp → VK → Prop} {g : D → Store → R D} (ho : UnR X (unaryOp op) r) (hg : UnOk Γ r g) (ha : PE X a (tE Γ W ma)) : PE X (.UnaryOp op a pos) (tE Γ W (m1 g ma)) := PE.imp (pe_un ho ha) fun σ H Q => one hg
/-- a built-in by its arguments' values -/
def ArOk (Γ : G) (r : List V → Hp → VK → Prop) (g : List D → Store → R D) : Prop := ∀ (W : WX) (σ : L2.St) (f : List Addr) (S : Store) (H : Hp) (xs : List D) (vs : List V) (Q : VK), RelS Γ f S H → RpL Γ f H xs vs → Wp Γ W σ f H (Rp Γ) Q (g xs S) → r vs H Q
theorem many {r : List V → Hp → VK → Prop} {g : List D → Store → R D} (hg : ArOk Γ r g) {σ : L2.St} {H : Hp} {Q : VK} (h : tE Γ W (mB g mr) σ H Q) : tCB r (tA Γ W mr) σ H Q := by
  obtain ⟨env, S, f, rs, re, h⟩ := h
  exact ⟨env, S, f, rs, re, Wp.bindL h fun x S1 f1 H1 v u1 rs1 r1 h1 => hg W σ f1 S1 H1 x v Q rs1 r1 h1⟩
theorem q_callB {id : String} {x : Str} {p : Pos} {r : List V → Hp → VK → Prop} {g : List D → Store → R D} (hc : CallR X (.builtin id) r) (hg' : ArOk Γ r g) (hm : X.mg x = none) (hv : bootBuiltins x = some (.builtin id)) (ha : PA X (a :: es) (tA Γ W mr)) (hg : Gl X x := by rfl) (hn : x ≠ "__name__" := by decide) (hdb : (x == ("__debug__" : Str)) = false := by decide)
    (he : starEach (a :: es) X.env = (false, eval a X.env) :: starEach es X.env := by rfl) (hpl : (backTo pos (starEach es X.env)).any (·.1) = false := by rfl) : PE X (.Call (.Name x p) (a :: es) [] pos) (tE Γ W (mB g mr)) := PE.imp (pe_callB hc hg hm hv ha hn hdb he hpl) fun σ H Q => many hg'
theorem q_callTy {T : String} {x : Str} {p : Pos} {r : List V → Hp → VK → Prop} {g : List D → Store → R D} (hc : CallR X (.type T) r) (hg' : ArOk Γ r g) (hm : X.mg x = none) (hv : bootBuiltins x = some (.type T)) (ha : PA X (a :: es) (tA Γ W mr)) (hg : Gl X x := by rfl) (hn : x ≠ "__name__" := by decide) (hdb : (x == ("__debug__" : Str)) = false := by decide)
    (he : starEach (a :: es) X.env = (false, eval a X.env) :: starEach es X.env := by rfl) (hpl : (backTo pos (starEach es X.env)).any (·.1) = false := by rfl) : PE X (.Call (.Name x p) (a :: es) [] pos) (tE Γ W (mB g mr)) := PE.imp (pe_callTy hc hg hm hv ha hn hdb he hpl) fun σ H Q => many hg'
/-! ### tests -/
theorem asBL {σ : L2.St} {x : D} {v : V} {Q : Bool → Hp → Prop} (rs : RelS Γ f S H) (r : Rp Γ f H x v) (h : Wp Γ W σ f H (fun _ _ a b => a = b) Q (asB x S)) : ∃ c, v = .bl c ∧ Q c H := by
  cases x with
  | bl c =>
    simp only [Rp] at r
    exact ⟨c, r, h f H c .refl rs rfl⟩
  | _ => exact h.elim
theorem qt_val (ha : PE X a (tE Γ W ma)) (he : ∀ whole, isTrue a X.env whole = (do let v ← whole; standAt a.pos; holding [v] (truthy v)) := by intro _; rfl) : PT X a (tT Γ W (mTest ma)) := PT.imp (pt_val ha he) fun σ H Q ⟨env, S, f, rs, re, h⟩ =>
  ⟨env, S, f, rs, re, Wp.bindL h fun x S1 f1 H1 v u1 rs1 r1 h1 => asBL rs1 r1 h1⟩
theorem qt_cmp {op : CmpOp} {r : R2} {g : D → D → Store → R D} (ho : OpR X (compareOp op) r) (hg : OpOk Γ r g) (ha : PE X a (tE Γ W ma)) (hb : PE X b (tE Γ W mb)) (hm : behindInMarks op b = false) : PT X (.Compare a [op] [b] pos) (tT Γ W (mTest (m2 g ma mb))) := PT.imp (pt_cmpR ho ha hb hm) fun σ H Q ⟨env, S, f, rs, re, h⟩ => by
  refine two (Γ := Γ) (W := W) hg ⟨env, S, f, rs, re, Wp.bindL h fun x S1 f1 H1 v u1 rs1 r1 h1 => asBL rs1 r1 h1⟩
theorem qw_and1 (ha : PT X a (tT Γ W mt)) : PW X (.BoolOp .And [a] pos) (tT Γ W mt) := pw_and1 ha
theorem qw_or1 (ha : PT X a (tT Γ W mt)) : PW X (.BoolOp .Or [a] pos) (tT Γ W mt) := pw_or1 ha
theorem qw_and (ha : PT X a (tT Γ W mt)) (hb : PW X (.BoolOp .And (b :: es) pos) (tT Γ W mu)) : PW X (.BoolOp .And (a :: b :: es) pos) (tT Γ W (mAndT mt mu)) := PW.imp (pw_and ha hb) fun σ H Q ⟨env, S, f, rs, re, h⟩ => ⟨env, S, f, rs, re, Wp.bindL h fun x S1 f1 H1 v u1 rs1 r1 h1 => by
  subst r1
  cases x with
  | true => exact ⟨env, S1, f1, rs1, re.up u1, h1⟩
  | false => exact h1 f1 H1 false .refl rs1 rfl⟩
theorem qw_or (ha : PT X a (tT Γ W mt)) (hb : PW X (.BoolOp .Or (b :: es) pos) (tT Γ W mu)) : PW X (.BoolOp .Or (a :: b :: es) pos) (tT Γ W (mOrT mt mu)) := PW.imp (pw_or ha hb) fun σ H Q ⟨env, S, f, rs, re, h⟩ => ⟨env, S, f, rs, re, Wp.bindL h fun x S1 f1 H1 v u1 rs1 r1 h1 => by
  subst r1
  cases x with
  | false => exact ⟨env, S1, f1, rs1, re.up u1, h1⟩
  | true => exact h1 f1 H1 true .refl rs1 rfl⟩
theorem qt_not (ha : PT X a (tT Γ W mt)) : PT X (.UnaryOp .Not a pos) (tT Γ W (mNotT mt)) := PT.imp (pt_not ha) fun σ H Q ⟨env, S, f, rs, re, h⟩ => ⟨env, S, f, rs, re, Wp.bindL h fun x S1 f1 H1 v u1 rs1 r1 h1 => by
  subst r1
  exact h1 f1 H1 (!x) .refl rs1 rfl⟩
theorem q_one {op} (ha : PE X a (tE Γ W ma)) : PE X (.BoolOp op [a] pos) (tE Γ W ma) := pe_one ha
theorem q_and (ha : PE X a (tE Γ W ma)) (hb : PE X (.BoolOp .And (b :: es) pos) (tE Γ W mb)) : PE X (.BoolOp .And (a :: b :: es) pos) (tE Γ W (mAnd ma mb)) := PE.imp (pe_and ha hb) fun σ H Q ⟨env, S, f, rs, re, h⟩ => ⟨env, S, f, rs, re, Wp.bindL h fun x S1 f1 H1 v u1 rs1 r1 h1 => by
  cases x with
  | bl c =>
    simp only [Rp] at r1
    refine ⟨c, r1, ?_⟩
    cases c with
    | true => exact ⟨env, S1, f1, rs1, re.up u1, h1⟩
    | false => exact h1 f1 H1 (.bl false) .refl rs1 (by simp only [Rp])
  | _ => exact h1.elim⟩
theorem q_or (ha : PE X a (tE Γ W ma)) (hb : PE X (.BoolOp .Or (b :: es) pos) (tE Γ W mb)) : PE X (.BoolOp .Or (a :: b :: es) pos) (tE Γ W (mOr ma mb)) := PE.imp (pe_or ha hb) fun σ H Q ⟨env, S, f, rs, re, h⟩ => ⟨env, S, f, rs, re, Wp.bindL h fun x S1 f1 H1 v u1 rs1 r1 h1 => by
  cases x with
  | bl c =>
    simp only [Rp] at r1
    refine ⟨c, r1, ?_⟩
    cases c with
    | false => exact ⟨env, S1, f1, rs1, re.up u1, h1⟩
    | true => exact h1 f1 H1 (.bl true) .refl rs1 (by simp only [Rp])
  | _ => exact h1.elim⟩
theorem q_not (ha : PE X a (tE Γ W ma)) : PE X (.UnaryOp .Not a pos) (tE Γ W (mNot ma)) := PE.imp (pe_not ha) fun σ H Q ⟨env, S, f, rs, re, h⟩ => ⟨env, S, f, rs, re, Wp.bindL h fun x S1 f1 H1 v u1 rs1 r1 h1 => by
  cases x with
  | bl c =>
    simp only [Rp] at r1
    exact ⟨c, r1, h1 f1 H1 (.bl (!c)) .refl rs1 (by simp only [Rp])⟩
  | _ => exact h1.elim⟩
theorem q_ifE (ht : PT X c (tT Γ W mt)) (ha : PE X a (tE Γ W ma)) (hb : PE X b (tE Γ W mb)) : PE X (.IfExp c a b pos) (tE Γ W (mIf mt ma mb)) := PE.imp (pe_ifExp ht ha hb) fun σ H Q ⟨env, S, f, rs, re, h⟩ => ⟨env, S, f, rs, re, Wp.bindL h fun x S1 f1 H1 v u1 rs1 r1 h1 => by
  subst r1
  cases x with
  | true => exact ⟨env, S1, f1, rs1, re.up u1, h1⟩
  | false => exact ⟨env, S1, f1, rs1, re.up u1, h1⟩⟩
/-! ### statements -/
variable {st : Stmt} {sts sts' : List Stmt} {ms mn : MS}
theorem qs_nil : PSs X [] (tS Γ W mNext) := PSs.imp pss_nil fun D σ H ⟨env, S, f, rs, re, h⟩ => h f σ H .refl rs re
theorem qs_cons (h1 : PS X st (tS Γ W ms)) (h2 : PSs X sts (tS Γ W mn)) : PSs X (st :: sts) (tS Γ W (mSeq ms mn)) := PSs.imp (pss_cons h1 h2) fun D σ H ⟨env, S, f, rs, re, h⟩ => ⟨env, S, f, rs, re, by
  have h : WpS Γ W f H D ((ms env S).seq mn) := h
  cases q : ms env S with
  | nx e S1 =>
    rw [q] at h
    exact fun f1 σ1 H1 u1 r1 e1 => ⟨e, S1, f1, r1, e1, WpS.mono u1 h⟩
  | rt d S1 => rw [q] at h; exact h
  | bk e S1 => rw [q] at h; exact h
  | ct e S1 => rw [q] at h; exact h
  | ex C ds e S1 => rw [q] at h; exact h
  | bad => rw [q] at h; exact h⟩
theorem qs_one (h1 : PS X st (tS Γ W ms)) : PSs X [st] (tS Γ W ms) := pss_one h1
theorem qs_ret (ha : PE X a (tE Γ W ma)) : PS X (.Return (some a) pos) (tS Γ W (mRet ma)) := PS.imp (ps_ret ha) fun D σ H ⟨env, S, f, rs, re, h⟩ => ⟨env, S, f, rs, re, WpS.bindL re h fun x S1 f1 H1 v u1 rs1 r1 h1 => h1 f1 H1 v .refl rs1 r1⟩
theorem qs_retN : PS X (.Return none pos) (tS Γ W mRetN) := PS.imp ps_retN fun D σ H ⟨env, S, f, rs, re, h⟩ => h f H .non .refl rs (by simp only [Rp])
theorem qs_expr (ha : PE X a (tE Γ W ma)) (hs : swapsWith a none pos.line X.env = pure false := by rfl) : PS X (.Expr a pos) (tS Γ W (mDrop ma)) := PS.imp (ps_expr ha hs) fun D σ H ⟨env, S, f, rs, re, h⟩ => ⟨env, S, f, rs, re, WpS.bindL re h fun x S1 f1 H1 v u1 rs1 r1 h1 => h1 f1 σ H1 .refl rs1 (re.up u1)⟩
theorem qs_pass : PS X (.Pass pos) (tS Γ W mNext) := PS.imp ps_pass fun D σ H ⟨env, S, f, rs, re, h⟩ => h f σ H .refl rs re
theorem qs_break : PS X (.Break pos) (tS Γ W mBreak) := PS.imp ps_break fun D σ H ⟨env, S, f, rs, re, h⟩ => h f σ H .refl rs re
theorem qs_cont : PS X (.Continue pos) (tS Γ W mCont) := PS.imp ps_continue fun D σ H ⟨env, S, f, rs, re, h⟩ => h f σ H .refl rs re
theorem qs_if (ht : PT X c (tT Γ W mt)) (h1 : PSs X sts (tS Γ W ms)) (h2 : PSs X sts' (tS Γ W mn)) : PS X (.If c sts sts' pos) (tS Γ W (mIfS mt ms mn)) := PS.imp (ps_if ht h1 h2) fun D σ H ⟨env, S, f, rs, re, h⟩ => ⟨env, S, f, rs, re, WpS.bindL re h fun x S1 f1 H1 v u1 rs1 r1 h1 => by
  subst r1
  cases x with
  | true => exact ⟨env, S1, f1, rs1, re.up u1, h1⟩
  | false => exact ⟨env, S1, f1, rs1, re.up u1, h1⟩⟩
theorem qs_set {i : Nat} {x : Str} (hN : X.N.Nodup) (ha : PE X a (tE Γ W ma)) (hi : X.N[i]? = some x := by rfl) (hx : Loc X.env.scope x := by first | exact Or.inl rfl | exact Or.inr rfl) (hs : swapsWith a (some (.Name x pos')) pos.line X.env = pure false := by rfl) (hf : X.fn x = true ∨ X.env.scope.names.lookup x = some .local := by first | exact .inl rfl | exact .inr rfl | assumption) :
    PS X (.Assign [.Name x pos'] a pos) (tS Γ W (mSet i ma)) := PS.imp (ps_set hN hi hx ha hs hf) fun D σ H ⟨env, S, f, rs, re, h⟩ => ⟨env, S, f, rs, re, WpS.bindL re h fun d S1 f1 H1 v u1 rs1 r1 h1 => h1 f1 _ H1 .refl rs1 ((re.up u1).set r1 i)⟩
end
/-- a target -/
def tG (Γ : G) (g : MG) : TG := fun v σ H Q => ∃ (d : D) (env : Env) (S : Store) (f : List Addr), RelS Γ f S H ∧ RelE Γ f H env σ ∧ Rp Γ f H d v ∧ match g d env S with
  | .ok e S' => ∀ f' σ' H', Up Γ f H f' H' → RelS Γ f' S' H' → RelE Γ f' H' e σ' → Q σ' H'
  | _ => False
def tGs (Γ : G) (g : MGs) : TGs := fun vs σ H Q => ∃ (ds : List D) (env : Env) (S : Store) (f : List Addr), RelS Γ f S H ∧ RelE Γ f H env σ ∧ RpL Γ f H ds vs ∧ match g ds env S with
  | .ok e S' => ∀ f' σ' H', Up Γ f H f' H' → RelS Γ f' S' H' → RelE Γ f' H' e σ' → Q σ' H'
  | _ => False
theorem PG.imp {X : Cx} {e : Expr} {t t' : TG} (h : PG X e t) (i : ∀ v σ H Q, t' v σ H Q → t v σ H Q) : PG X e t' := ⟨fun pins s σ H v u Q I r q => h.run pins s σ H v u Q I r (i v σ H Q q)⟩
theorem PGs.imp {X : Cx} {e : List Expr} {t t' : TGs} (h : PGs X e t) (i : ∀ v σ H Q, t' v σ H Q → t v σ H Q) : PGs X e t' := ⟨fun pins s σ H v u Q I r q => h.run pins s σ H v u Q I r (i v σ H Q q)⟩
section
variable {Γ : G} {W : WX} {X : Cx} {a : Expr} {es : List Expr} {ma : ME} {g : MG} {gs : MGs} {pos pos' : Pos}
theorem qg_name {i : Nat} {x : Str} (hN : X.N.Nodup) (hi : X.N[i]? = some x := by rfl) (hx : Loc X.env.scope x := by first | exact Or.inl rfl | exact Or.inr rfl) (hf : X.fn x = true ∨ X.env.scope.names.lookup x = some .local := by first | exact .inl rfl | exact .inr rfl | assumption) : PG X (.Name x pos) (tG Γ (gSet i)) :=
  PG.imp (pg_name hN hi hx hf) fun v σ H Q ⟨d, env, S, f, rs, re, r, h⟩ => h f _ H .refl rs (re.set r i)
theorem qgs_nil : PGs X [] (tGs Γ gNil') := PGs.imp pgs_nil fun vs σ H Q ⟨ds, env, S, f, rs, re, r, h⟩ => by
  cases ds with
  | nil => simp only [RpL] at r; exact ⟨r, h f σ H .refl rs re⟩
  | cons d ds => exact h.elim
theorem qgs_cons (h1 : PG X a (tG Γ g)) (h2 : PGs X es (tGs Γ gs)) (hs : (assignEach (a :: es) X.env).map (·.2) = assign a X.env :: (assignEach es X.env).map (·.2) := by rfl) : PGs X (a :: es) (tGs Γ (gCons' g gs)) := PGs.imp (pgs_cons h1 h2 hs) fun vs σ H Q ⟨ds, env, S, f, rs, re, r, h⟩ => by
  cases ds with
  | nil => exact h.elim
  | cons d ds =>
    simp only [RpL] at r
    obtain ⟨v, vr, e, r1, r2⟩ := r
    refine ⟨v, vr, e, d, env, S, f, rs, re, r1, ?_⟩
    have h : (match (g d env S).bind fun e S1 => gs ds e S1 with
      | .ok e S' => ∀ f' σ' H', Up Γ f H f' H' → RelS Γ f' S' H' → RelE Γ f' H' e σ' → Q σ' H'
      | _ => False) := h
    cases q : g d env S with
    | ok e1 S1 =>
      rw [q] at h
      intro f1 σ1 H1 u1 rs1 re1
      refine ⟨ds, e1, S1, f1, rs1, re1, r2.up u1, ?_⟩
      have h : (match gs ds e1 S1 with
        | .ok e S' => ∀ f' σ' H', Up Γ f H f' H' → RelS Γ f' S' H' → RelE Γ f' H' e σ' → Q σ' H'
        | _ => False) := h
      revert h
      cases gs ds e1 S1 with
      | ok e2 S2 => exact fun h f2 σ2 H2 u2 => h f2 σ2 H2 (u1.trans u2)
      | _ => exact fun h => h
    | _ => rw [q] at h; exact h
theorem qg_tup {k n : Nat} (hK : X.K = Γ.K) (hc : X.calm = true) (h : PGs X es (tGs Γ gs)) (hn : (assignEach es X.env).length = n := by rfl) (hst : (assignEach es X.env).findIdx? (·.1) = none := by rfl) : PG X (.Tuple es k pos) (tG Γ (gUnpack n gs)) := PG.imp (pg_tup hc h hn hst) fun v σ H Q ⟨d, env, S, f, rs, re, r, h⟩ => by
  cases d with
  | tup ds =>
    simp only [Rp] at r
    obtain ⟨a, vs, e, s, r⟩ := r
    have h : (match (if ds.length = n then gs ds env S else .bad) with
      | .ok e S' => ∀ f' σ' H', Up Γ f H f' H' → RelS Γ f' S' H' → RelE Γ f' H' e σ' → Q σ' H'
      | _ => False) := h
    by_cases hl : ds.length = n
    · rw [if_pos hl] at h
      exact ⟨a, vs, e, by rw [hK]; exact s, by rw [← r.length]; exact hl, ds, env, S, f, rs, re, r, h⟩
    · rw [if_neg hl] at h
      exact h.elim
  | _ => exact h.elim
theorem qs_asg {t : Expr} (ha : PE X a (tE Γ W ma)) (hg : PG X t (tG Γ g)) (hs : swapsWithSole [t] a pos.line X.env = pure false := by rfl) (hw : swappedStores [t] a X.env = pure none := by rfl) (h1 : (assignEach [t] X.env).map (·.2) = [assign t X.env] := by rfl) :
    PS X (.Assign [t] a pos) (tS Γ W (mAsg ma g)) := PS.imp (ps_asg ha hg hs hw h1) fun D σ H ⟨env, S, f, rs, re, h⟩ => ⟨env, S, f, rs, re, WpS.bindL re h fun d S1 f1 H1 v u1 rs1 r1 h1 => by
  refine ⟨d, env, S1, f1, rs1, re.up u1, r1, ?_⟩
  have h1 : WpS Γ W f1 H1 D (g d env S1).nxt := h1
  cases q : g d env S1 with
  | ok e S2 => rw [q] at h1; exact h1
  | ex C ds S2 => rw [q] at h1; exact h1
  | bad => rw [q] at h1; exact h1⟩
end
end Lk

set_option Elab.async false
set_option linter.all false
set_option autoImplicit false
set_option maxRecDepth 100000
set_option maxHeartbeats 2000000
namespace Lk
open PySem PySem.Spec PyProof.Rows L2

/-- behind a call: what it made and did not hand back is forgotten -/
noncomputable def gc (S : Store) (d : D) (S1 : Store) : R D := open Classical in if d.cl S.length = true ∧ S1.take S.length = S then .ok d S else .ok d S1
noncomputable def gcX (S : Store) (C : Str) (ds : List D) (S1 : Store) : R D := open Classical in if clL S.length ds = true ∧ S1.take S.length = S then .ex C ds S else .ex C ds S1
/-- a def's mirror, from its body's -/
noncomputable def mDef (n : Nat) (m : MS) : List D → Store → R D := fun ds S => match m (ds.map some ++ List.replicate (n - ds.length) none) S with
  | .nx _ S' => gc S .non S'
  | .rt d S' => gc S d S'
  | .ex C xs _ S' => gcX S C xs S'
  | _ => .bad
theorem gc_ok {S : Store} {d : D} {T : Store} (h : d.cl S.length = true) : gc S d (S ++ T) = .ok d S := if_pos ⟨h, by simp⟩
theorem gc_self {S : Store} {d : D} : gc S d S = .ok d S := by
  unfold gc
  split <;> rfl
theorem gcX_ok {S : Store} {C : Str} {d : List D} {T : Store} (h : clL S.length d = true) : gcX S C d (S ++ T) = .ex C d S := if_pos ⟨h, by simp⟩
theorem gcX_self {S : Store} {C : Str} {d : List D} : gcX S C d S = .ex C d S := by
  unfold gcX
  split <;> rfl
/-- a def's promise -/
def spOf (Γ : G) (n : Nat) (m : List D → Store → R D) : Sp := fun vs H Q E => vs.length = n ∧ ∃ f S ds, RelS Γ f S H ∧ RpL Γ f H ds vs ∧ Wp Γ (fun c o _ H => E c o H) [] f H (Rp Γ) Q (m ds S)
def WF (E : XK) : WX := fun c o _ H => E c o H
section
variable {Γ : G} {f : List Addr} {H : Hp} {S : Store}
theorem Wp.gc {W : WX} {σ : L2.St} {Q : VK} {d : D} {S1 : Store} (rs : RelS Γ f S H) (h : Wp Γ W σ f H (Rp Γ) Q (gc S d S1)) : Wp Γ W σ f H (Rp Γ) Q (.ok d S1) := by
  unfold Lk.gc at h
  split at h
  · rename_i c
    intro f' H' b u r1 p
    obtain ⟨⟨t, e⟩, k⟩ := u
    subst e
    exact h f H' b ⟨⟨[], by simp⟩, k⟩ (rs.cut r1 c.2) (p.cut (by rw [rs.len]; exact c.1))
  · exact h
theorem Wp.gcX {W : WX} {σ : L2.St} {Q : VK} {C : Str} {ds : List D} {S1 : Store} (rs : RelS Γ f S H) (h : Wp Γ W σ f H (Rp Γ) Q (gcX S C ds S1)) : Wp Γ W σ f H (Rp Γ) Q (.ex C ds S1) := by
  unfold Lk.gcX at h
  split at h
  · rename_i c
    intro f' H' b u r1 p
    obtain ⟨⟨t, e⟩, k⟩ := u
    subst e
    exact h f H' b ⟨⟨[], by simp⟩, k⟩ (rs.cut r1 c.2) (p.cut (by rw [rs.len]; exact c.1))
  · exact h
theorem start_rel {N : List Str} (hx : Γ.xc = none) : ∀ {ds : List D} {vs : List V}, RpL Γ f H ds vs → RelE Γ f H (ds.map some ++ List.replicate (N.length - ds.length) none) (L2.start N vs) := fun {ds vs} r => by
  have hl := r.length
  refine ⟨?_, fun i d e => ?_, fun a i C ds o e => by
    rw [hx] at e
    cases e⟩
  · unfold L2.start
    rw [List.length_append, List.length_append, List.length_map, List.length_map, List.length_replicate, List.length_replicate, hl]
  · have key : ∀ {ds : List D} {vs : List V} {i : Nat} {d : D}, RpL Γ f H ds vs → ds[i]? = some d → ∃ v, vs[i]? = some v ∧ Rp Γ f H d v := by
      intro ds
      induction ds with
      | nil => intro vs i d _ e; simp at e
      | cons x xs ih =>
        intro vs i d r e
        simp only [RpL] at r
        obtain ⟨v, vr, ev, r1, r2⟩ := r
        subst ev
        cases i with
        | zero => simp at e; subst e; exact ⟨v, rfl, r1⟩
        | succ i =>
          obtain ⟨u, h1, h2⟩ := ih (i := i) r2 (by simpa using e)
          exact ⟨u, by simpa using h1, h2⟩
    by_cases hi : i < ds.length
    · rw [List.getElem?_append_left (by rw [List.length_map]; exact hi), List.getElem?_map] at e
      cases q : ds[i]? with
      | none => rw [q] at e; cases e
      | some x =>
        rw [q] at e
        have e' : x = d := by simpa using e
        subst e'
        obtain ⟨v, h1, h2⟩ := key r q
        refine ⟨v, ?_, h2⟩
        unfold L2.start
        rw [List.getElem?_append_left (by rw [List.length_map, ← hl]; exact hi), List.getElem?_map, h1]
        rfl
    · rw [List.getElem?_append_right (by rw [List.length_map]; omega), List.getElem?_replicate] at e
      split at e <;> cases e
theorem def_core (hx : Γ.xc = none) {E : XK} {Q : VK} {m : MS} {n : Nat} {N : List Str} {vs : List V} (hn : N.length = n) {k : Nat} (h : spOf Γ k (mDef n m) vs H Q E) : tS Γ (WF E) m { nx := fun _ H' => Q .non H', rt := Q } (L2.start N vs) H := by
  obtain ⟨_, f, S, ds, rs, r, h⟩ := h
  subst hn
  refine ⟨_, S, f, rs, start_rel hx r, ?_⟩
  unfold mDef at h
  revert h
  cases m (ds.map some ++ List.replicate (N.length - ds.length) none) S with
  | nx e S' => exact fun h f' σ' H' u r _ => Wp.gc rs h f' H' .non u r (by simp only [Rp])
  | rt d S' => exact fun h => Wp.gc rs h
  | ex C xs e S' => exact fun h f' σ' H' o u r _ x => Wp.gcX rs h f' H' o u r x
  | bk e S' => exact fun h => h.elim
  | ct e S' => exact fun h => h.elim
  | bad => exact fun h => h.elim
end
section
variable {Γ : G} {P : Program} {w : World} {mg : Str → Option Value} {base : Heap}
/-- a def keeps its mirror's promise, by its body's term -/
theorem ok_def (hx : Γ.xc = none) {x qual : Str} {params : Arguments} {body : List Stmt} {scope : Scope} {kws : List (Str × V)} {f : Addr} {fd : FuncData} {N ps : List Str} {k n : Nat} {m : MS} (F : FunD Γ.K x qual params body scope [] kws f fd) (Sc : FnScope N ps scope) (hn : N.length = n)
    (hbody : ∀ (cdv : Value) (A : Around) (outer : List PySem.Env) (s : Shared) (H : Hp) (E : XK), Room k (A.deeper (envOfC qual scope s.heap.objs.size f cdv)) → PSs (cxOf (L2.CX P w) P w Γ.K mg base N qual scope f cdv A outer s H E) body (tS Γ (WF E) m)) :
    FnOk P w Γ.K mg base (L2.CX P w) (k + 1) f fd ps (spOf Γ ps.length (mDef n m)) :=
  FunD.ok F Sc (fun vs H Q E h => h.1) fun cdv A outer s H vs Q E hr h => ⟨_, hbody cdv A outer s H E hr, def_core hx hn h⟩
end
/-! ### calls -/
def mCall (n : Nat) (m : List D → Store → R D) (a : MA) : ME := fun env S => (a env S).bind fun ds S1 => if ds.length = n then m ds S1 else .bad
section
variable {Γ : G} {W : WX} {X : Cx} {f : List Addr} {H : Hp} {S : Store} {a o : Expr} {es : List Expr} {ma : ME} {mr : MA} {p pos apos : Pos} {x : Str} {fA : Addr} {fd : FuncData} {ps : List Str} {k n : Nat} {m : List D → Store → R D}
theorem Wp.spOf {σ : L2.St} {Q : VK} {xs : List D} {vs : List V} (rs : RelS Γ f S H) (r : RpL Γ f H xs vs) (h : Wp Γ W σ f H (Rp Γ) Q (if xs.length = n then m xs S else .bad)) : spOf Γ n m vs H Q (WE W σ) := by
  by_cases hl : xs.length = n
  · rw [if_pos hl] at h
    refine ⟨by rw [← r.length]; exact hl, f, S, xs, rs, r, ?_⟩
    revert h
    cases m xs S with
    | ok d S' => exact fun h => h
    | ex C ds S' => exact fun h => h
    | bad => exact fun h => h
  · rw [if_neg hl] at h
    exact h.elim
theorem q_call (F : FnOk X.prog X.w X.K X.mg X.base (L2.CX X.prog X.w) k fA fd ps (spOf Γ n m)) (hr : Room k X.A) (hm : X.mg x = some (.ref fA)) (hk : PySem.W.keepIn X.K (.ref fA) = true) (hb : Binds X.K fd ps []) (tk : Takes X W) (ha : PA X (a :: es) (tA Γ W mr)) (hg : Gl X x := by rfl)
    (hdb : (x == ("__debug__" : Str)) = false := by decide) (he : starEach (a :: es) X.env = (false, eval a X.env) :: starEach es X.env := by rfl) (hpl : (backTo pos (starEach es X.env)).any (·.1) = false := by rfl) :
    PE X (.Call (.Name x p) (a :: es) [] pos) (tE Γ W (mCall n m mr)) := PE.imp (pe_callS F hr hg hm hk hb (fun σ => passAt tk σ) ha hdb he hpl) fun σ H Q ⟨env, S, f, rs, re, h⟩ => ⟨env, S, f, rs, re, Wp.bindL h fun xs S1 f1 H1 vs u1 rs1 r1 h1 => Wp.spOf rs1 r1 h1⟩
theorem passNo {X : Cx} {W : WX} (tk : Takes X W) {E : XK} (hE : ∀ c o σ H, E c o H → W c o σ H) : Passes (L2.CX X.prog X.w) X E := fun _ σ _ _ e s' I c => tk e s' (XE.of_call I (fun cls d H' h => hE cls d σ H' h) c)
end
end Lk

set_option Elab.async false
set_option linter.all false
set_option autoImplicit false
set_option maxRecDepth 100000
set_option maxHeartbeats 2000000
namespace Lk
open PySem PySem.Spec PyProof.Rows L2

/-! ### what a loop goes over: the items, and what must stand meanwhile -/
structure Src where
  items : List D
  gd : Store → Prop
def vals (xs : List D) : Src := ⟨xs, fun _ => True⟩
def lstAt (n : Nat) (xs : List D) : Src := ⟨xs, fun S => S[n]? = some (.lst xs)⟩
abbrev MI := Env → Store → R Src
/-- an iterator J yields these -/
structure Serves (Γ : G) (J : It) (ok : List Addr → Store → Hp → Prop) (items : List D) : Prop where
  go : ∀ (f : List Addr) (S : Store) (H : Hp) (i : Nat) (d : D), RelS Γ f S H → ok f S H → items[i]? = some d → J.go i H ∧ ∀ x H', J.yld i H x H' → Up Γ f H f H' ∧ RelS Γ f S H' ∧ Rp Γ f H' d x
  stop : ∀ (f : List Addr) (S : Store) (H : Hp), RelS Γ f S H → ok f S H → J.stop items.length H
def Sv (Γ : G) (f : List Addr) (H0 : Hp) (s : Src) (J : It) : Prop := Serves Γ J (fun f' S H => s.gd S ∧ Up Γ f H0 f' H) s.items
def tI (Γ : G) (W : WX) (m : MI) : TI := fun σ H R => ∃ env S f, RelS Γ f S H ∧ RelE Γ f H env σ ∧ Wp Γ W σ f H (Sv Γ) R (m env S)
/-! ### for -/
noncomputable def forGo (gd : Store → Prop) (g : MG) (mb : MS) : List D → Env → Store → RS
  | [], env, S => open Classical in if gd S then .nx env S else .bad
  | d :: ds, env, S => open Classical in if gd S then (match g d env S with
    | .ok e1 S1 => (match mb e1 S1 with
      | .nx e2 S2 => forGo gd g mb ds e2 S2
      | .ct e2 S2 => forGo gd g mb ds e2 S2
      | .bk e2 S2 => .nx e2 S2
      | r => r)
    | _ => .bad) else .bad
noncomputable def mFor (mi : MI) (g : MG) (mb : MS) : MS := fun env S => (mi env S).bindS env fun s S1 => forGo s.gd g mb s.items env S1
section
variable {Γ : G} {W : WX} {X : Cx} {f : List Addr} {H : Hp} {S : Store}
theorem for_core {J : It} {ok : List Addr → Store → Hp → Prop} {s : Src} {g : MG} {mb : MS} {D₀ : Ends} {env : Env} {σ : L2.St} (sv : Sv Γ f H s J) (rs : RelS Γ f S H) (re : RelE Γ f H env σ) (h : WpS Γ W f H D₀ (forGo s.gd g mb s.items env S)) :
    ∃ Wv : Nat → Nat → L2.St → Hp → Prop, (∃ m, Wv 0 m σ H) ∧ ∀ i m σ H, Wv i m σ H →
      (J.stop i H ∧ D₀.nx σ H) ∨ (J.go i H ∧ ∃ N : L2.St → Hp → Prop, (∀ σ' H', N σ' H' → ∃ m', m' < m ∧ Wv (i + 1) m' σ' H') ∧ ∀ x H', J.yld i H x H' → tG Γ g x σ H' fun σ2 H2 => tS Γ W mb { D₀ with nx := N, ct := N, bk := D₀.nx } σ2 H2) := by
  refine ⟨fun i m σ' H' => i ≤ s.items.length ∧ m = s.items.length - i ∧ ∃ env' S' f', RelS Γ f' S' H' ∧ RelE Γ f' H' env' σ' ∧ Up Γ f H f' H' ∧ WpS Γ W f' H' D₀ (forGo s.gd g mb (s.items.drop i) env' S'),
    ⟨_, Nat.zero_le _, rfl, env, S, f, rs, re, .refl, h⟩, ?_⟩
  rintro i m σ1 H1 ⟨hi, hm, env1, S1, f1, rs1, re1, u1, h1⟩
  cases hd : s.items.drop i with
  | nil =>
    rw [hd] at h1
    unfold forGo at h1
    split at h1
    · rename_i gd
      have e : i = s.items.length := by
        have := List.drop_eq_nil_iff.mp hd
        omega
      refine .inl ⟨?_, h1 f1 σ1 H1 .refl rs1 re1⟩
      rw [e]
      exact sv.stop f1 S1 H1 rs1 ⟨gd, u1⟩
    · exact h1.elim
  | cons d ds =>
    rw [hd] at h1
    have hlt : i < s.items.length := by
      have := congrArg List.length hd
      rw [List.length_drop, List.length_cons] at this
      omega
    have hdd : s.items[i]? = some d ∧ s.items.drop (i + 1) = ds := by
      rw [List.drop_eq_getElem_cons hlt] at hd
      injection hd with e1 e2
      exact ⟨by rw [List.getElem?_eq_getElem hlt, e1], e2⟩
    unfold forGo at h1
    split at h1
    · rename_i gd
      obtain ⟨jg, jy⟩ := sv.go f1 S1 H1 i d rs1 ⟨gd, u1⟩ hdd.1
      refine .inr ⟨jg, fun σ' H' => i + 1 ≤ s.items.length ∧ ∃ env' S' f', RelS Γ f' S' H' ∧ RelE Γ f' H' env' σ' ∧ Up Γ f H f' H' ∧ WpS Γ W f' H' D₀ (forGo s.gd g mb (s.items.drop (i + 1)) env' S'), ?_, ?_⟩
      · rintro σ' H' ⟨h1, h2⟩
        exact ⟨_, by rw [hm]; omega, h1, rfl, h2⟩
      · intro x H' hy
        obtain ⟨u2, rs2, rp⟩ := jy x H' hy
        refine ⟨d, env1, S1, f1, rs2, re1.up u2, rp, ?_⟩
        revert h1
        cases g d env1 S1 with
        | ok e2 S2 =>
          intro h1 f3 σ3 H3 u3 rs3 re3
          have uu := u2.trans u3
          refine ⟨e2, S2, f3, rs3, re3, ?_⟩
          rw [hdd.2]
          revert h1
          dsimp only
          cases mb e2 S2 with
          | nx e4 S4 => exact fun h1 f5 σ5 H5 u5 rs5 re5 => ⟨hlt, e4, S4, f5, rs5, re5, (u1.trans uu).trans u5, WpS.mono (uu.trans u5) h1⟩
          | ct e4 S4 => exact fun h1 f5 σ5 H5 u5 rs5 re5 => ⟨hlt, e4, S4, f5, rs5, re5, (u1.trans uu).trans u5, WpS.mono (uu.trans u5) h1⟩
          | bk e4 S4 => exact fun h1 => WpS.mono (D := D₀) uu h1
          | rt d4 S4 => exact fun h1 => WpS.mono (D := D₀) uu h1
          | ex C4 d4 e4 S4 => exact fun h1 => WpS.mono (D := D₀) uu h1
          | bad => exact fun h1 => h1
        | ex C4 d4 S4 => exact fun h1 => h1.elim
        | bad => exact fun h1 => h1.elim
    · exact h1.elim
theorem qs_for {iter tg : Expr} {body : List Stmt} {mi : MI} {g : MG} {mb : MS} {pos : Pos} (hp : PassesOwn (model X.prog X.w) X.A X.env X.xe) (hc : X.calm = true) (hi : PI X tg iter (tI Γ W mi)) (hg : PG X tg (tG Γ g)) (hb : PSs X body (tS Γ W mb))
    (hs : ∀ x, foldedSetIterable iter X.env x = pure x := by intro _; rfl) : PS X (.For tg iter body [] pos) (tS Γ W (mFor mi g mb)) := PS.imp (ps_for hp hc hi hg hb hs) fun D σ H ⟨env, S, f, rs, re, h⟩ =>
  ⟨env, S, f, rs, re, WpS.bindL re h fun s S1 f1 H1 J u1 rs1 sv h1 => for_core (ok := fun _ _ _ => True) sv rs1 (re.up u1) h1⟩
/-! ### what is gone over -/
theorem PI.imp {tg e : Expr} {t t' : TI} (h : PI X tg e t) (i : ∀ σ H R, t' σ H R → t σ H R) : PI X tg e t' := ⟨fun pins s σ H R I q => h.run pins s σ H R I (i σ H R q)⟩
theorem PI.or {tg e : Expr} {t t' : TI} (h : PI X tg e t) (h' : PI X tg e t') : PI X tg e (fun σ H R => t σ H R ∨ t' σ H R) := ⟨fun pins s σ H R I q => q.elim (h.run pins s σ H R I) (h'.run pins s σ H R I)⟩
def srcOf (d : D) (S : Store) : R Src := match d with
  | .tup xs => .ok (vals xs) S
  | .rol xs => .ok (vals xs) S
  | .ref n => (match S[n]? with
    | some (.lst xs) => .ok (lstAt n xs) S
    | _ => .bad)
  | _ => .bad
def iSeq (m : ME) : MI := fun env S => (m env S).bind srcOf
theorem RpL.get : ∀ {ds : List D} {vs : List V} {i : Nat} {d : D}, RpL Γ f H ds vs → ds[i]? = some d → ∃ v, vs[i]? = some v ∧ Rp Γ f H d v
  | [], _, _, _, _, e => by simp at e
  | x :: xs, _, i, d, r, e => by
    simp only [RpL] at r
    obtain ⟨v, vr, ev, r1, r2⟩ := r
    subst ev
    cases i with
    | zero =>
      have e' : x = d := by simpa using e
      subst e'
      exact ⟨v, rfl, r1⟩
    | succ i =>
      obtain ⟨u, h1, h2⟩ := RpL.get (i := i) r2 (by simpa using e)
      exact ⟨u, by simpa using h1, h2⟩
theorem sv_tup {a : Addr} {vs : List V} {ds : List D} (h : SqT Γ.K H a vs) (r : RpL Γ f H ds vs) : Sv Γ f H (vals ds) (Itt Γ.K a) where
  go := fun f1 S H1 i d rs ok e => by
    obtain ⟨v, h1, h2⟩ := RpL.get (r.up ok.2) e
    have q := ok.2.keep.sqT h
    refine ⟨⟨vs, v, q, h1⟩, fun x H' hy => ?_⟩
    obtain ⟨eH, hx⟩ := hy
    subst eH
    have e2 := hx vs q
    rw [h1] at e2
    cases e2
    exact ⟨.refl, rs, h2⟩
  stop := fun f1 S H1 rs ok => ⟨vs, ok.2.keep.sqT h, by rw [← r.length]; exact Nat.le_refl _⟩
theorem sv_rol {a : Addr} {vs : List V} {ds : List D} (h : SqR Γ.K H a vs) (r : RpL Γ f H ds vs) : Sv Γ f H (vals ds) (Itl Γ.K a) where
  go := fun f1 S H1 i d rs ok e => by
    obtain ⟨v, h1, h2⟩ := RpL.get (r.up ok.2) e
    have q := (ok.2.keep.sqR h).1
    refine ⟨⟨vs, v, q, h1⟩, fun x H' hy => ?_⟩
    obtain ⟨eH, hx⟩ := hy
    subst eH
    have e2 := hx vs q
    rw [h1] at e2
    cases e2
    exact ⟨.refl, rs, h2⟩
  stop := fun f1 S H1 rs ok => ⟨vs, (ok.2.keep.sqR h).1, by rw [← r.length]; exact Nat.le_refl _⟩
theorem sv_lst {a : Addr} {n : Nat} {ds : List D} (ha : f[n]? = some a) : Sv Γ f H (lstAt n ds) (Itl Γ.K a) where
  go := fun f1 S H1 i d rs ok e => by
    obtain ⟨b, hb, vs, h0, r⟩ := rs.ob n _ ok.1
    rw [ok.2.at ha] at hb
    cases hb
    obtain ⟨v, h1, h2⟩ := RpL.get r e
    refine ⟨⟨vs, v, SqL.of h0, h1⟩, fun x H' hy => ?_⟩
    obtain ⟨eH, hx⟩ := hy
    subst eH
    have e2 := hx vs (SqL.of h0)
    rw [h1] at e2
    cases e2
    exact ⟨.refl, rs, h2⟩
  stop := fun f1 S H1 rs ok => by
    obtain ⟨b, hb, vs, h0, r⟩ := rs.ob n _ ok.1
    rw [ok.2.at ha] at hb
    cases hb
    exact ⟨vs, SqL.of h0, by rw [← r.length]; exact Nat.le_refl _⟩
theorem qi_seq {tg e : Expr} {m : ME} (hK : X.K = Γ.K) (h : PE X e (tE Γ W m)) : PI X tg e (tI Γ W (iSeq m)) := PI.imp (PI.or (pi_list h) (pi_tup h)) fun σ H R ⟨env, S, f, rs, re, h⟩ => by
  have h0 := h
  unfold iSeq at h
  cases q : m env S with
  | ok d S1 =>
    rw [q] at h
    cases d with
    | tup ds =>
      refine .inr ⟨env, S, f, rs, re, ?_⟩
      rw [q]
      intro f1 H1 v u1 rs1 r1
      simp only [Rp] at r1
      obtain ⟨a, vs, e, hs, r⟩ := r1
      rw [hK]
      exact ⟨a, e, ⟨vs, hs⟩, h f1 H1 _ u1 rs1 (sv_tup hs r)⟩
    | rol ds =>
      refine .inl ⟨env, S, f, rs, re, ?_⟩
      rw [q]
      intro f1 H1 v u1 rs1 r1
      simp only [Rp] at r1
      obtain ⟨a, vs, e, hs, r⟩ := r1
      rw [hK]
      exact ⟨a, e, ⟨vs, hs.1⟩, h f1 H1 _ u1 rs1 (sv_rol hs r)⟩
    | ref n =>
      refine .inl ⟨env, S, f, rs, re, ?_⟩
      rw [q]
      intro f1 H1 v u1 rs1 r1
      simp only [Rp] at r1
      obtain ⟨a, ha, e⟩ := r1
      have h : Wp Γ W σ f H (Sv Γ) R (match S1[n]? with
        | some (.lst xs) => .ok (lstAt n xs) S1
        | _ => .bad) := h
      split at h
      · rename_i xs hn
        obtain ⟨b, hb, vs, hh, r⟩ := rs1.ob n _ hn
        rw [ha] at hb
        cases hb
        rw [hK]
        exact ⟨a, e, ⟨vs, SqL.of hh⟩, h f1 H1 _ u1 rs1 (sv_lst ha)⟩
      · exact h.elim
    | _ => exact h.elim
  | ex C ds S1 =>
    refine .inl ⟨env, S, f, rs, re, ?_⟩
    rw [q] at h ⊢
    exact h
  | bad => rw [q] at h; exact h.elim
/-! ### ranges -/
def rngI (lo : Int) (n : Nat) : List D := (List.range n).map fun (i : Nat) => D.int (lo + i)
def bd (j : Int) : Prop := -(2 ^ 62) ≤ j ∧ j < 2 ^ 62
instance (j : Int) : Decidable (bd j) := inferInstanceAs (Decidable (_ ∧ _))
def iRng1' (m : MA) : MI := fun env S => (m env S).bind fun ds S1 => match ds with
  | [.int j] => if bd j then .ok (vals (rngI 0 j.toNat)) S1 else .bad
  | _ => .bad
def iRng2' (m : MA) : MI := fun env S => (m env S).bind fun ds S1 => match ds with
  | [.int i, .int j] => if bd i ∧ bd j then .ok (vals (rngI i (j - i).toNat)) S1 else .bad
  | _ => .bad
theorem sv_rng {lo : Int} {n : Nat} : Sv Γ f H (vals (rngI lo n)) (Itr lo n) where
  go := fun f1 S H1 i d rs ok e => by
    have e : (rngI lo n)[i]? = some d := e
    unfold rngI at e
    rw [List.getElem?_map] at e
    by_cases hi : i < n
    · rw [List.getElem?_range hi] at e
      cases e
      refine ⟨hi, fun x H' hy => ?_⟩
      obtain ⟨eH, hx⟩ := hy
      subst eH
      subst hx
      exact ⟨.refl, rs, by simp only [Rp]⟩
    · rw [List.getElem?_eq_none (by simpa using hi)] at e
      cases e
  stop := fun f1 S H1 rs ok => by
    show n ≤ (rngI lo n).length
    unfold rngI
    simp
theorem RpL.one {d : D} {vs : List V} (h : RpL Γ f H [d] vs) : ∃ v, vs = [v] ∧ Rp Γ f H d v := by
  simp only [RpL] at h
  obtain ⟨v, r, e, h1, h2⟩ := h
  subst h2
  exact ⟨v, e, h1⟩
theorem RpL.two {d e : D} {vs : List V} (h : RpL Γ f H [d, e] vs) : ∃ v u, vs = [v, u] ∧ Rp Γ f H d v ∧ Rp Γ f H e u := by
  simp only [RpL] at h
  obtain ⟨v, r, ev, h1, u, r2, eu, h2, h3⟩ := h
  subst h3
  subst eu
  exact ⟨v, u, ev, h1, h2⟩
theorem qi_rng1 {tg a : Expr} {mr : MA} {p pos : Pos} (hm : X.mg "range" = none) (ha : PA X [a] (tA Γ W mr)) (hg : Gl X "range" := by rfl) (hs : starEach [a] X.env = [(false, eval a X.env)] := by rfl) : PI X tg (.Call (.Name "range" p) [a] [] pos) (tI Γ W (iRng1' mr)) := PI.imp (pi_range1 hg hm ha hs) fun σ H R ⟨env, S, f, rs, re, h⟩ =>
  ⟨env, S, f, rs, re, Wp.bindL h fun ds S1 f1 H1 vs u1 rs1 r1 h1 => by
    revert h1
    split
    · rename_i j
      intro h1
      obtain ⟨v, e, rv⟩ := r1.one
      simp only [Rp] at rv
      subst rv
      split at h1
      · rename_i b
        exact ⟨j, e, b.1, b.2, h1 f1 H1 _ .refl rs1 sv_rng⟩
      · exact h1.elim
    · exact fun h => h.elim⟩
theorem qi_rng2 {tg a b : Expr} {mr : MA} {p pos : Pos} (hm : X.mg "range" = none) (ha : PA X [a, b] (tA Γ W mr)) (hg : Gl X "range" := by rfl) (hs : starEach [a, b] X.env = [(false, eval a X.env), (false, eval b X.env)] := by rfl) (hs2 : starEach [b] X.env = [(false, eval b X.env)] := by rfl) :
    PI X tg (.Call (.Name "range" p) [a, b] [] pos) (tI Γ W (iRng2' mr)) := PI.imp (pi_range2 hg hm ha hs hs2) fun σ H R ⟨env, S, f, rs, re, h⟩ =>
  ⟨env, S, f, rs, re, Wp.bindL h fun ds S1 f1 H1 vs u1 rs1 r1 h1 => by
    revert h1
    split
    · rename_i i j
      intro h1
      obtain ⟨v, u, e, rv, ru⟩ := r1.two
      simp only [Rp] at rv ru
      subst rv
      subst ru
      split at h1
      · rename_i b
        exact ⟨i, j, e, ⟨b.1.1, b.1.2, b.2.1, b.2.2⟩, h1 f1 H1 _ .refl rs1 sv_rng⟩
      · exact h1.elim
    · exact fun h => h.elim⟩
end
/-! ### while: so many turns at most -/
def whileGo (t : MT) (mb : MS) : Nat → Env → Store → RS
  | 0, _, _ => .bad
  | n + 1, env, S => match t env S with
    | .ok true S1 => (match mb env S1 with
      | .nx e2 S2 => whileGo t mb n e2 S2
      | .ct e2 S2 => whileGo t mb n e2 S2
      | .bk e2 S2 => .nx e2 S2
      | r => r)
    | .ok false S1 => .nx env S1
    | .ex C ds S1 => .ex C ds env S1
    | .bad => .bad
def mWhile (n : Nat) (t : MT) (mb : MS) : MS := fun env S => whileGo t mb n env S
section
variable {Γ : G} {W : WX} {X : Cx} {f : List Addr} {H : Hp} {S : Store}
theorem qs_while {c : Expr} {body : List Stmt} {t : MT} {mb : MS} {pos : Pos} (n : Nat) (hp : PassesOwn (model X.prog X.w) X.A X.env X.xe) (hc : PT X c (tT Γ W t)) (hb : PSs X body (tS Γ W mb)) : PS X (.While c body [] pos) (tS Γ W (mWhile n t mb)) := PS.imp (ps_while hp hc hb) fun D σ H ⟨env, S, f, rs, re, h⟩ => by
  refine ⟨fun m σ' H' => ∃ env' S' f', RelS Γ f' S' H' ∧ RelE Γ f' H' env' σ' ∧ WpS Γ W f' H' D (whileGo t mb m env' S'), ⟨n, env, S, f, rs, re, h⟩, ?_⟩
  rintro m σ1 H1 ⟨env1, S1, f1, rs1, re1, h1⟩
  cases m with
  | zero => exact h1.elim
  | succ m =>
    refine ⟨env1, S1, f1, rs1, re1, ?_⟩
    unfold whileGo at h1
    revert h1
    cases t env1 S1 with
    | ok b S2 =>
      cases b with
      | true =>
        intro h1 f3 H3 b u3 rs3 eb
        subst eb
        refine ⟨fun σ' H' => ∃ env' S' f', RelS Γ f' S' H' ∧ RelE Γ f' H' env' σ' ∧ WpS Γ W f' H' D (whileGo t mb m env' S'), fun σ' H' q => ⟨m, Nat.lt_succ_self m, q⟩, ?_⟩
        refine ⟨env1, S2, f3, rs3, re1.up u3, ?_⟩
        revert h1
        dsimp only
        cases mb env1 S2 with
        | nx e4 S4 => exact fun h1 f5 σ5 H5 u5 rs5 re5 => ⟨e4, S4, f5, rs5, re5, WpS.mono (u3.trans u5) h1⟩
        | ct e4 S4 => exact fun h1 f5 σ5 H5 u5 rs5 re5 => ⟨e4, S4, f5, rs5, re5, WpS.mono (u3.trans u5) h1⟩
        | bk e4 S4 => exact fun h1 => WpS.mono (D := D) u3 h1
        | rt d4 S4 => exact fun h1 => WpS.mono (D := D) u3 h1
        | ex C4 d4 e4 S4 => exact fun h1 => WpS.mono (D := D) u3 h1
        | bad => exact fun h1 => h1
      | false =>
        intro h1 f3 H3 b u3 rs3 eb
        subst eb
        exact h1 f3 σ1 H3 u3 rs3 (re1.up u3)
    | ex C ds S2 => exact fun h1 f3 H3 o u3 rs3 x => h1 f3 σ1 H3 o u3 rs3 (re1.up u3) x
    | bad => exact fun h1 => h1
end
end Lk

set_option Elab.async false
set_option linter.all false
set_option autoImplicit false
set_option maxRecDepth 100000
set_option maxHeartbeats 2000000
namespace Lk
open PySem PySem.Spec PyProof.Rows L2

/-! ### comprehensions: the targets are names, or a tuple of names -/
inductive Tg where
  | nm (i : Nat) | tp (is : List Nat)
def Tg.slots : Tg → List Nat
  | .nm i => [i]
  | .tp is => is
def setL : List Nat → List D → Env → Env
  | i :: is, d :: ds, env => setL is ds (env.set i (some d))
  | _, _, env => env
def Tg.put (t : Tg) (d : D) (env : Env) : Option Env := match t, d with
  | .nm i, d => some (env.set i (some d))
  | .tp is, .tup ds => if ds.length = is.length then some (setL is ds env) else none
  | _, _ => none
def gNs : List Nat → TGs
  | [] => L2.gNil
  | i :: is => gCons (gName i) (gNs is)
def Tg.raw (K : PySem.W.Frag) : Tg → TG
  | .nm i => gName i
  | .tp is => gTup K is.length (gNs is)
def wipeE (env : Env) : List Nat → Env
  | [] => env
  | v :: vs => (wipeE env vs).set v none
noncomputable def lcGo (gd : Store → Prop) (g : Tg) (mt : MT) (me : ME) (env : Env) (p : Nat) : List D → Store → R D
  | [], S => open Classical in if gd S then .ok (.ref p) S else .bad
  | d :: ds, S => open Classical in if gd S then (match g.put d env with
    | some e1 => (match mt e1 S with
      | .ok true S2 => (match me e1 S2 with
        | .ok y S3 => (match S3[p]? with
          | some (.lst acc) => if acc.length < lim then lcGo gd g mt me env p ds (S3.set p (.lst (acc ++ [y]))) else .bad
          | _ => .bad)
        | _ => .bad)
      | .ok false S2 => lcGo gd g mt me env p ds S2
      | _ => .bad)
    | _ => .bad) else .bad
noncomputable def mLc (mi : MI) (g : Tg) (mt : MT) (me : ME) (vs : List Nat) : ME := fun env S => (mi env S).bind fun s S1 => lcGo s.gd g mt me (wipeE env vs) S1.length s.items (S1 ++ [.lst []])
def mYes : MT := fun _ S => .ok true S
section
variable {Γ : G} {W : WX} {X : Cx} {f : List Addr} {H : Hp} {S : Store}
theorem RelE.wipe {env : Env} {σ : L2.St} (hx : Γ.xc = none) (r : RelE Γ f H env σ) : ∀ vs : List Nat, RelE Γ f H (wipeE env vs) (L2.wipe σ vs)
  | [] => r
  | v :: vs => by
    unfold wipeE L2.wipe
    exact (RelE.wipe hx r vs).miss hx v none
theorem wipe_set {σ : L2.St} {i : Nat} {x : Option V} : ∀ {vs : List Nat}, i ∈ vs → L2.wipe (σ.set i x) vs = L2.wipe σ vs
  | [], h => by simp at h
  | v :: vs, h => by
    have key : ∀ us : List Nat, L2.wipe (σ.set i x) us = (L2.wipe σ us).set i (if i ∈ us then none else x) := by
      intro us
      induction us with
      | nil => simp [L2.wipe]
      | cons u us ih =>
        simp only [L2.wipe, ih]
        by_cases e : u = i
        · subst e
          rw [List.set_set]
          simp
        · rw [List.set_comm _ _ (Ne.symm e)]
          congr 1
          by_cases m : i ∈ us
          · simp [m]
          · simp [m, Ne.symm e]
    rw [key]
    rw [if_pos h]
    have hw : ∀ us : List Nat, i ∈ us → (L2.wipe σ us).set i none = L2.wipe σ us := by
      intro us
      induction us with
      | nil => intro h; simp at h
      | cons u us ih =>
        intro h
        simp only [L2.wipe]
        by_cases e : u = i
        · subst e
          rw [List.set_set]
        · rw [List.set_comm _ _ e]
          rw [ih (by simpa [Ne.symm e] using h)]
    exact hw _ h
theorem gNs_ok {Q : L2.St → Hp → Prop} {vs0 : List Nat} {σ0 : L2.St} : ∀ {is : List Nat} {ds : List D} {vs : List V} {env : Env} {σ : L2.St}, RelE Γ f H env σ → RpL Γ f H ds vs → ds.length = is.length → (∀ i ∈ is, i ∈ vs0) → L2.wipe σ vs0 = L2.wipe σ0 vs0 →
    (∀ σ', RelE Γ f H (setL is ds env) σ' → L2.wipe σ' vs0 = L2.wipe σ0 vs0 → Q σ' H) → gNs is vs σ H Q
  | [], [], vs, env, σ, re, r, hl, hi, hw, k => by
    simp only [RpL] at r
    exact ⟨r, k σ re hw⟩
  | [], _ :: _, _, _, _, _, _, hl, _, _, _ => by simp at hl
  | _ :: _, [], _, _, _, _, _, hl, _, _, _ => by simp at hl
  | i :: is, d :: ds, vs, env, σ, re, r, hl, hi, hw, k => by
    simp only [RpL] at r
    obtain ⟨v, vr, e, r1, r2⟩ := r
    refine ⟨v, vr, e, ?_⟩
    exact gNs_ok (re.set r1 i) r2 (by simpa using hl) (fun j hj => hi j (List.mem_cons_of_mem _ hj)) (by rw [wipe_set (hi i List.mem_cons_self)]; exact hw) k
theorem put_ok {Q : L2.St → Hp → Prop} {g : Tg} {d : D} {v : V} {env e1 : Env} {σ : L2.St} {vs0 : List Nat} {σ0 : L2.St} (hg : ∀ i ∈ g.slots, i ∈ vs0) (hp : g.put d env = some e1) (re : RelE Γ f H env σ) (r : Rp Γ f H d v) (hw : L2.wipe σ vs0 = L2.wipe σ0 vs0)
    (k : ∀ σ', RelE Γ f H e1 σ' → L2.wipe σ' vs0 = L2.wipe σ0 vs0 → Q σ' H) : g.raw Γ.K v σ H Q := by
  cases g with
  | nm i =>
    have e : env.set i (some d) = e1 := by simpa [Tg.put] using hp
    subst e
    exact k _ (re.set r i) (by rw [wipe_set (hg i (by simp [Tg.slots]))]; exact hw)
  | tp is =>
    cases d with
    | tup ds =>
      simp only [Rp] at r
      obtain ⟨a, vs, e, hs, r⟩ := r
      have hp : (if ds.length = is.length then some (setL is ds env) else none) = some e1 := hp
      by_cases hl : ds.length = is.length
      · rw [if_pos hl] at hp
        cases hp
        exact ⟨a, vs, e, hs, by rw [← r.length]; exact hl, gNs_ok re r hl hg hw k⟩
      · rw [if_neg hl] at hp
        cases hp
    | _ => cases hp
theorem lc_core' (hx : Γ.xc = none) {J : It} {s : Src} {g : Tg} {mt : MT} {me : ME} {vs : List Nat} {env : Env} {σ : L2.St} {Q : VK} (hg : ∀ i ∈ g.slots, i ∈ vs) (sv : Sv Γ f H s J) (rs : RelS Γ f S H) (re : RelE Γ f H env σ)
    (h : Wp Γ W σ f H (Rp Γ) Q (lcGo s.gd g mt me (wipeE env vs) S.length s.items (S ++ [.lst []]))) (W0 : WX) : ∀ Da, H Da = none → ∃ Wv : Nat → Nat → Hp → Prop, (∃ m, Wv 0 m (upd H Da (.lst []))) ∧ ∀ i m H, Wv i m H →
      (J.stop i H ∧ Q (.ref Da) H) ∨ (J.go i H ∧ ∃ Nx : Hp → Prop, (∀ H', Nx H' → ∃ m', m' < m ∧ Wv (i + 1) m' H') ∧ ∀ x H', J.yld i H x H' → g.raw Γ.K x (L2.wipe σ vs) H' fun σ2 H2 => L2.wipe σ2 vs = L2.wipe σ vs ∧ tT Γ W0 mt σ2 H2 fun b H3 =>
        if b = true then tE Γ W0 me σ2 H3 fun y H4 => ∃ acc, H4 Da = some (.lst acc) ∧ acc.length < sizeLine ∧ Nx (upd H4 Da (.lst (acc ++ [y]))) else Nx H3) := by
  intro Da hDa
  have hr0 : RelS Γ (f ++ [Da]) (S ++ [.lst []]) (upd H Da (.lst [])) := rs.alloc (b := .lst []) hDa ⟨[], upd_same, by simp only [RpL]⟩
  have h0 : Wp Γ W σ (f ++ [Da]) (upd H Da (.lst [])) (Rp Γ) Q (lcGo s.gd g mt me (wipeE env vs) S.length (s.items.drop 0) (S ++ [.lst []])) := Wp.mono (.alloc hDa) h
  refine ⟨fun i m H' => i ≤ s.items.length ∧ m = s.items.length - i ∧ ∃ S' f', RelS Γ f' S' H' ∧ f'[S.length]? = some Da ∧ Up Γ f H f' H' ∧ Wp Γ W σ f' H' (Rp Γ) Q (lcGo s.gd g mt me (wipeE env vs) S.length (s.items.drop i) S'),
    ⟨_, Nat.zero_le _, rfl, S ++ [.lst []], f ++ [Da], hr0, by rw [← rs.len]; simp, .alloc hDa, h0⟩, ?_⟩
  rintro i m H1 ⟨hi, hm, S1, f1, rs1, hf1, u1, h1⟩
  cases hd : s.items.drop i with
  | nil =>
    rw [hd] at h1
    unfold lcGo at h1
    split at h1
    · rename_i gd
      have e : i = s.items.length := by
        have := List.drop_eq_nil_iff.mp hd
        omega
      refine .inl ⟨?_, h1 f1 H1 _ .refl rs1 (Rp.refI hf1)⟩
      rw [e]
      exact sv.stop f1 S1 H1 rs1 ⟨gd, u1⟩
    · exact h1.elim
  | cons d ds =>
    rw [hd] at h1
    have hlt : i < s.items.length := by
      have := congrArg List.length hd
      rw [List.length_drop, List.length_cons] at this
      omega
    have hdd : s.items[i]? = some d ∧ s.items.drop (i + 1) = ds := by
      rw [List.drop_eq_getElem_cons hlt] at hd
      injection hd with e1 e2
      exact ⟨by rw [List.getElem?_eq_getElem hlt, e1], e2⟩
    unfold lcGo at h1
    split at h1
    · rename_i gd
      obtain ⟨jg, jy⟩ := sv.go f1 S1 H1 i d rs1 ⟨gd, u1⟩ hdd.1
      refine .inr ⟨jg, fun H' => i + 1 ≤ s.items.length ∧ ∃ S' f', RelS Γ f' S' H' ∧ f'[S.length]? = some Da ∧ Up Γ f H f' H' ∧ Wp Γ W σ f' H' (Rp Γ) Q (lcGo s.gd g mt me (wipeE env vs) S.length (s.items.drop (i + 1)) S'), ?_, ?_⟩
      · rintro H' ⟨h1, h2⟩
        exact ⟨_, by rw [hm]; omega, h1, rfl, h2⟩
      · intro x H' hy
        obtain ⟨u2, rs2, rp⟩ := jy x H' hy
        have re2 : RelE Γ f1 H' (wipeE env vs) (L2.wipe σ vs) := (re.up (u1.trans u2)).wipe hx vs
        rw [hdd.2]
        revert h1
        cases hput : g.put d (wipeE env vs) with
        | none => exact fun h1 => h1.elim
        | some e1 =>
          intro h1
          refine put_ok hg hput re2 rp rfl fun σ3 re3 hw3 => ⟨hw3.trans rfl |>.trans ?_, ?_⟩
          · have ww : ∀ us : List Nat, L2.wipe (L2.wipe σ us) us = L2.wipe σ us := by
              intro us
              have aux : ∀ (us ws : List Nat), (∀ i ∈ us, i ∈ ws) → L2.wipe (L2.wipe σ ws) us = L2.wipe σ ws := by
                intro us
                induction us with
                | nil => intro ws _; rfl
                | cons u us ih =>
                  intro ws hs
                  simp only [L2.wipe]
                  rw [ih ws fun i hi => hs i (List.mem_cons_of_mem _ hi)]
                  have hu := hs u List.mem_cons_self
                  have hw : ∀ us : List Nat, u ∈ us → (L2.wipe σ us).set u none = L2.wipe σ us := by
                    intro us
                    induction us with
                    | nil => intro h; simp at h
                    | cons w us ih2 =>
                      intro h
                      simp only [L2.wipe]
                      by_cases e : w = u
                      · subst e
                        rw [List.set_set]
                      · rw [List.set_comm _ _ e, ih2 (by simpa [Ne.symm e] using h)]
                  exact hw ws hu
              exact aux us us fun _ h => h
            exact ww vs
          · refine ⟨e1, S1, f1, rs2, re3, ?_⟩
            revert h1
            dsimp only
            cases mt e1 S1 with
            | ok b S2 =>
              cases b with
              | true =>
                intro h1 f3 H3 b u3 rs3 eb
                subst eb
                refine ⟨e1, S2, f3, rs3, re3.up u3, ?_⟩
                revert h1
                dsimp only
                cases me e1 S2 with
                | ok y S4 =>
                  intro h1 f5 H5 v u5 rs5 r5
                  revert h1
                  dsimp only
                  split
                  · rename_i acc hacc
                    split
                    · rename_i hl
                      intro h1
                      have ha := (u2.trans (u3.trans u5)).at hf1
                      obtain ⟨b, hb, vs', hh, rv⟩ := rs5.ob _ _ hacc
                      rw [ha] at hb
                      cases hb
                      refine ⟨vs', hh, by rw [← rv.length, lim_eq]; exact hl, hlt, S4.set S.length (.lst (acc ++ [y])), f5, ?_, ha, ?_, ?_⟩
                      · refine rs5.set ha (.chg hh trivial) ⟨vs' ++ [v], upd_same, ?_⟩
                        have uc : Up Γ f5 H5 f5 (upd H5 Da (.lst (vs' ++ [v]))) := .chg hh trivial
                        have app : ∀ {ds : List D} {vs : List V} {d : D} {v : V} {H : Hp}, RpL Γ f5 H ds vs → Rp Γ f5 H d v → RpL Γ f5 H (ds ++ [d]) (vs ++ [v]) := by
                          intro ds
                          induction ds with
                          | nil =>
                            intro vs d v H r q
                            simp only [RpL] at r
                            subst r
                            simp only [List.nil_append, RpL]
                            exact ⟨v, [], rfl, q, rfl⟩
                          | cons x xs ih =>
                            intro vs d v H r q
                            simp only [RpL] at r
                            obtain ⟨w, r', e, h1, h2⟩ := r
                            subst e
                            simp only [List.cons_append, RpL]
                            exact ⟨w, _, rfl, h1, ih h2 q⟩
                        exact app (rv.up uc) (r5.up uc)
                      · exact (u1.trans (u2.trans (u3.trans u5))).trans (.chg hh trivial)
                      · exact Wp.mono ((u2.trans (u3.trans u5)).trans (.chg hh trivial)) h1
                    · exact fun h1 => h1.elim
                  · exact fun h1 => h1.elim
                | ex C ds' S4 => exact fun h1 => h1.elim
                | bad => exact fun h1 => h1.elim
              | false =>
                intro h1 f3 H3 b u3 rs3 eb
                subst eb
                exact ⟨hlt, S2, f3, rs3, (u2.trans u3).at hf1, u1.trans (u2.trans u3), Wp.mono (u2.trans u3) h1⟩
            | ex C ds' S2 => exact fun h1 => h1.elim
            | bad => exact fun h1 => h1.elim
    · exact h1.elim
/-- nothing is wished of an exception -/
abbrev Wno : WX := fun _ _ _ _ => False
theorem lc_imp (hx : Γ.xc = none) {mi : MI} {g : Tg} {mt : MT} {me : ME} {vs : List Nat} (hg : ∀ i ∈ g.slots, i ∈ vs) {σ : L2.St} {H : Hp} {Q : VK} (h : tE Γ W (mLc mi g mt me vs) σ H Q) : tLc (tI Γ W mi) (g.raw Γ.K) (tT Γ Wno mt) (tE Γ Wno me) vs σ H Q := by
  obtain ⟨env, S, f, rs, re, h⟩ := h
  exact ⟨env, S, f, rs, re, Wp.bindL h fun s S1 f1 H1 J u1 rs1 sv h1 => lc_core' hx hg sv rs1 (re.up u1) h1 Wno⟩
theorem q_lc (hx : Γ.xc = none) {elt tg iter : Expr} {ifs : List Expr} {scope : Scope} {own : List (Str × Nat)} {pos : Pos} {mi : MI} {g : Tg} {mt : MT} {me : ME} (hc : X.calm = true) (hN : X.N.Nodup) (hi : PI X tg iter (tI Γ W mi)) (ok : BlkOk X.N X.env.scope scope own)
    (hg : ∀ (s : Shared) (H : Hp) (C : Addr) (cl : List (Str × Addr)) (fp : List Addr), PG (X.blk s H scope (compEnvC scope cl C X.env) fp) tg (g.raw Γ.K)) (ht : ∀ (s : Shared) (H : Hp) (C : Addr) (cl : List (Str × Addr)) (fp : List Addr), PTs (X.blk s H scope (compEnvC scope cl C X.env) fp) ifs (tT Γ Wno mt))
    (he : ∀ (s : Shared) (H : Hp) (C : Addr) (cl : List (Str × Addr)) (fp : List Addr), PE (X.blk s H scope (compEnvC scope cl C X.env) fp) elt (tE Γ Wno me)) (hs : ∀ x, foldedSetIterable iter X.env x = pure x := by intro _; rfl) (hsl : (g.slots.all fun i => (own.map (·.2)).contains i) = true := by rfl) :
    PE X (.ListComp elt [⟨tg, iter, ifs, 0⟩] scope pos) (tE Γ W (mLc mi g mt me (own.map (·.2)))) := PE.imp (pe_lc hc hN hi ok hg ht he hs) fun σ H Q => lc_imp hx fun i hi => by
  have := List.all_eq_true.mp hsl i hi
  exact List.contains_iff_mem.mp this
theorem qs_setLc (hx : Γ.xc = none) {i : Nat} {y : Str} {py : Pos} {elt tg iter : Expr} {ifs : List Expr} {scope : Scope} {own : List (Str × Nat)} {pos spos : Pos} {mi : MI} {g : Tg} {mt : MT} {me : ME} (hc : X.calm = true) (hN : X.N.Nodup) (hy : X.N[i]? = some y) (hyl : X.env.scope.names.lookup y = some .local)
    (hsw : swapsWith (.ListComp elt [⟨tg, iter, ifs, 0⟩] scope pos) (some (.Name y py)) spos.line X.env = pure true) (hi : PI X tg iter (tI Γ W mi)) (ok : BlkOk X.N X.env.scope scope own)
    (hg : ∀ (s : Shared) (H : Hp) (C : Addr) (cl : List (Str × Addr)) (fp : List Addr), PG (X.blk s H scope (compEnvC scope cl C X.env) fp) tg (g.raw Γ.K)) (ht : ∀ (s : Shared) (H : Hp) (C : Addr) (cl : List (Str × Addr)) (fp : List Addr), PTs (X.blk s H scope (compEnvC scope cl C X.env) fp) ifs (tT Γ Wno mt))
    (he : ∀ (s : Shared) (H : Hp) (C : Addr) (cl : List (Str × Addr)) (fp : List Addr), PE (X.blk s H scope (compEnvC scope cl C X.env) fp) elt (tE Γ Wno me)) (hs : ∀ x, foldedSetIterable iter X.env x = pure x := by intro _; rfl) (hsl : (g.slots.all fun i => (own.map (·.2)).contains i) = true := by rfl) :
    PS X (.Assign [.Name y py] (.ListComp elt [⟨tg, iter, ifs, 0⟩] scope pos) spos) (tS Γ W (mSet i (mLc mi g mt me (own.map (·.2))))) := PS.imp (ps_setLc hc hN hy hyl hsw hi ok hg ht he hs) fun D σ H ⟨env, S, f, rs, re, h⟩ => by
  refine lc_imp (Γ := Γ) (W := W) hx (fun i hi => ?_) ⟨env, S, f, rs, re, WpS.bindL re h fun d S1 f1 H1 v u1 rs1 r1 h1 => h1 f1 _ H1 .refl rs1 ((re.up u1).set r1 i)⟩
  have := List.all_eq_true.mp hsl i hi
  exact List.contains_iff_mem.mp this
theorem qts_nil : PTs X [] (tT Γ W mYes) := ⟨fun pins s σ H Q I ⟨env, S, f, rs, re, h⟩ => pts_nil.run pins s σ H Q I (h f H true .refl rs rfl)⟩
theorem qts_one {c : Expr} {t : MT} (h : PT X c (tT Γ W t)) : PTs X [c] (tT Γ W t) := pts_one h
theorem qr_nm {i : Nat} {x : Str} {pos : Pos} (hN : X.N.Nodup) (hi : X.N[i]? = some x := by rfl) (hx : Loc X.env.scope x := by first | exact Or.inl rfl | exact Or.inr rfl) (hf : X.fn x = true ∨ X.env.scope.names.lookup x = some .local := by first | exact .inl rfl | exact .inr rfl | assumption) : PG X (.Name x pos) ((Tg.nm i).raw Γ.K) := pg_name hN hi hx hf
end
end Lk

set_option Elab.async false
set_option linter.all false
set_option autoImplicit false
set_option maxRecDepth 100000
set_option maxHeartbeats 2000000
namespace Lk
open PySem PySem.Spec PyProof.Rows L2

/-! ### attributes -/
def fieldOf (flds : Str → List Str) (S : Store) (x : Str) : D → Option D
  | .ins C ds => ((flds C).zip ds).lookup x
  | .ref n => (match S[n]? with
    | some (.obj C ds) => ((flds C).zip ds).lookup x
    | _ => none)
  | _ => none
def mFld (flds : Str → List Str) (x : Str) (a : ME) : ME := fun env S => (a env S).bind fun d S1 => match fieldOf flds S1 x d with
  | some e => .ok e S1
  | none => .bad
/-- what the text says of a plain class -/
structure PlC (Γ : G) (C : Str) : Prop where
  cls : Cls Γ.K (Γ.c C)
  sub : ∀ x ∈ Γ.flds C, x ∈ Γ.af
  na : ∀ x ∈ Γ.flds C, NoAttr Γ.K (Γ.c C) x
/-- .. of all of them -/
def PlAll (Γ : G) (cs : List Str) : Prop := (∀ C ∈ cs, PlC Γ C) ∧ ∀ C, C ∉ cs → Γ.flds C = []
section
variable {Γ : G} {W : WX} {X : Cx} {f : List Addr} {H : Hp} {S : Store} {e o : Expr} {es : List Expr} {ma : ME} {mr : MA} {p pos apos : Pos} {x : Str} {cs : List Str}
theorem RpF.look : ∀ {ds : List D} {ns : List Str} {fs : List (Str × V)} {x : Str} {d : D}, RpF Γ f H ds ns fs → (ns.zip ds).lookup x = some d → ∃ v, fs.lookup x = some v ∧ Rp Γ f H d v
  | [], ns, _, _, _, _, e => by simp at e
  | d :: ds, _, fs, x, d', h, e => by
    simp only [RpF] at h
    obtain ⟨y, r, v, en, l, h1, h2⟩ := h
    subst en
    rw [List.zip_cons_cons, List.lookup_cons] at e
    cases q : (x == y) with
    | true =>
      rw [q] at e
      cases e
      rw [beq_iff_eq.mp q]
      exact ⟨v, l, h1⟩
    | false =>
      rw [q] at e
      exact RpF.look h2 e
theorem zip_mem : ∀ {ns : List Str} {ds : List D} {x : Str} {d : D}, (ns.zip ds).lookup x = some d → x ∈ ns
  | [], _, _, _, e => by simp at e
  | _ :: _, [], _, _, e => by simp at e
  | y :: ns, d :: ds, x, d', e => by
    rw [List.zip_cons_cons, List.lookup_cons] at e
    cases q : (x == y) with
    | true => rw [beq_iff_eq.mp q]; exact List.mem_cons_self
    | false =>
      rw [q] at e
      exact List.mem_cons_of_mem _ (zip_mem e)
theorem PlAll.of (pl : PlAll Γ cs) {C x : Str} (h : x ∈ Γ.flds C) : PlC Γ C := by
  by_cases m : C ∈ cs
  · exact pl.1 C m
  · rw [pl.2 C m] at h
    cases h
theorem field_ok (pl : PlAll Γ cs) {d e : D} {v : V} (rs : RelS Γ f S H) (r : Rp Γ f H d v) (h : fieldOf Γ.flds S x d = some e) : ∃ a C dx fs u, v = .ref a ∧ H a = some (.ins C dx fs) ∧ Cls Γ.K C ∧ NoAttr Γ.K C x ∧ fs.lookup x = some u ∧ Rp Γ f H e u := by
  cases d with
  | ins C ds =>
    simp only [Rp] at r
    obtain ⟨a, dx, fvs, ev, hh, _, rf⟩ := r
    have h : ((Γ.flds C).zip ds).lookup x = some e := h
    obtain ⟨u, hu, ru⟩ := rf.look h
    have pc := pl.of (zip_mem h)
    exact ⟨a, _, dx, fvs, u, ev, hh, pc.cls, pc.na x (zip_mem h), hu, ru⟩
  | ref n =>
    simp only [Rp] at r
    obtain ⟨a, ha, ev⟩ := r
    have h : (match S[n]? with
      | some (.obj C ds) => ((Γ.flds C).zip ds).lookup x
      | _ => none) = some e := h
    split at h
    · rename_i C ds hn
      obtain ⟨b, hb, dx, fvs, hh, rf, _⟩ := rs.ob n _ hn
      rw [ha] at hb
      cases hb
      obtain ⟨u, hu, ru⟩ := rf.look h
      have pc := pl.of (zip_mem h)
      exact ⟨a, _, dx, fvs, u, ev, hh, pc.cls, pc.na x (zip_mem h), hu, ru⟩
    · cases h
  | _ => cases h
theorem q_fld (pl : PlAll Γ cs) (hK : X.K = Γ.K) (he : PE X e (tE Γ W ma)) (hb : attributeBase e x X.env (eval e X.env) = eval e X.env := by rfl) : PE X (.Attribute e x pos) (tE Γ W (mFld Γ.flds x ma)) := PE.imp (pe_fld he hb) fun σ H Q ⟨env, S, f, rs, re, h⟩ =>
  ⟨env, S, f, rs, re, Wp.bindL h fun d S1 f1 H1 v u1 rs1 r1 h1 => by
    revert h1
    split
    · rename_i e1 he1
      intro h1
      obtain ⟨a, C, dx, fs, u, ev, hh, hc, hn, hl, ru⟩ := field_ok pl rs1 r1 he1
      rw [hK]
      exact ⟨a, C, dx, fs, u, ev, hh, hc, hn, hl, h1 f1 H1 u .refl rs1 ru⟩
    · exact fun h => h.elim⟩
end
/-! ### self.x = e within __init__ -/
def setF (flds : Str → List Str) (i : Nat) (x : Str) (d : D) (env : Env) (S : Store) : RS := match env[i]? with
  | some (some (.ref n)) => (match S[n]? with
    | some (.obj C ds) => if (flds C)[ds.length]? = some x ∧ x ∉ (flds C).take ds.length ∧ ds.length < 900 then .nx env (S.set n (.obj C (ds ++ [d]))) else .bad
    | _ => .bad)
  | _ => .bad
def mSetF (flds : Str → List Str) (i : Nat) (x : Str) (a : ME) : MS := fun env S => (a env S).bindS env fun d S1 => setF flds i x d env S1
section
variable {Γ : G} {W : WX} {X : Cx} {f : List Addr} {H : Hp} {S : Store} {e o : Expr} {es : List Expr} {ma : ME} {mr : MA} {p pos apos pos' : Pos} {x : Str} {cs : List Str}
theorem RpF.add : ∀ {ds : List D} {ns : List Str} {fs fs' : List (Str × V)} {d : D} {v : V}, RpF Γ f H ds ns fs → ns[ds.length]? = some x → (∀ y u, fs.lookup y = some u → fs'.lookup y = some u) → fs'.lookup x = some v → Rp Γ f H d v → RpF Γ f H (ds ++ [d]) ns fs'
  | [], ns, fs, fs', d, v, _, hn, _, hl, r => by
    cases ns with
    | nil => cases hn
    | cons y ns =>
      have e : y = x := by simpa using hn
      subst e
      simp only [List.nil_append, RpF]
      exact ⟨y, ns, v, rfl, hl, r, trivial⟩
  | d0 :: ds, _, fs, fs', d, v, h, hn, hk, hl, r => by
    simp only [RpF] at h
    obtain ⟨y, ns, u, en, l, h1, h2⟩ := h
    subst en
    simp only [List.cons_append, RpF]
    exact ⟨y, ns, u, rfl, hk y u l, h1, RpF.add h2 (by simpa using hn) hk hl r⟩
theorem qs_setF {i : Nat} {s : Str} (pl : PlAll Γ cs) (hK : X.K = Γ.K) (ha : PE X e (tE Γ W ma)) (hN : X.N[i]? = some s := by rfl) (hv : Vis X.env.scope s := by first | exact Or.inl rfl | exact Or.inr (Or.inl rfl) | exact Or.inr (Or.inr rfl)) (hs : swapsWith e (some (.Attribute (.Name s p) x pos')) pos.line X.env = pure false := by rfl)
    (hd : (s == ("__debug__" : Str)) = false := by decide) (hcd : (s == ("__classdict__" : Str)) = false := by decide) : PS X (.Assign [.Attribute (.Name s p) x pos'] e pos) (tS Γ W (mSetF Γ.flds i x ma)) := PS.imp (ps_fld (pv i hN hv hd hcd) ha hs) fun D σ H ⟨env, S, f, rs, re, h⟩ =>
  ⟨env, S, f, rs, re, WpS.bindL re h fun d S1 f1 H1 v u1 rs1 r1 h1 => by
    unfold setF at h1
    split at h1
    · rename_i n hi
      split at h1
      · rename_i C ds hn
        split at h1
        · rename_i c
          obtain ⟨c1, c2, c3⟩ := c
          have re1 := re.up u1
          obtain ⟨w, hw, rw'⟩ := re1.2.1 i _ hi
          simp only [Rp] at rw'
          obtain ⟨a, ha1, ew⟩ := rw'
          subst ew
          obtain ⟨b, hb, dx, fvs, hh, rf, hm, hl⟩ := rs1.ob n _ hn
          rw [ha1] at hb
          cases hb
          have pc := pl.of (List.mem_of_getElem? c1)
          have l0 : fvs.lookup x = none := by
            cases q : fvs.lookup x with
            | none => rfl
            | some z => exact absurd (hm x (by rw [q]; rfl)) c2
          have grow : ∀ y z, fvs.lookup y = some z → (putF x v fvs).lookup y = some z := fun y z q => by
            rw [lookup_putF, if_neg]
            · exact q
            · intro ey
              rw [ey, l0] at q
              cases q
          have lx : (putF x v fvs).lookup x = some v := by rw [lookup_putF, if_pos rfl]
          have back : ∀ y, ((putF x v fvs).lookup y).isSome = true → (fvs.lookup y).isSome = true ∨ y = x := fun y q => by
            rw [lookup_putF] at q
            by_cases ey : y = x
            · exact .inr ey
            · rw [if_neg ey] at q
              exact .inl q
          have kp : Keep Γ H1 (upd H1 a (.ins (Γ.c C) dx (putF x v fvs))) := by
            refine ⟨fun b xs q => ?_, fun b o u q => ?_, fun b fs q => ?_, fun C' b dx' fs q => ?_⟩
            · rw [upd_ne (ne_of q hh (by intro z; cases z))]; exact q
            · rw [upd_ne (ne_of q hh (by intro z; cases z))]; exact q
            · rw [upd_ne (ne_of q hh (by intro z; cases z))]; exact q
            · by_cases eb : b = a
              · subst eb
                rw [hh] at q
                cases q
                exact ⟨_, upd_same, grow, fun y q => (back y q).imp id fun ey => by rw [ey]; exact pc.sub x (List.mem_of_getElem? c1)⟩
              · exact ⟨fs, by rw [upd_ne eb]; exact q, fun _ _ q => q, fun _ q => .inl q⟩
          have uc : Up Γ f1 H1 f1 (upd H1 a (.ins (Γ.c C) dx (putF x v fvs))) := ⟨⟨[], by simp⟩, kp⟩
          refine ⟨_, hw, a, _, dx, fvs, rfl, hh, by rw [hK]; exact pc.cls, by rw [hK]; exact pc.na x (List.mem_of_getElem? c1), by omega, ?_⟩
          refine h1 f1 σ _ uc (rs1.set ha1 kp ⟨dx, _, upd_same, RpF.add (rf.up uc fun _ _ q => q) c1 grow lx (r1.up uc), fun y q => ?_, ?_⟩) (re1.up uc)
          · rcases back y q with q | ey
            · have := hm y q
              rw [List.length_append, List.take_add]
              exact List.mem_append_left _ this
            · subst ey
              rw [List.length_append, List.take_add]
              refine List.mem_append_right _ ?_
              have hlt := (List.getElem?_eq_some_iff.mp c1).1
              rw [List.drop_eq_getElem_cons hlt]
              have : (Γ.flds C)[ds.length] = y := (List.getElem?_eq_some_iff.mp c1).2
              rw [this]
              simp
          · have := length_putF x v fvs
            rw [List.length_append]
            show _ ≤ ds.length + 1
            omega
        · exact h1.elim
      · exact h1.elim
    · exact h1.elim⟩
end
/-! ### a new instance -/
noncomputable def mkEnd (S1 : Store) (C : Str) (xs : List D) (S2 : Store) : R D := open Classical in if clL S1.length xs = true ∧ S2.take S1.length = S1 then .ok (.ins C xs) S1 else .ok (.ins C xs) (S2.set S1.length .gone)
noncomputable def mkOf (C : Str) (m : List D → Store → R D) (ds : List D) (S1 : Store) : R D := match m (.ref S1.length :: ds) (S1 ++ [.obj C []]) with
  | .ok .non S2 => (match S2[S1.length]? with
    | some (.obj C' xs) => if C' = C then mkEnd S1 C xs S2 else .bad
    | _ => .bad)
  | .ok _ _ => .bad
  | .ex C' xs S2 => gcX S1 C' xs S2
  | .bad => .bad
noncomputable def mMake (C : Str) (n : Nat) (m : List D → Store → R D) (a : MA) : ME := fun env S => (a env S).bind fun ds S1 => if ds.length + 1 = n then mkOf C m ds S1 else .bad
section
variable {Γ : G} {W : WX} {X : Cx} {f : List Addr} {H : Hp} {S : Store} {a : Expr} {es : List Expr} {mr : MA} {p pos : Pos} {x C : Str} {fA : Addr} {fd : FuncData} {ps : List Str} {k n : Nat} {m : List D → Store → R D}
/-- the new instance is made and its __init__ run, at the slots σ -/
theorem make_at {pins : List (Addr × Obj)} {σ : L2.St} {s : Shared} {Q : VK} {E : XK} {us : List Value} {vs : List V} {Ca : Addr} {sp : Sp} (M : Mk X.K Ca fA) (F : FnOk X.prog X.w X.K X.mg X.base (L2.CX X.prog X.w) k fA fd ps sp) (hr : Room (k + 1) X.A) (hb : Binds X.K fd ps []) (hx : PassesAt (L2.CX X.prog X.w) X σ E)
    (I : Inv X pins σ H s) (r : Vals vs us) (h : ∀ y dy, H y = none → H dy = none → dy ≠ y → sp (.ref y :: vs) (upd (upd H dy (.own y)) y (.ins Ca dy [])) (fun v H2 => v = .non ∧ Q (.ref y) H2) E) :
    wpAny (model X.prog X.w) X.A (call (.ref Ca) us) (EP X pins σ Q) X.xe s := by
  have f1 : H (s.heap.objs.size + 1) = none := I.hok.fresh (Nat.le_succ _)
  have f0 : H s.heap.objs.size = none := I.hok.fresh (Nat.le_refl _)
  have hs := h _ _ f1 f0 (Nat.ne_of_lt (Nat.lt_succ_self _))
  have J := Inv.made (C := Ca) I
  have rr : Vals (V.ref (s.heap.objs.size + 1) :: vs) (Value.ref (s.heap.objs.size + 1) :: us) := Paired.cons rfl r
  have ll : (Value.ref (s.heap.objs.size + 1) :: us).length = ps.length := by rw [← rr.length]; exact F.len _ _ _ _ hs
  have hbb := hb _ (Value.ref (s.heap.objs.size + 1) :: us) J.kIn (by rw [List.append_nil]; exact ll)
  rw [List.append_nil] at hbb
  have go := F.run _ X.stack _ _ ⟨Value.ref (s.heap.objs.size + 1) :: us, []⟩ _ _ _ E (hr.make Ca us []) (J.env0.make Ca us []) hbb rr hs
  refine wpAny_call (make_map (f := fA) I.kIn M.makes M.init (beq_iff_eq.mp M.fn) (codeAny_mono go fun res s' hq => ?_))
  match res, hq with
  | .error er, hq => exact hx pins _ _ er s' J hq
  | .ok (.ret u), hq =>
    obtain ⟨v, H', I3, rv, ev, q3⟩ := J.after hq
    subst ev
    exact ⟨rv, V.ref (s.heap.objs.size + 1), H', I3, rfl, q3⟩
def tMakeS (Ca : Addr) (sp : Sp) (E : L2.St → XK) (t : TA) : TE := fun σ H Q => t σ H fun vs H1 => ∀ y dy, H1 y = none → H1 dy = none → dy ≠ y →
  sp (.ref y :: vs) (upd (upd H1 dy (.own y)) y (.ins Ca dy [])) (fun v H2 => v = .non ∧ Q (.ref y) H2) (E σ)
theorem pe_makeS {sp : Sp} {E : L2.St → XK} {Ca : Addr} {t : TA} (M : Mk X.K Ca fA) (F : FnOk X.prog X.w X.K X.mg X.base (L2.CX X.prog X.w) k fA fd ps sp) (hr : Room (k + 1) X.A) (hg : Gl X x) (hm : X.mg x = some (.ref Ca)) (hb : Binds X.K fd ps []) (hx : ∀ σ, PassesAt (L2.CX X.prog X.w) X σ (E σ))
    (ha : PA X (a :: es) t) (hdb : (x == ("__debug__" : Str)) = false := by decide) (he : starEach (a :: es) X.env = (false, eval a X.env) :: starEach es X.env := by rfl) (hpl : (backTo pos (starEach es X.env)).any (·.1) = false := by rfl) :
    PE X (.Call (.Name x p) (a :: es) [] pos) (tMakeS Ca sp E t) := ⟨fun pins s σ H Q I h => by
  refine wpAny_Call_Name_kw (ld_glob I hg hm ?_ hdb)
  exact PySem.W.callWith_K (h₀ := X.base) I.ok.mod.kin M.kp (thn (ha.run pos pins s σ H _ I h) fun us s1 ⟨vs, H1, I1, r, q⟩ => ⟨I1.kIn, make_at M F hr hb (hx σ) I1 r q⟩) he hpl⟩
theorem mk_core {σ : L2.St} {Q : VK} {xs : List D} {vs : List V} (hsub : ∀ y ∈ Γ.flds C, y ∈ Γ.af) (rs : RelS Γ f S H) (r : RpL Γ f H xs vs) (h : Wp Γ W σ f H (Rp Γ) Q (if xs.length + 1 = n then mkOf C m xs S else .bad)) (y dy : Addr) (hy : H y = none) (hdy : H dy = none) (hne : dy ≠ y) :
    spOf Γ n m (.ref y :: vs) (upd (upd H dy (.own y)) y (.ins (Γ.c C) dy [])) (fun v H2 => v = .non ∧ Q (.ref y) H2) (WE W σ) := by
  by_cases hl : xs.length + 1 = n
  · rw [if_pos hl] at h
    have hy2 : upd H dy (.own y) y = none := by rw [upd_ne (Ne.symm hne)]; exact hy
    have u1 : Up Γ f H f (upd H dy (.own y)) := .new hdy
    have u2 : Up Γ f H (f ++ [y]) (upd (upd H dy (.own y)) y (.ins (Γ.c C) dy [])) := u1.trans (.alloc hy2)
    have rs2 : RelS Γ (f ++ [y]) (S ++ [.obj C []]) (upd (upd H dy (.own y)) y (.ins (Γ.c C) dy [])) := (rs.newT (o := .own y) hdy).alloc (b := .obj C []) hy2 ⟨dy, [], upd_same, by simp only [RpF], fun z hz => by simp at hz, Nat.zero_le _⟩
    refine ⟨by rw [List.length_cons, ← r.length]; exact hl, f ++ [y], S ++ [.obj C []], .ref S.length :: xs, rs2, ?_, ?_⟩
    · simp only [RpL]
      exact ⟨_, vs, rfl, Rp.refI (by rw [← rs.len]; simp), r.up u2⟩
    · unfold mkOf at h
      revert h
      cases hm : m (.ref S.length :: xs) (S ++ [.obj C []]) with
      | ok d S2 =>
        cases d with
        | non =>
          intro h f3 H3 b u3 rs3 rb
          simp only [Rp] at rb
          refine ⟨rb, ?_⟩
          revert h
          dsimp only
          split
          · rename_i C' ys hn
            split
            · rename_i ec
              subst ec
              intro h
              have hf3 : f3[S.length]? = some y := u3.at (by rw [← rs.len]; simp)
              obtain ⟨b', hb', dx, fvs, hh, rf, hms, hll⟩ := rs3.ob _ _ hn
              rw [hf3] at hb'
              cases hb'
              have rp : Rp Γ f3 H3 (.ins C' ys) (.ref y) := by
                simp only [Rp]
                exact ⟨y, dx, fvs, rfl, hh, fun z hz => hsub z (List.mem_of_mem_take (hms z hz)), rf⟩
              unfold mkEnd at h
              split at h
              · rename_i c
                obtain ⟨⟨t, et⟩, kp⟩ := u2.trans u3
                subst et
                have rp2 : Rp Γ f H3 (.ins C' ys) (.ref y) := rp.cut (by simp only [D.cl]; rw [rs.len]; exact c.1)
                exact h f H3 _ ⟨⟨[], by simp⟩, kp⟩ (rs.cut rs3 c.2) rp2
              · exact h f3 H3 _ (u2.trans u3) (rs3.drop _) rp
            · exact fun h => h.elim
          · exact fun h => h.elim
        | _ => exact fun h => h.elim
      | ex C' ys S2 =>
        intro h f3 H3 o u3 rs3 xr
        exact Wp.gcX rs h f3 H3 o (u2.trans u3) rs3 xr
      | bad => exact fun h => h
  · rw [if_neg hl] at h
    exact h.elim
theorem q_make (hsub : ∀ y ∈ Γ.flds C, y ∈ Γ.af) (M : Mk X.K (Γ.c C) fA) (F : FnOk X.prog X.w X.K X.mg X.base (L2.CX X.prog X.w) k fA fd ps (spOf Γ n m)) (hr : Room (k + 1) X.A) (hm : X.mg x = some (.ref (Γ.c C))) (hb : Binds X.K fd ps []) (tk : Takes X W)
    (ha : PA X (a :: es) (tA Γ W mr)) (hg : Gl X x := by rfl) (hdb : (x == ("__debug__" : Str)) = false := by decide) (he : starEach (a :: es) X.env = (false, eval a X.env) :: starEach es X.env := by rfl) (hpl : (backTo pos (starEach es X.env)).any (·.1) = false := by rfl) :
    PE X (.Call (.Name x p) (a :: es) [] pos) (tE Γ W (mMake C n m mr)) := PE.imp (pe_makeS (E := fun σ => WE W σ) M F hr hg hm hb (fun σ => passAt tk σ) ha hdb he hpl) fun σ H Q ⟨env, S, f, rs, re, h⟩ =>
  ⟨env, S, f, rs, re, Wp.bindL h fun xs S1 f1 H1 vs u1 rs1 r1 h1 => fun y dy hy hdy hne => mk_core hsub rs1 r1 h1 y dy hy hdy hne⟩
end
/-! ### methods -/
def mMeth (C : Str) (n : Nat) (m : List D → Store → R D) (o : ME) (a : MA) : ME := fun env S => (o env S).bind fun d S1 => match d with
  | .ins C' xs => if C' = C then (a env S1).bind fun ds S2 => if ds.length + 1 = n then m (.ins C xs :: ds) S2 else .bad else .bad
  | _ => .bad
section
variable {Γ : G} {W : WX} {X : Cx} {f : List Addr} {H : Hp} {S : Store} {a o : Expr} {es : List Expr} {mo : ME} {mr : MA} {p pos apos : Pos} {x C mn : Str} {fA : Addr} {fd : FuncData} {ps : List Str} {k n : Nat} {m : List D → Store → R D}
def tMethS (Ca : Addr) (mn : Str) (sp : Sp) (E : L2.St → XK) (ta : TE) (t : TA) : TE := fun σ H Q => ta σ H fun x H1 => ∃ a dx fs, x = .ref a ∧ H1 a = some (.ins Ca dx fs) ∧ fs.lookup mn = none ∧ t σ H1 fun vs H2 => sp (x :: vs) H2 Q (E σ)
theorem pe_methS {pl : Sem Bool} {sp : Sp} {E : L2.St → XK} {Ca : Addr} {ta : TE} {t : TA} (he : PE X o ta) (c : Cls X.K Ca) (hm : Meth X.K Ca mn fA) (F : FnOk X.prog X.w X.K X.mg X.base (L2.CX X.prog X.w) k fA fd ps sp) (hr : Room k X.A) (hb : Binds X.K fd ps []) (hx : ∀ σ, PassesAt (L2.CX X.prog X.w) X σ (E σ)) (ha : PA X (a :: es) t)
    (hst : starEach (a :: es) X.env = (false, eval a X.env) :: starEach es X.env := by rfl) (hpl : (backTo pos (starEach es X.env)).any (·.1) = false := by rfl)
    (ht : eval (.Call (.Attribute o mn apos) (a :: es) [] pos) X.env = (do
      let ov ← eval o X.env
      standAt apos.atName
      let (f, first) ← holding [ov] (getMethod ov mn pl)
      callWith pos f first (backTo pos (starEach (a :: es) X.env)) (backToKw pos (keywordEach [] X.env))) := by rfl) : PE X (.Call (.Attribute o mn apos) (a :: es) [] pos) (tMethS Ca mn sp E ta t) := ⟨fun pins s σ H Q I h => by
  refine PySem.W.methodCall_KW (pl := pl) (thn (he.run pins s σ H _ I h) fun u s1 ⟨x, H1, I1, rx, b, dx, fs, ex, eb, l, q⟩ => ?_) ht
  subst ex
  obtain rfl : u = Value.ref b := rx
  refine getmeth_ok I1 eb c hm l (PySem.W.callWith_K (first := [.ref b]) (h₀ := X.base) I.ok.mod.kin hm.kp (thn (ha.run pos pins s1 σ H1 _ I1 q) fun us s2 ⟨vs, H2, I2, r, q2⟩ => ⟨I2.kIn, ?_⟩) hst hpl)
  exact run_fnS (us := .ref b :: us) (vs := .ref b :: vs) F hr hb (hx σ) I2 (.cons rfl r) q2⟩
theorem pe_methS0 {pl : Sem Bool} {sp : Sp} {E : L2.St → XK} {Ca : Addr} {ta : TE} (he : PE X o ta) (c : Cls X.K Ca) (hm : Meth X.K Ca mn fA) (F : FnOk X.prog X.w X.K X.mg X.base (L2.CX X.prog X.w) k fA fd ps sp) (hr : Room k X.A) (hb : Binds X.K fd ps []) (hx : ∀ σ, PassesAt (L2.CX X.prog X.w) X σ (E σ))
    (ht : eval (.Call (.Attribute o mn apos) [] [] pos) X.env = (do
      let ov ← eval o X.env
      standAt apos.atName
      let (f, first) ← holding [ov] (getMethod ov mn pl)
      callWith pos f first (backTo pos (starEach [] X.env)) (backToKw pos (keywordEach [] X.env))) := by rfl) : PE X (.Call (.Attribute o mn apos) [] [] pos) (tMethS Ca mn sp E ta tNil) := ⟨fun pins s σ H Q I h => by
  refine PySem.W.methodCall_KW (pl := pl) (thn (he.run pins s σ H _ I h) fun u s1 ⟨x, H1, I1, rx, b, dx, fs, ex, eb, l, q⟩ => ?_) ht
  subst ex
  obtain rfl : u = Value.ref b := rx
  refine getmeth_ok I1 eb c hm l (PySem.W.callWith_K0 (first := [.ref b]) I1.kIn hm.kp ?_)
  exact run_fnS (us := [.ref b]) (vs := [.ref b]) F hr hb (hx σ) I1 (.cons rfl .nil) q⟩
theorem q_meth (hna : mn ∉ Γ.af) (c : Cls X.K (Γ.c C)) (hm : Meth X.K (Γ.c C) mn fA) (F : FnOk X.prog X.w X.K X.mg X.base (L2.CX X.prog X.w) k fA fd ps (spOf Γ n m)) (hr : Room k X.A) (hb : Binds X.K fd ps []) (tk : Takes X W) (ho : PE X o (tE Γ W mo)) (ha : PA X (a :: es) (tA Γ W mr)) {pl : Sem Bool}
    (hst : starEach (a :: es) X.env = (false, eval a X.env) :: starEach es X.env := by rfl) (hpl : (backTo pos (starEach es X.env)).any (·.1) = false := by rfl)
    (ht : eval (.Call (.Attribute o mn apos) (a :: es) [] pos) X.env = (do
      let ov ← eval o X.env
      standAt apos.atName
      let (f, first) ← holding [ov] (getMethod ov mn pl)
      callWith pos f first (backTo pos (starEach (a :: es) X.env)) (backToKw pos (keywordEach [] X.env))) := by rfl) : PE X (.Call (.Attribute o mn apos) (a :: es) [] pos) (tE Γ W (mMeth C n m mo mr)) :=
  PE.imp (pe_methS (E := fun σ => WE W σ) ho c hm F hr hb (fun σ => passAt tk σ) ha hst hpl ht) fun σ H Q ⟨env, S, f, rs, re, h⟩ => ⟨env, S, f, rs, re, Wp.bindL h fun d S1 f1 H1 v u1 rs1 r1 h1 => by
    cases d with
    | ins C' xs =>
      have h1 : Wp Γ W σ f1 H1 (Rp Γ) Q (if C' = C then (mr env S1).bind fun ds S2 => if ds.length + 1 = n then m (.ins C xs :: ds) S2 else .bad else .bad) := h1
      split at h1
      · rename_i ec
        subst ec
        have r0 := r1
        simp only [Rp] at r1
        obtain ⟨a, dx, fvs, ev, hh, hm', rf⟩ := r1
        refine ⟨a, dx, fvs, ev, hh, ?_, env, S1, f1, rs1, re.up u1, Wp.bindL h1 fun ys S2 f2 H2 vs u2 rs2 r2 h2 => ?_⟩
        · cases q : fvs.lookup mn with
          | none => rfl
          | some z => exact absurd (hm' mn (by rw [q]; rfl)) hna
        · refine Wp.spOf (xs := .ins C' xs :: ys) rs2 ?_ h2
          simp only [RpL]
          exact ⟨v, vs, rfl, r0.up u2, r2⟩
      · exact h1.elim
    | _ => exact h1.elim⟩
theorem q_meth0 (hna : mn ∉ Γ.af) (c : Cls X.K (Γ.c C)) (hm : Meth X.K (Γ.c C) mn fA) (F : FnOk X.prog X.w X.K X.mg X.base (L2.CX X.prog X.w) k fA fd ps (spOf Γ n m)) (hr : Room k X.A) (hb : Binds X.K fd ps []) (tk : Takes X W) (ho : PE X o (tE Γ W mo)) {pl : Sem Bool}
    (ht : eval (.Call (.Attribute o mn apos) [] [] pos) X.env = (do
      let ov ← eval o X.env
      standAt apos.atName
      let (f, first) ← holding [ov] (getMethod ov mn pl)
      callWith pos f first (backTo pos (starEach [] X.env)) (backToKw pos (keywordEach [] X.env))) := by rfl) : PE X (.Call (.Attribute o mn apos) [] [] pos) (tE Γ W (mMeth C n m mo mNil)) :=
  PE.imp (pe_methS0 (E := fun σ => WE W σ) ho c hm F hr hb (fun σ => passAt tk σ) ht) fun σ H Q ⟨env, S, f, rs, re, h⟩ => ⟨env, S, f, rs, re, Wp.bindL h fun d S1 f1 H1 v u1 rs1 r1 h1 => by
    cases d with
    | ins C' xs =>
      have h1 : Wp Γ W σ f1 H1 (Rp Γ) Q (if C' = C then (mNil env S1).bind fun ds S2 => if ds.length + 1 = n then m (.ins C xs :: ds) S2 else .bad else .bad) := h1
      split at h1
      · rename_i ec
        subst ec
        have r0 := r1
        simp only [Rp] at r1
        obtain ⟨a, dx, fvs, ev, hh, hm', rf⟩ := r1
        refine ⟨a, dx, fvs, ev, hh, ?_, ?_⟩
        · cases q : fvs.lookup mn with
          | none => rfl
          | some z => exact absurd (hm' mn (by rw [q]; rfl)) hna
        · refine Wp.spOf (xs := [.ins C' xs]) rs1 ?_ h1
          simp only [RpL]
          exact ⟨v, [], rfl, r0, rfl⟩
      · exact h1.elim
    | _ => exact h1.elim⟩
end
end Lk

set_option Elab.async false
set_option linter.all false
set_option autoImplicit false
set_option maxRecDepth 100000
set_option maxHeartbeats 2000000
namespace Lk
open PySem PySem.Spec PyProof.Rows L2

/-! ### errors whose __init__ keeps one thing -/
def spX1 (Ca : Addr) (fn : Str) : Sp := fun vs H Q _ => ∃ a v, vs = [.ref a, v] ∧ H a = some (exo a Ca none) ∧ ∀ d, H d = none → d ≠ a → Q .non (upd (upd H d (exd d [(fn, v)])) a (exo a Ca (some d)))
theorem ok_x1 {P : Program} {w : World} {K : PySem.W.Frag} {mg : Str → Option Value} {base : Heap} {x qual s n fn : Str} {params : Arguments} {scope : Scope} {kws : List (Str × V)} {f Ca : Addr} {fd : FuncData} {p1 p2 p3 p4 : Pos}
    (F : FunD K x qual params [.Assign [.Attribute (.Name s p1) fn p2] (.Name n p3) p4] scope [] kws f fd) (Sc : FnScope [s, n] [s, n] scope) (T : OexC K Ca) (hno : PySem.W.findIn K (.ref Ca) fn = some none)
    (v0 : Vis scope s) (v1 : Vis scope n) (h1 : (s == ("__debug__" : Str)) = false := by decide) (h2 : (s == ("__classdict__" : Str)) = false := by decide) (h3 : (n == ("__debug__" : Str)) = false := by decide) (h4 : (n == ("__classdict__" : Str)) = false := by decide) :
    FnOk P w K mg base (L2.CX P w) 1 f fd [s, n] (spX1 Ca fn) :=
  FunD.ok F Sc (fun vs H Q E h => by obtain ⟨a, v, e, _⟩ := h; rw [e]; rfl) fun cdv A outer st H vs Q E hr h => ⟨_, pss_one (ps_ost (pe_var (i := 0) rfl v0 h1 h2) (pe_var (i := 1) rfl v1 h3 h4)), by
    obtain ⟨a, v, e, ha, q⟩ := h
    subst e
    exact ⟨v, rfl, _, rfl, a, Ca, rfl, T, hno, .inl ⟨ha, fun d hd hne => q d hd hne⟩⟩⟩
/-- what the text says of an error class with one field -/
structure X1 (Γ : G) (P : Program) (w : World) (mg : Str → Option Value) (base : Heap) (C fn : Str) : Prop where
  oex : OexC Γ.K (Γ.c C)
  fl : Γ.xfl C = [fn]
  gl : mg C = some (.ref (Γ.c C))
  ini : ∃ fI fd s n, PySem.W.findIn Γ.K (.ref (Γ.c C)) "__init__" = some (some (.ref fI)) ∧ PySem.W.typeIn Γ.K (.ref fI) = some (.type "function") ∧ FnOk P w Γ.K mg base (L2.CX P w) 1 fI fd [s, n] (spX1 (Γ.c C) fn) ∧ Binds Γ.K fd [s, n] []
def mRaise1 (C : Str) (a : ME) : MS := fun env S => (a env S).bindS env fun d S1 => .ex C [d] env S1
section
variable {Γ : G} {W : WX} {X : Cx} {f : List Addr} {H : Hp} {S : Store} {e : Expr} {ma : ME} {p pos pos2 : Pos} {C fn : Str}
theorem qs_raise1 {k : Nat} (hK : X.K = Γ.K) (T : X1 Γ X.prog X.w X.mg X.base C fn) (hc : X.calm = true) (tk : Takes X W) (hr : Room k X.A) (hk : 2 ≤ k) (ha : PE X e (tE Γ W ma)) (hg : Gl X C := by rfl) (hdb : (C == ("__debug__" : Str)) = false := by decide) (hst : starEach (e :: []) X.env = (false, eval e X.env) :: starEach [] X.env := by rfl)
    (hpl : (backTo pos (starEach [] X.env)).any (·.1) = false := by rfl) : PS X (.Raise (some (.Call (.Name C p) [e] [] pos)) none pos2) (tS Γ W (mRaise1 C ma)) := by
  obtain ⟨fI, fd, s, n, i1, i2, i3, i4⟩ := T.ini
  have hr2 : Room (1 + 1) X.A := hr.mono (by omega)
  have noX : Passes (L2.CX X.prog X.w) X (fun _ _ _ => False) := fun _ _ _ _ _ _ _ c => by
    obtain ⟨_, _, _, _, _, _, _, _, _, _, _, _, z⟩ := c
    exact z.elim
  have mk := pmk_oex (p := p) (pos := pos) (C := Γ.c C) (dvs := []) (T := by rw [hK]; exact T.oex) (by rw [hK]; exact i1) (by rw [hK]; exact i2) (by rw [hK]; exact i3) hr2 (by rw [hK]; exact i4) .nil noX hg T.gl (pa_cons ha pa_nil hst) hdb hst hpl
  refine PS.imp (ps_raise hc tk mk) fun D σ H ⟨env, S, f, rs, re, h⟩ => ⟨env, S, f, rs, re, WpS.bindL re h fun d S1 f1 H1 v u1 rs1 r1 h1 => ⟨(by show 1 ≤ 1000; decide), fun a ha' => ?_⟩⟩
  refine ⟨a, v, rfl, upd_same, fun dd hdd hne => ⟨rfl, dd, _, upd_same, by rw [upd_ne hne, upd_same], ?_, ?_⟩⟩
  · rw [upd_ne hne] at hdd
    exact hdd
  · have hdd1 : H1 dd = none := by
      rw [upd_ne hne] at hdd
      exact hdd
    have eH : upd (del (upd (upd (upd H1 a (exo a (Γ.c C) none)) dd (exd dd [(fn, v)])) a (exo a (Γ.c C) (some dd))) a) dd (.xd [(fn, v)]) = upd H1 dd (.xd [(fn, v)]) := by
      funext b
      by_cases hb : b = dd
      · subst hb
        rw [upd_same, upd_same]
      · rw [upd_ne hb, upd_ne hb]
        by_cases ha2 : b = a
        · subst ha2
          rw [del_same, ha']
        · rw [del_ne ha2, upd_ne ha2, upd_ne hb, upd_ne ha2]
    rw [eH]
    refine h1 f1 σ _ _ (.new hdd1) (rs1.newT hdd1) ((re.up u1).up (.new hdd1)) (.inr ⟨dd, _, rfl, upd_same, ?_⟩)
    rw [T.fl]
    simp only [RpF]
    exact ⟨fn, [], v, rfl, by simp [List.lookup], r1.up (.new hdd1), trivial⟩
end
/-! ### errors that keep nothing -/
def spX0 (Ca : Addr) : Sp := fun vs H Q _ => ∃ a, vs = [.ref a] ∧ H a = some (exo a Ca none) ∧ Q .non H
theorem ok_x0 {P : Program} {w : World} {K : PySem.W.Frag} {mg : Str → Option Value} {base : Heap} {x qual s : Str} {params : Arguments} {scope : Scope} {kws : List (Str × V)} {f Ca : Addr} {fd : FuncData} {p1 : Pos}
    (F : FunD K x qual params [.Pass p1] scope [] kws f fd) (Sc : FnScope [s] [s] scope) : FnOk P w K mg base (L2.CX P w) 1 f fd [s] (spX0 Ca) :=
  FunD.ok F Sc (fun vs H Q E h => by obtain ⟨a, e, _⟩ := h; rw [e]; rfl) fun cdv A outer st H vs Q E hr h => ⟨_, pss_one ps_pass, by
    obtain ⟨a, e, ha, q⟩ := h
    exact q⟩
structure X0 (Γ : G) (P : Program) (w : World) (mg : Str → Option Value) (base : Heap) (C : Str) : Prop where
  oex : OexC Γ.K (Γ.c C)
  gl : mg C = some (.ref (Γ.c C))
  ini : ∃ fI fd s, PySem.W.findIn Γ.K (.ref (Γ.c C)) "__init__" = some (some (.ref fI)) ∧ PySem.W.typeIn Γ.K (.ref fI) = some (.type "function") ∧ FnOk P w Γ.K mg base (L2.CX P w) 1 fI fd [s] (spX0 (Γ.c C)) ∧ Binds Γ.K fd [s] []
def mRaise0 (C : Str) : MS := fun env S => .ex C [] env S
section
variable {X : Cx} {p pos pos2 : Pos}
/-- the made error is let go: the heap without it -/
theorem bare_end {pins : List (Addr × Obj)} {σ : L2.St} {H1 : Hp} {Q : XK} {hp hp2 h2 : Heap} {g1 g2 : Array GenState} {d1 d2 : Drawn} {t1 t2 : Nat} {os1 os2 : OsState} {a Ca : Addr} (T : Raises X (.ref Ca)) (I1 : Inv X pins σ H1 ⟨hp, g1, d1, t1, os1⟩) (ha : hp.objs.size ≤ a)
    (k : ∀ b o, hp.get? b = some o → hp2.get? b = some o) (un : Un (frs X.stack) [] (upd H1 a (exo a Ca none)) (upd H1 a (exo a Ca none)) hp2 h2) (hok : HOk X.prog X.w (upd H1 a (exo a Ca none)) h2) (ho : os2 = os1) (hb : AllBare g2) (q : Q (.ref Ca) none H1) : MkP X pins σ Q (.ref a) ⟨h2, g2, d2, t2, os2⟩ := by
  obtain ⟨t0, hoe⟩ := exo_at hok upd_same
  have hn : H1 a = none := I1.hok.fresh ha
  obtain ⟨Gh, gOn, gOff⟩ := restrict h2 fun b => decide (b ≠ a)
  have same : ∀ b, b ≠ a → Gh.get? b = h2.get? b := fun b z => gOn b (decide_eq_true z)
  have off : Gh.get? a = none := gOff a (by simp)
  have old : ∀ {b : Addr} {o : Obj}, hp.get? b = some o → b ≠ a := fun {b o} z => Nat.ne_of_lt (Nat.lt_of_lt_of_le (Heap.lt_size z) ha)
  have free : ∀ {b : Addr}, b ≠ a → H1 b = none → upd H1 a (exo a Ca none) b = none := fun {b} z n => (upd_ne z).trans n
  have U : Un (frs X.stack) [] H1 H1 hp Gh := ⟨fun b o z n hf hx => (same b (old z)).trans (un.keep b o (k b o z) (free (old z) n) hf hx), fun b o z n hf hx => by
    obtain ⟨sl, e⟩ := un.slot b o (k b o z) (free (old z) n) hf hx
    exact ⟨sl, (same b (old z)).trans e⟩, fun b o z n hx => n, fun b o z hx => by
    obtain ⟨o', e⟩ := un.there b o (k b o z) hx
    exact ⟨o', (same b (old z)).trans e⟩, fun _ _ z => z, fun _ _ _ z => z, fun b ps z => ⟨#[], by rw [z]; simp⟩⟩
  have hok3 : HOk X.prog X.w H1 Gh := fun b o z => by
    have hba : b ≠ a := ne_of_none z hn
    have z2 : upd H1 a (exo a Ca none) b = some o := (upd_ne hba).trans z
    have noa : ∀ {c : Addr}, upd H1 a (exo a Ca none) c = some (.own b) → c ≠ a := fun {c} hc => at_ne upd_same hc exo_own
    refine (hok b o z2).stay (fun c v hc y => ?_) (fun c hc => ?_) fun c xs hc => ?_
    · have hca : c ≠ a := by
        rcases hc with hc | hc
        · rw [hc]; exact hba
        · exact noa hc
      exact (same c hca).trans y
    · rw [upd_ne (noa hc)] at hc
      exact hc
    · rw [upd_ne (at_ne upd_same hc exo_tup)] at hc
      exact hc
  have J : Inv X pins σ H1 ⟨Gh, g2, d2, t2, os2⟩ := I1.call' (ch := []) ho U hok3 hb (fun b z => absurd z (by simp))
  refine ⟨a, _, _, ⟨Gh, g2, d2, t2, os2⟩, H1, .ref Ca, none, rfl, J, fun b o z => ?_, off, hoe, ⟨rfl, rfl⟩, rfl, rfl, hn, rfl, hb, T, q⟩
  by_cases hba : b = a
  · rw [hba] at z
    have z : Gh.get? a = some o := z
    rw [off] at z
    cases z
  · exact (same b hba).symm.trans z
theorem pmk_bare {C : Str} {Ca fI : Addr} {k : Nat} {fd : FuncData} {s : Str} (T : OexC X.K Ca) (iC : PySem.W.findIn X.K (.ref Ca) "__init__" = some (some (.ref fI))) (tI : PySem.W.typeIn X.K (.ref fI) = some (.type "function"))
    (F1 : FnOk X.prog X.w X.K X.mg X.base (L2.CX X.prog X.w) k fI fd [s] (spX0 Ca)) (hr : Room (k + 1) X.A) (hb : Binds X.K fd [s] []) (hg : Gl X C) (hm : X.mg C = some (.ref Ca)) (hdb : (C == ("__debug__" : Str)) = false := by decide) :
    PMk X (.Call (.Name C p) [] [] pos) (fun _ H Q => Q (.ref Ca) none H) := by
  intro pins st σ H Q I h
  obtain ⟨nm, q, N, bs, bm, sn, sub, ab, col, dd, k0, k1, k2, k3, k5, hC, hbm⟩ := T.cls
  refine wpAny_Call_Name_kw (ld_glob I hg hm ?_ hdb)
  refine PySem.W.callWith_K0 I.kIn T.kC ?_
  show wpAny _ _ (call (.ref Ca) []) _ _ _
  obtain ⟨hp, g, dr, tk, os⟩ := st
  have hsz : hp.objs.size ≤ hp.objs.size + 1 := Nat.le_succ _
  have kk : ∀ b o, hp.get? b = some o → ((hp.push (PySem.W.kdv_tup [])).push (PySem.HandSPX.excO Ca hp.objs.size)).get? b = some o := fun b o e => Heap.get?_push_of_some _ (Heap.get?_push_of_some _ e)
  have hget : ((hp.push (PySem.W.kdv_tup [])).push (PySem.HandSPX.excO Ca hp.objs.size)).get? (hp.objs.size + 1) = some (PySem.HandSPX.excO Ca hp.objs.size) := by heap_get
  have J : Inv X pins σ (upd H (hp.objs.size + 1) (exo (hp.objs.size + 1) Ca none)) ⟨(hp.push (PySem.W.kdv_tup [])).push (PySem.HandSPX.excO Ca hp.objs.size), g, dr, tk, os⟩ := I.laid (t' := tk) kk hsz (exo_ok hget)
  have hbb := hb ⟨(hp.push (PySem.W.kdv_tup [])).push (PySem.HandSPX.excO Ca hp.objs.size), g, dr, tk, os⟩ [Value.ref (hp.objs.size + 1)] J.kIn rfl
  have go := F1.run _ X.stack _ _ ⟨[Value.ref (hp.objs.size + 1)], []⟩ _ [V.ref (hp.objs.size + 1)] (fun v H2 => v = .non ∧ H2 = upd H (hp.objs.size + 1) (exo (hp.objs.size + 1) Ca none)) (fun _ _ _ => False) (hr.make Ca [] []) (J.env0.make Ca [] []) hbb (.cons rfl .nil) ⟨_, rfl, upd_same, rfl, rfl⟩
  refine wpAny_call (PySem.HandSPX.call_own F.excBase_ValueError (fun Y => PySem.HandSPX.refsVE_contains Y bm hbm) (I.kIn _ _ hC) (PySem.W.looks_findIn I.kIn iC) (fun self => PySem.W.bind_fn I.kIn self tI) (Nat.zero_le _) (codeAny_mono go fun r s' hq => ?_))
  match r, hq with
  | .error er, hq =>
    obtain ⟨_, _, _, _, _, _, _, _, _, _, _, _, z⟩ := hq
    exact z.elim
  | .ok (.ret u), hq =>
    obtain ⟨v, H2, os2, bare2, un2, hok2, rv, ev, eH⟩ := hq
    subst ev
    subst eH
    obtain ⟨h2, g2, d2, t2, os'⟩ := s'
    exact ⟨rv, bare_end (raises_own T.exC T.tyC) I hsz kk un2 hok2 os2 bare2 h⟩
theorem qs_raise0 {Γ : G} {W : WX} {C : Str} {k : Nat} (hK : X.K = Γ.K) (T : X0 Γ X.prog X.w X.mg X.base C) (hc : X.calm = true) (tk : Takes X W) (hr : Room k X.A) (hk : 2 ≤ k) (hg : Gl X C := by rfl) (hdb : (C == ("__debug__" : Str)) = false := by decide) :
    PS X (.Raise (some (.Call (.Name C p) [] [] pos)) none pos2) (tS Γ W (mRaise0 C)) := by
  obtain ⟨fI, fd, s, i1, i2, i3, i4⟩ := T.ini
  exact PS.imp (ps_raise hc tk (pmk_bare (Ca := Γ.c C) (T := by rw [hK]; exact T.oex) (by rw [hK]; exact i1) (by rw [hK]; exact i2) (by rw [hK]; exact i3) (hr.mono (show 1 + 1 ≤ k by omega)) (by rw [hK]; exact i4) hg T.gl hdb)) fun D σ H ⟨env, S, f, rs, re, h⟩ => h f σ H none .refl rs re (.inl ⟨rfl, rfl⟩)
end
/-- alike but for the error that is being handled -/
structure Sim (Γ Γ' : G) : Prop where
  K : Γ.K = Γ'.K
  c : Γ.c = Γ'.c
  flds : Γ.flds = Γ'.flds
  af : Γ.af = Γ'.af
  xfl : Γ.xfl = Γ'.xfl
section
variable {Γ Γ' : G} {f f' : List Addr} {H H' : Hp} {S : Store}
mutual
theorem Rp.sim (s : Sim Γ Γ') : ∀ {d : D} {v : V}, Rp Γ f H d v → Rp Γ' f H d v
  | .non, _, h => by simp only [Rp] at h ⊢; exact h
  | .bl _, _, h => by simp only [Rp] at h ⊢; exact h
  | .int _, _, h => by simp only [Rp] at h ⊢; exact h
  | .str _, _, h => by simp only [Rp] at h ⊢; exact h
  | .tup ds, _, h => by
    simp only [Rp] at h ⊢
    obtain ⟨a, vs, e, q, r⟩ := h
    exact ⟨a, vs, e, by rw [← s.K]; exact q, RpL.sim s r⟩
  | .rol ds, _, h => by
    simp only [Rp] at h ⊢
    obtain ⟨a, vs, e, q, r⟩ := h
    exact ⟨a, vs, e, by rw [← s.K]; exact q, RpL.sim s r⟩
  | .ref n, _, h => by simp only [Rp] at h ⊢; exact h
  | .ins C ds, _, h => by
    simp only [Rp] at h ⊢
    obtain ⟨a, dx, fvs, e, q, m, r⟩ := h
    exact ⟨a, dx, fvs, e, by rw [← s.c]; exact q, by rw [← s.af]; exact m, by rw [← s.flds]; exact RpF.sim s r⟩
theorem RpL.sim (s : Sim Γ Γ') : ∀ {ds : List D} {vs : List V}, RpL Γ f H ds vs → RpL Γ' f H ds vs
  | [], _, h => by simp only [RpL] at h ⊢; exact h
  | d :: ds, _, h => by
    simp only [RpL] at h ⊢
    obtain ⟨v, r, e, h1, h2⟩ := h
    exact ⟨v, r, e, Rp.sim s h1, RpL.sim s h2⟩
theorem RpF.sim (s : Sim Γ Γ') : ∀ {ds : List D} {ns : List Str} {fs : List (Str × V)}, RpF Γ f H ds ns fs → RpF Γ' f H ds ns fs
  | [], _, _, h => by simp only [RpF]
  | d :: ds, _, _, h => by
    simp only [RpF] at h ⊢
    obtain ⟨x, r, v, e, l, h1, h2⟩ := h
    exact ⟨x, r, v, e, l, Rp.sim s h1, RpF.sim s h2⟩
end
theorem Keep.sim (s : Sim Γ Γ') (k : Keep Γ H H') : Keep Γ' H H' := ⟨k.tup, k.frz, k.xd, fun C a dx fs h => by
  obtain ⟨fs', h1, h2, h3⟩ := k.ins C a dx fs h
  exact ⟨fs', h1, h2, by rw [← s.af]; exact h3⟩⟩
theorem Up.sim (s : Sim Γ Γ') (u : Up Γ f H f' H') : Up Γ' f H f' H' := ⟨u.pre, u.keep.sim s⟩
theorem ROb.sim (s : Sim Γ Γ') {o : Ob} {a : Addr} (h : ROb Γ f H o a) : ROb Γ' f H o a := by
  cases o with
  | lst ds => obtain ⟨vs, h1, h2⟩ := h; exact ⟨vs, h1, h2.sim s⟩
  | dk ds => obtain ⟨vs, h1, h3, h2⟩ := h; exact ⟨vs, h1, h3, h2.sim s⟩
  | dt ds => obtain ⟨vs, h1, h3, h2⟩ := h; exact ⟨vs, h1, h3, h2.sim s⟩
  | obj C ds =>
    obtain ⟨dx, vs, h1, h2, h3⟩ := h
    exact ⟨dx, vs, by rw [← s.c]; exact h1, by rw [← s.flds]; exact h2.sim s, by rw [← s.flds]; exact h3⟩
  | gone => exact h
theorem XRep.sim (s : Sim Γ Γ') {C : Str} {ds : List D} {o : Option Addr} (h : XRep Γ f H C ds o) : XRep Γ' f H C ds o := by
  rcases h with h | ⟨dd, fvs, e1, e2, r⟩
  · exact .inl h
  · exact .inr ⟨dd, fvs, e1, e2, by rw [← s.xfl]; exact r.sim s⟩
theorem RelS.sim (s : Sim Γ Γ') (r : RelS Γ f S H) (hx : ∀ a i C ds o, Γ'.xc = some (a, i, C, ds, o) → XRep Γ' f H C ds o) : RelS Γ' f S H := ⟨r.len, r.nd, fun n o e => by
  obtain ⟨a, h1, h2⟩ := r.ob n o e
  exact ⟨a, h1, h2.sim s⟩, hx⟩
theorem RelE.sim (s : Sim Γ Γ') {env : Env} {σ : L2.St} (r : RelE Γ f H env σ) (hx : ∀ a i C ds o, Γ'.xc = some (a, i, C, ds, o) → env[i]? = some none → σ[i]? = some (some (.ref a))) : RelE Γ' f H env σ := ⟨r.1, fun i d e => by
  obtain ⟨v, h1, h2⟩ := r.2.1 i d e
  exact ⟨v, h1, h2.sim s⟩, hx⟩
end
abbrev G.at_ (Γ : G) (a : Addr) (i : Nat) (C : Str) (ds : List D) (o : Option Addr) : G := { Γ with xc := some (a, i, C, ds, o) }
theorem sim_at (Γ : G) (a : Addr) (i : Nat) (C : Str) (ds : List D) (o : Option Addr) : Sim Γ (Γ.at_ a i C ds o) := ⟨rfl, rfl, rfl, rfl, rfl⟩
theorem sim_un (Γ : G) (a : Addr) (i : Nat) (C : Str) (ds : List D) (o : Option Addr) : Sim (Γ.at_ a i C ds o) Γ := ⟨rfl, rfl, rfl, rfl, rfl⟩
/-! ### try .. except C as n -/
def endAs (i : Nat) : RS → RS
  | .nx e S => .nx (e.set i none) S
  | .bk e S => .bk (e.set i none) S
  | .ct e S => .ct (e.set i none) S
  | .rt d S => .rt d S
  | _ => .bad
def mTryAs (sb : Str → Option Bool) (i : Nat) (mb : MS) (ms : Str → List D → MS) : MS := fun env S => match mb env S with
  | .ex C ds e S1 => (match sb C with
    | some true => endAs i (ms C ds (e.set i none) S1)
    | some false => .ex C ds e S1
    | none => .bad)
  | r => r
theorem PSs.some {X : Cx} {b : List Stmt} {ι : Type} {P : ι → Prop} {t : ι → TS} (h : ∀ i, P i → PSs X b (t i)) : PSs X b (fun D σ H => ∃ i, P i ∧ t i D σ H) := ⟨fun pins s σ H D I ⟨i, p, q⟩ => (h i p).run pins s σ H D I q⟩
section
variable {Γ : G} {W : WX} {X : Cx} {C n : Str} {i : Nat} {body suite : List Stmt} {b₀ : Stmt} {np pos pos' : Pos} {mb : MS} {ms : Str → List D → MS} {sb : Str → Option Bool}
theorem qs_tryAs (hK : X.K = Γ.K) (hx0 : Γ.xc = none) (hsb : ∀ E b, sb E = some b → PySem.W.exmOne Γ.K (.ref (Γ.c E)) (.ref (Γ.c C)) = some b) (hs : X.stack = X.env :: X.outer) (hf : X.env.frame = some X.env.locals) (hN : X.N.Nodup) (hi : X.N[i]? = some n) (hln : X.env.kindOf n = some .local)
    (hc : Names X C (.ref (Γ.c C))) (tk : Takes X W) (hb : ∀ (W' : WX) (pn : List (Addr × Obj)) (xe : Value → Shared → Prop), Takes (X.tr pn xe) W' → PassesOwn (model X.prog X.w) X.A X.env xe → PSs (X.tr pn xe) body (tS Γ W' mb))
    (hsu : ∀ (a : Addr) (oe : Obj) (E : Str) (ds : List D) (d : Option Addr) (pn : List (Addr × Obj)), Zc (.ref (Γ.c E)) d oe → (∃ vs, oe.data = .fields vs) → PSs (X.suite a ((a, oe) :: pn)) (b₀ :: suite) (tS (Γ.at_ a i E ds d) Wno (ms E ds))) :
    PS X (.Try body [.ExceptHandler (some (.Name C np)) (some n) (b₀ :: suite) pos'] [] [] pos) (tS Γ W (mTryAs sb i mb ms)) := by
  refine PS.imp (ps_try_as (Wout := W) (tb := fun W' => tS Γ W' mb) (ts := fun a cls d => fun E σ H => ∃ p : Str × List D, cls = .ref (Γ.c p.1) ∧ tS (Γ.at_ a i p.1 p.2 d) Wno (ms p.1 p.2) E σ H) hs hf hN hi hln hc tk hb fun a oe cls d pn hz hd => PSs.some fun p e => by
    subst e
    exact hsu a oe p.1 p.2 d pn hz hd) fun D σ H ⟨env, S, f, rs, re, h⟩ => ⟨env, S, f, rs, re, ?_⟩
  unfold mTryAs at h
  revert h
  cases mb env S with
  | ex C' ds e S1 =>
    dsimp only
    intro h f1 σ1 H1 o u1 rs1 re1 xr
    cases q : sb C' with
    | none => rw [q] at h; exact h.elim
    | some b =>
      rw [q] at h
      refine ⟨b, by rw [hK]; exact hsb C' b q, fun eb a ha => ?_, fun eb => ?_⟩
      · subst eb
        refine ⟨(C', ds), rfl, e.set i none, S1, f1, rs1.sim (sim_at ..) ?_, (re1.miss hx0 i (some (.ref a))).sim (sim_at ..) ?_, ?_⟩
        · intro a' i2 C2 ds2 o2 e2
          cases e2
          exact xr.sim (sim_at ..)
        · intro a' i2 C2 ds2 o2 e2 q2
          cases e2
          have hl : i < σ1.length := by
            rw [← re1.1]
            have := (List.getElem?_eq_some_iff.mp q2).1
            rwa [List.length_set] at this
          exact List.getElem?_set_self hl
        · have h : WpS Γ W f H D (endAs i (ms C' ds (e.set i none) S1)) := h
          have un : ∀ {f2 : List Addr} {H2 : Hp} {S2 : Store}, RelS (Γ.at_ a i C' ds o) f2 S2 H2 → RelS Γ f2 S2 H2 := fun r => r.sim (sim_un ..) fun a i C ds o e => by
            rw [hx0] at e
            cases e
          have ne : ∀ {f2 : List Addr} {H2 : Hp} {e2 : Env} {σ2 : L2.St}, RelE (Γ.at_ a i C' ds o) f2 H2 e2 σ2 → RelE Γ f2 H2 e2 σ2 := fun r => r.sim (sim_un ..) fun a i C ds o e => by
            rw [hx0] at e
            cases e
          revert h
          cases ms C' ds (e.set i none) S1 with
          | nx e2 S2 => exact fun h f2 σ2 H2 u2 rs2 re2 => h f2 _ H2 (u1.trans (u2.sim (sim_un ..))) (un rs2) ((ne re2).miss hx0 i none)
          | bk e2 S2 => exact fun h f2 σ2 H2 u2 rs2 re2 => h f2 _ H2 (u1.trans (u2.sim (sim_un ..))) (un rs2) ((ne re2).miss hx0 i none)
          | ct e2 S2 => exact fun h f2 σ2 H2 u2 rs2 re2 => h f2 _ H2 (u1.trans (u2.sim (sim_un ..))) (un rs2) ((ne re2).miss hx0 i none)
          | rt d S2 => exact fun h f2 H2 v u2 rs2 r2 => h f2 H2 v (u1.trans (u2.sim (sim_un ..))) (un rs2) (r2.sim (sim_un ..))
          | ex C2 ds2 e2 S2 => exact fun h => h.elim
          | bad => exact fun h => h.elim
      · subst eb
        exact h f1 σ1 H1 o u1 rs1 re1 xr
  | nx e S1 => exact fun h => h
  | bk e S1 => exact fun h => h
  | ct e S1 => exact fun h => h
  | rt d S1 => exact fun h => h
  | bad => exact fun h => h
end
end Lk

set_option Elab.async false
set_option linter.all false
set_option autoImplicit false
set_option maxRecDepth 100000
set_option maxHeartbeats 2000000
namespace Lk
open PySem PySem.Spec PyProof.Rows L2

/-! ### several readings of one operation -/
theorem OpR.or {X : Cx} {f : Value → Value → Sem Value} {r r' : R2} (h : OpR X f r) (h' : OpR X f r') : OpR X f (fun x y H Q => r x y H Q ∨ r' x y H Q) := fun pins s σ H x y v u Q I rx ry z => z.elim (h pins s σ H x y v u Q I rx ry) (h' pins s σ H x y v u Q I rx ry)
theorem CallR.or {X : Cx} {f : Value} {r r' : List V → Hp → VK → Prop} (h : CallR X f r) (h' : CallR X f r') : CallR X f (fun x H Q => r x H Q ∨ r' x H Q) := fun pins s σ H x v Q I rx z => z.elim (h pins s σ H x v Q I rx) (h' pins s σ H x v Q I rx)
section
variable {Γ : G} {W : WX} {X : Cx} {f : List Addr} {H : Hp} {S : Store}
theorem Rp.int {i : Int} {v : V} (h : Rp Γ f H (.int i) v) : v = .int i := by simpa only [Rp] using h
theorem Rp.bl {i : Bool} {v : V} (h : Rp Γ f H (.bl i) v) : v = .bl i := by simpa only [Rp] using h
theorem Rp.str {i : Str} {v : V} (h : Rp Γ f H (.str i) v) : v = .str i := by simpa only [Rp] using h
theorem Rp.non {v : V} (h : Rp Γ f H .non v) : v = .non := by simpa only [Rp] using h
theorem Rp.tup {ds : List D} {v : V} (h : Rp Γ f H (.tup ds) v) : ∃ a vs, v = .ref a ∧ SqT Γ.K H a vs ∧ RpL Γ f H ds vs := by simpa only [Rp] using h
theorem Rp.rol {ds : List D} {v : V} (h : Rp Γ f H (.rol ds) v) : ∃ a vs, v = .ref a ∧ SqR Γ.K H a vs ∧ RpL Γ f H ds vs := by simpa only [Rp] using h
theorem Rp.ref {n : Nat} {v : V} (h : Rp Γ f H (.ref n) v) : ∃ a, f[n]? = some a ∧ v = .ref a := by simpa only [Rp] using h
theorem Rp.ofInt {i : Int} : Rp Γ f H (.int i) (.int i) := by simp only [Rp]
theorem Rp.ofBl {i : Bool} : Rp Γ f H (.bl i) (.bl i) := by simp only [Rp]
theorem Rp.ofStr {i : Str} : Rp Γ f H (.str i) (.str i) := by simp only [Rp]
theorem Rp.ofNon : Rp Γ f H .non .non := by simp only [Rp]
theorem RelS.lst {n : Nat} {xs : List D} {v : V} (rs : RelS Γ f S H) (hn : S[n]? = some (.lst xs)) (r : Rp Γ f H (.ref n) v) : ∃ a vs, f[n]? = some a ∧ v = .ref a ∧ H a = some (.lst vs) ∧ RpL Γ f H xs vs := by
  obtain ⟨a, ha, e⟩ := r.ref
  obtain ⟨b, hb, vs, hh, rv⟩ := rs.ob n _ hn
  rw [ha] at hb
  cases hb
  exact ⟨a, vs, ha, e, hh, rv⟩
theorem RpL.append : ∀ {ds es : List D} {vs us : List V}, RpL Γ f H ds vs → RpL Γ f H es us → RpL Γ f H (ds ++ es) (vs ++ us)
  | [], _, _, _, r, q => by
    simp only [RpL] at r
    subst r
    exact q
  | d :: ds, _, _, _, r, q => by
    simp only [RpL] at r
    obtain ⟨v, vr, e, r1, r2⟩ := r
    subst e
    simp only [List.cons_append, RpL]
    exact ⟨v, _, rfl, r1, RpL.append r2 q⟩
theorem RpL.nil' : RpL Γ f H [] [] := by simp only [RpL]
theorem RpL.drop' : ∀ {ds : List D} {vs : List V} (n : Nat), RpL Γ f H ds vs → RpL Γ f H (ds.drop n) (vs.drop n)
  | _, _, 0, r => r
  | [], _, n + 1, r => by
    simp only [RpL] at r
    subst r
    simp only [List.drop_nil, RpL]
  | d :: ds, _, n + 1, r => by
    simp only [RpL] at r
    obtain ⟨v, vr, e, r1, r2⟩ := r
    subst e
    exact RpL.drop' n r2
theorem RpL.take' : ∀ {ds : List D} {vs : List V} (n : Nat), RpL Γ f H ds vs → RpL Γ f H (ds.take n) (vs.take n)
  | _, _, 0, r => by simp only [List.take_zero, RpL]
  | [], _, n + 1, r => by
    simp only [RpL] at r
    subst r
    simp only [List.take_nil, RpL]
  | d :: ds, _, n + 1, r => by
    simp only [RpL] at r
    obtain ⟨v, vr, e, r1, r2⟩ := r
    subst e
    simp only [List.take_succ_cons, RpL]
    exact ⟨v, _, rfl, r1, RpL.take' n r2⟩
/-! ### + - * // % ** -/
def gAdd : D → D → Store → R D
  | .int i, .int j, S => .ok (.int (i + j)) S
  | .tup a, .tup b, S => if a.length + b.length ≤ lim then .ok (.tup (a ++ b)) S else .bad
  | .ref n, .ref m, S => (match S[n]?, S[m]? with
    | some (.lst a), some (.lst b) => if a.length + b.length ≤ lim then .ok (.ref S.length) (S ++ [.lst (a ++ b)]) else .bad
    | _, _ => .bad)
  | _, _, _ => .bad
def rAddX (K : PySem.W.Frag) : R2 := fun x y H Q => rI0 (fun i j => .int (i + j)) x y H Q ∨ (rCatA K x y H Q ∨ rCat x y H Q)
theorem or_add : OpR X (binaryOp .Add) (rAddX X.K) := OpR.or op_add (OpR.or op_catA op_cat)
theorem ok_add : OpOk Γ (rAddX Γ.K) gAdd := fun W σ f S H x y v u Q rs rx ry h => by
  unfold gAdd at h
  split at h
  · rename_i i j
    exact .inl ⟨i, j, rx.int, ry.int, h f H _ .refl rs Rp.ofInt⟩
  · rename_i a b
    split at h
    · rename_i hl
      obtain ⟨p, ps, e1, s1, r1⟩ := rx.tup
      obtain ⟨q, qs, e2, s2, r2⟩ := ry.tup
      refine .inr (.inl ⟨p, q, ps, qs, e1, e2, s1, s2, by rw [← r1.length, ← r2.length, lim_eq]; exact hl, fun e => ?_, fun _ e => ?_, fun _ _ z hz => ?_⟩)
      · subst e
        have ea : a = [] := List.length_eq_zero_iff.mp r1.length
        subst ea
        exact h f H _ .refl rs (Rp.tupI s2 r2)
      · subst e
        have eb : b = [] := List.length_eq_zero_iff.mp r2.length
        subst eb
        rw [List.append_nil] at h
        exact h f H _ .refl rs (Rp.tupI s1 r1)
      · exact h f _ _ (.new hz) (rs.newT hz) (Rp.tupI (SqT.of upd_same) ((r1.append r2).up (.new hz)))
    · exact h.elim
  · rename_i n m
    split at h
    · rename_i a b hn hm
      split at h
      · rename_i hl
        obtain ⟨p, ps, _, e1, s1, r1⟩ := rs.lst hn rx
        obtain ⟨q, qs, _, e2, s2, r2⟩ := rs.lst hm ry
        refine .inr (.inr ⟨p, q, ps, qs, e1, e2, s1, s2, by rw [← r1.length, ← r2.length, lim_eq]; exact hl, fun z hz => ?_⟩)
        exact h (f ++ [z]) _ _ (.alloc hz) (rs.alloc hz ⟨_, upd_same, (r1.append r2).up (.alloc hz)⟩) (Rp.refI (by rw [← rs.len]; simp))
      · exact h.elim
    · exact h.elim
  · exact h.elim
def gSub : D → D → Store → R D
  | .int i, .int j, S => .ok (.int (i - j)) S
  | _, _, _ => .bad
theorem ok_sub : OpOk Γ (rI0 fun i j => .int (i - j)) gSub := fun W σ f S H x y v u Q rs rx ry h => by
  unfold gSub at h
  split at h
  · rename_i i j
    exact ⟨i, j, rx.int, ry.int, h f H _ .refl rs Rp.ofInt⟩
  · exact h.elim
def bits (i : Int) : Nat := i.natAbs.log2
def gMul : D → D → Store → R D
  | .int i, .int j, S => if bits i + bits j < 1000000 then .ok (.int (i * j)) S else .bad
  | .ref n, .int k, S => (match S[n]? with
    | some (.lst a) => if -(2 ^ 63) ≤ k ∧ k < 2 ^ 63 ∧ a.length * k.toNat ≤ lim then .ok (.ref S.length) (S ++ [.lst (List.replicate k.toNat a).flatten]) else .bad
    | _ => .bad)
  | _, _, _ => .bad
/-- floor division and its rest, by any divisor but 0 -/
def fdv (i j : Int) : Int := if 0 < j then i / j else (-i) / (-j)
def fmd (i j : Int) : Int := if 0 < j then i % j else -((-i) % (-j))
theorem fdv_eq {i j : Int} (h : j ≠ 0) : i.fdiv j = fdv i j := by
  unfold fdv
  split
  · exact Int.fdiv_eq_ediv_of_nonneg i (by omega)
  · rw [← Int.neg_fdiv_neg]
    exact Int.fdiv_eq_ediv_of_nonneg _ (by omega)
theorem fmd_eq {i j : Int} (h : j ≠ 0) : i.fmod j = fmd i j := by
  unfold fmd
  split
  · exact Int.fmod_eq_emod_of_nonneg i (by omega)
  · have h1 := Int.fmod_eq_emod_of_nonneg (-i) (b := -j) (by omega)
    rw [← h1]
    have h2 := Int.mul_fdiv_add_fmod i j
    have h3 := Int.mul_fdiv_add_fmod (-i) (-j)
    rw [Int.neg_fdiv_neg, Int.neg_mul] at h3
    omega
def CDivA (_ j : Int) : Prop := j ≠ 0 ∧ j.natAbs.log2 < 9000
theorem op_fdivA {X : Cx} : OpR X (binaryOp .FloorDiv) (rI CDivA fun i j => .int (i.fdiv j)) := opI fun _ _ _ _ _ _ _ hc q => floordiv_int hc.1 q (.inl (PyProof.noPylong_of_log2 hc.2))
def gDiv : D → D → Store → R D
  | .int i, .int j, S => if j ≠ 0 ∧ bits j < 9000 then .ok (.int (fdv i j)) S else .bad
  | _, _, _ => .bad
theorem ok_div : OpOk Γ (rI CDivA fun i j => .int (i.fdiv j)) gDiv := fun W σ f S H x y v u Q rs rx ry h => by
  unfold gDiv at h
  split at h
  · rename_i i j
    split at h
    · rename_i c
      refine ⟨i, j, rx.int, ry.int, c, ?_⟩
      show Q (.int (i.fdiv j)) H
      rw [fdv_eq c.1]
      exact h f H _ .refl rs Rp.ofInt
    · exact h.elim
  · exact h.elim
def gMod : D → D → Store → R D
  | .int i, .int j, S => if j ≠ 0 then .ok (.int (fmd i j)) S else .bad
  | _, _, _ => .bad
theorem ok_mod : OpOk Γ (rI (fun _ j => j ≠ 0) fun i j => .int (i.fmod j)) gMod := fun W σ f S H x y v u Q rs rx ry h => by
  unfold gMod at h
  split at h
  · rename_i i j
    split at h
    · rename_i c
      refine ⟨i, j, rx.int, ry.int, c, ?_⟩
      show Q (.int (i.fmod j)) H
      rw [fmd_eq c]
      exact h f H _ .refl rs Rp.ofInt
    · exact h.elim
  · exact h.elim
def gPow : D → D → Store → R D
  | .int i, .int j, S => if 0 ≤ j ∧ j ≤ 1000000 ∧ i.natAbs < 2 ^ 64 then .ok (.int (i ^ j.toNat)) S else .bad
  | _, _, _ => .bad
theorem ok_pow : OpOk Γ (rI CPow fun i j => .int (i ^ j.toNat)) gPow := fun W σ f S H x y v u Q rs rx ry h => by
  unfold gPow at h
  split at h
  · rename_i i j
    split at h
    · rename_i c
      exact ⟨i, j, rx.int, ry.int, c, h f H _ .refl rs Rp.ofInt⟩
    · exact h.elim
  · exact h.elim
def rMulX : R2 := fun x y H Q => rI CMulW (fun i j => .int (i * j)) x y H Q ∨ rRep x y H Q
theorem or_mul : OpR X (binaryOp .Mult) rMulX := OpR.or op_mulW op_rep
theorem RpL.rep {ds : List D} {vs : List V} (r : RpL Γ f H ds vs) : ∀ n : Nat, RpL Γ f H (List.replicate n ds).flatten (List.replicate n vs).flatten
  | 0 => by simp only [List.replicate_zero, List.flatten_nil, RpL]
  | n + 1 => by
    rw [List.replicate_succ, List.replicate_succ, List.flatten_cons, List.flatten_cons]
    exact r.append (RpL.rep r n)
theorem ok_mul : OpOk Γ rMulX gMul := fun W σ f S H x y v u Q rs rx ry h => by
  unfold gMul at h
  split at h
  · rename_i i j
    split at h
    · rename_i c
      exact .inl ⟨i, j, rx.int, ry.int, c, h f H _ .refl rs Rp.ofInt⟩
    · exact h.elim
  · rename_i n k
    split at h
    · rename_i a hn
      split at h
      · rename_i c
        obtain ⟨p, ps, _, e1, s1, r1⟩ := rs.lst hn rx
        refine .inr ⟨p, k, ps, e1, ry.int, s1, c.1, c.2.1, by rw [← r1.length, lim_eq]; exact c.2.2, fun z hz => ?_⟩
        exact h (f ++ [z]) _ _ (.alloc hz) (rs.alloc hz ⟨_, upd_same, (r1.rep k.toNat).up (.alloc hz)⟩) (Rp.refI (by rw [← rs.len]; simp))
      · exact h.elim
    · exact h.elim
  · exact h.elim
def gNeg : D → Store → R D
  | .int i, S => .ok (.int (-i)) S
  | _, _ => .bad
theorem ok_neg : UnOk Γ (rU fun i => .int (-i)) gNeg := fun W σ f S H x v Q rs rx h => by
  unfold gNeg at h
  split at h
  · rename_i i
    exact ⟨i, rx.int, h f H _ .refl rs Rp.ofInt⟩
  · exact h.elim
/-! ### order, None -/
def gCmp (p : Int → Int → Bool) : D → D → Store → R D
  | .int i, .int j, S => .ok (.bl (p i j)) S
  | _, _, _ => .bad
theorem ok_cmp {p : Int → Int → Bool} : OpOk Γ (rI0 fun i j => .bl (p i j)) (gCmp p) := fun W σ f S H x y v u Q rs rx ry h => by
  unfold gCmp at h
  split at h
  · rename_i i j
    exact ⟨i, j, rx.int, ry.int, h f H _ .refl rs Rp.ofBl⟩
  · exact h.elim
def isNonD : D → Bool
  | .non => true
  | _ => false
theorem Rp.isNon {d : D} {v : V} (h : Rp Γ f H d v) : decide (v = .non) = isNonD d := by
  cases d with
  | non => rw [h.non]; rfl
  | bl b => rw [h.bl]; rfl
  | int b => rw [h.int]; rfl
  | str b => rw [h.str]; rfl
  | tup b => obtain ⟨a, vs, e, _⟩ := h.tup; rw [e]; rfl
  | rol b => obtain ⟨a, vs, e, _⟩ := h.rol; rw [e]; rfl
  | ref b => obtain ⟨a, _, e⟩ := h.ref; rw [e]; rfl
  | ins C ds =>
    simp only [Rp] at h
    obtain ⟨a, dx, fvs, e, _⟩ := h
    rw [e]
    rfl
def gIsN : D → D → Store → R D
  | x, .non, S => .ok (.bl (isNonD x)) S
  | _, _, _ => .bad
def gNotN : D → D → Store → R D
  | x, .non, S => .ok (.bl (!isNonD x)) S
  | _, _, _ => .bad
theorem ok_isN : OpOk Γ (fun x y H Q => y = .non ∧ Q (.bl (decide (x = .non))) H) gIsN := fun W σ f S H x y v u Q rs rx ry h => by
  unfold gIsN at h
  split at h
  · refine ⟨ry.non, ?_⟩
    rw [rx.isNon]
    exact h f H _ .refl rs Rp.ofBl
  · exact h.elim
theorem ok_notN : OpOk Γ (fun x y H Q => y = .non ∧ Q (.bl (!decide (x = .non))) H) gNotN := fun W σ f S H x y v u Q rs rx ry h => by
  unfold gNotN at h
  split at h
  · refine ⟨ry.non, ?_⟩
    rw [rx.isNon]
    exact h f H _ .refl rs Rp.ofBl
  · exact h.elim
/-! ### items, slices -/
def listOf (S : Store) : D → Option (List D)
  | .tup ds => some ds
  | .rol ds => some ds
  | .ref n => (match S[n]? with
    | some (.lst ds) => some ds
    | _ => none)
  | _ => none
def gIx : D → D → Store → R D
  | x, .int i, S => (match listOf S x with
    | some ds => (match atI ds i with
      | some d => .ok d S
      | none => .bad)
    | none => .bad)
  | _, _, _ => .bad
theorem ix_at {ds : List D} {vs : List V} {i : Int} {d : D} (r : RpL Γ f H ds vs) (h : atI ds i = some d) : ∃ v, atI vs i = some v ∧ Rp Γ f H d v := by
  unfold atI at h ⊢
  rw [← r.length]
  cases q : ixN ds.length i with
  | none => rw [q] at h; cases h
  | some j =>
    rw [q] at h
    exact RpL.get r h
theorem listOf_ok {d : D} {v : V} {ds : List D} (rs : RelS Γ f S H) (r : Rp Γ f H d v) (h : listOf S d = some ds) : ∃ a vs, v = .ref a ∧ RpL Γ f H ds vs ∧ ((SqT Γ.K H a vs ∧ d = .tup ds) ∨ (SqL Γ.K H a vs ∧ ∀ es, d ≠ .tup es)) := by
  cases d with
  | tup es =>
    have e : es = ds := Option.some.inj h
    subst e
    obtain ⟨a, vs, e, s, r⟩ := r.tup
    exact ⟨a, vs, e, r, .inl ⟨s, rfl⟩⟩
  | rol es =>
    have e : es = ds := Option.some.inj h
    subst e
    obtain ⟨a, vs, e, s, r⟩ := r.rol
    exact ⟨a, vs, e, r, .inr ⟨s.1, fun _ z => by cases z⟩⟩
  | ref n =>
    have h : (match S[n]? with
      | some (.lst ds) => some ds
      | _ => none) = some ds := h
    split at h
    · rename_i es hn
      cases h
      obtain ⟨a, vs, _, e, hh, rv⟩ := rs.lst hn r
      exact ⟨a, vs, e, rv, .inr ⟨SqL.of hh, fun _ z => by cases z⟩⟩
    · cases h
  | _ => cases h
theorem ok_ix : OpOk Γ (rIx Γ.K) gIx := fun W σ f S H x y v u Q rs rx ry h => by
  unfold gIx at h
  split at h
  · rename_i i
    split at h
    · rename_i ds hds
      split at h
      · rename_i d hd
        obtain ⟨a, vs, e, r, s⟩ := listOf_ok rs rx hds
        obtain ⟨w, hw, rw'⟩ := ix_at r hd
        rcases s with ⟨s, _⟩ | ⟨s, _⟩
        · exact .inr (.inl ⟨a, vs, i, w, e, ry.int, s, hw, h f H _ .refl rs rw'⟩)
        · exact .inl ⟨a, vs, i, w, e, ry.int, s, hw, h f H _ .refl rs rw'⟩
      · exact h.elim
    · exact h.elim
  · exact h.elim
/-- the bounds of a slice -/
def toO (o : Option ME) : Env → Store → R (Option Int) := match o with
  | none => fun _ S => .ok none S
  | some m => fun env S => (m env S).bind fun d S1 => match d with
    | .int i => .ok (some i) S1
    | _ => .bad
def tO (Γ : G) (W : WX) (m : Env → Store → R (Option Int)) : TO := fun σ H Q => ∃ env S f, RelS Γ f S H ∧ RelE Γ f H env σ ∧ Wp Γ W σ f H (fun _ _ a b => a = b) Q (m env S)
theorem PO.imp {e : Option Expr} {t t' : TO} (h : PO X e t) (i : ∀ σ H Q, t' σ H Q → t σ H Q) : PO X e t' := ⟨fun pins s σ H Q I q => h.run pins s σ H Q I (i σ H Q q)⟩
theorem qo_none : PO X none (tO Γ W (toO none)) := PO.imp po_none fun σ H Q ⟨env, S, f, rs, re, h⟩ => h f H none .refl rs rfl
theorem qo_some {e : Expr} {m : ME} (h : PE X e (tE Γ W m)) : PO X (some e) (tO Γ W (toO (some m))) := PO.imp (po_some h) fun σ H Q ⟨env, S, f, rs, re, h⟩ => ⟨env, S, f, rs, re, Wp.bindL h fun d S1 f1 H1 v u1 rs1 r1 h1 => by
  cases d with
  | int i => exact ⟨i, r1.int, h1 f1 H1 _ .refl rs1 rfl⟩
  | _ => exact h1.elim⟩
def cutD (xs : List D) (lo hi : Option Int) : List D := (xs.drop (HT.sIx xs.length 0 lo)).take (HT.sIx xs.length xs.length hi - HT.sIx xs.length 0 lo)
def gSl (d : D) (lo hi : Option Int) (S : Store) : R D := match listOf S d with
  | some ds => (match d with
    | .tup _ => .ok (.tup (cutD ds lo hi)) S
    | _ => .ok (.ref S.length) (S ++ [.lst (cutD ds lo hi)]))
  | none => .bad
def mSl (a : ME) (lo hi : Option ME) : ME := fun env S => (a env S).bind fun d S1 => (toO lo env S1).bind fun l S2 => (toO hi env S2).bind fun h S3 => gSl d l h S3
theorem SlR.or {r r' : V → Option Int → Option Int → Hp → VK → Prop} (h : SlR X r) (h' : SlR X r') : SlR X (fun x l u H Q => r x l u H Q ∨ r' x l u H Q) := fun pins s σ H x v vl vu lo hi sl Q I rx hs pl pu z => z.elim (h pins s σ H x v vl vu lo hi sl Q I rx hs pl pu) (h' pins s σ H x v vl vu lo hi sl Q I rx hs pl pu)
theorem RpL.cut' {ds : List D} {vs : List V} {lo hi : Option Int} (r : RpL Γ f H ds vs) : RpL Γ f H (cutD ds lo hi) (cutV vs lo hi) := by
  unfold cutD cutV
  rw [r.length]
  exact (r.drop' _).take' _
theorem q_sl {e : Expr} {lo hi : Option Expr} {ma : ME} {ml mh : Option ME} {p2 pos : Pos} (hK : X.K = Γ.K) (he : PE X e (tE Γ W ma)) (hl : PO X lo (tO Γ W (toO ml))) (hu : PO X hi (tO Γ W (toO mh))) : PE X (.Subscript e (.Slice lo hi none p2) pos) (tE Γ W (mSl ma ml mh)) :=
  PE.imp (pe_slice (SlR.or sl_list sl_tupA) he hl hu) fun σ H Q ⟨env, S, f, rs, re, h⟩ => ⟨env, S, f, rs, re, Wp.bindL h fun d S1 f1 H1 v u1 rs1 r1 h1 => ⟨env, S1, f1, rs1, re.up u1, Wp.bindL h1 fun l S2 f2 H2 l' u2 rs2 r2 h2 => ⟨env, S2, f2, rs2, (re.up u1).up u2, Wp.bindL h2 fun m S3 f3 H3 m' u3 rs3 r3 h3 => by
    subst r2
    subst r3
    have rd := r1.up (u2.trans u3)
    unfold gSl at h3
    split at h3
    · rename_i ds hds
      obtain ⟨a, vs, ev, rv, s⟩ := listOf_ok rs3 rd hds
      rcases s with ⟨s, ed⟩ | ⟨s, ed⟩
      · subst ed
        refine .inr ⟨a, vs, ev, by rw [hK]; exact s, fun c => ?_, fun _ p hp => ?_⟩
        · have ec : cutD ds l m = ds := by
            unfold cutD
            rw [rv.length, c.1, c.2]
            simp [← rv.length]
          have h3 : Wp Γ W σ f3 H3 (Rp Γ) Q (.ok (.tup (cutD ds l m)) S3) := h3
          rw [ec] at h3
          exact h3 f3 H3 _ .refl rs3 (Rp.tupI s rv)
        · exact h3 f3 _ _ (.new hp) (rs3.newT hp) (Rp.tupI (SqT.of upd_same) (rv.cut'.up (.new hp)))
      · refine .inl ⟨a, vs, ev, by rw [hK]; exact s, fun p hp => ?_⟩
        have h4 : Wp Γ W σ f3 H3 (Rp Γ) Q (.ok (.ref S3.length) (S3 ++ [.lst (cutD ds l m)])) := by
          revert h3
          cases d with
          | tup es => exact fun _ => absurd rfl (ed es)
          | _ => exact fun h => h
        exact h4 (f3 ++ [p]) _ _ (.alloc hp) (rs3.alloc hp ⟨_, upd_same, rv.cut'.up (.alloc hp)⟩) (Rp.refI (by rw [← rs3.len]; simp))
    · exact h3.elim⟩⟩⟩
/-! ### stores into lists -/
def stIx (d : D) (env : Env) : D → D → Store → R Env
  | .ref n, .int k, S2 => (match S2[n]? with
    | some (.lst ds) => (match ixN ds.length k with
      | some j => .ok env (S2.set n (.lst (ds.set j d)))
      | none => .bad)
    | _ => .bad)
  | _, _, _ => .bad
def gSub' (o i : ME) : MG := fun d env S => (o env S).bind fun x S1 => (i env S1).bind fun y S2 => stIx d env x y S2
def GP (Γ : G) (f : List Addr) (H : Hp) (Q : L2.St → Hp → Prop) : R Env → Prop
  | .ok e S' => ∀ f' σ' H', Up Γ f H f' H' → RelS Γ f' S' H' → RelE Γ f' H' e σ' → Q σ' H'
  | _ => False
theorem GP.mono {f' : List Addr} {H' : Hp} {Q : L2.St → Hp → Prop} {r : R Env} (u : Up Γ f H f' H') (h : GP Γ f H Q r) : GP Γ f' H' Q r := by
  cases r with
  | ok e S' => exact fun f2 σ2 H2 u2 => h f2 σ2 H2 (u.trans u2)
  | _ => exact h
theorem RpL.set' : ∀ {ds : List D} {vs : List V} {d : D} {v : V} (j : Nat), RpL Γ f H ds vs → Rp Γ f H d v → RpL Γ f H (ds.set j d) (vs.set j v)
  | [], _, _, _, j, r, q => by
    simp only [RpL] at r
    subst r
    simp only [List.set_nil, RpL]
  | x :: xs, _, d, v, 0, r, q => by
    simp only [RpL] at r
    obtain ⟨w, vr, e, r1, r2⟩ := r
    subst e
    simp only [List.set_cons_zero, RpL]
    exact ⟨v, vr, rfl, q, r2⟩
  | x :: xs, _, d, v, j + 1, r, q => by
    simp only [RpL] at r
    obtain ⟨w, vr, e, r1, r2⟩ := r
    subst e
    simp only [List.set_cons_succ, RpL]
    exact ⟨w, _, rfl, r1, RpL.set' j r2 q⟩
theorem Wp.bindG {α β : Type} {σ : L2.St} {rep : List Addr → Hp → α → β → Prop} {Q : L2.St → Hp → Prop} {Q1 : β → Hp → Prop} {r : R α} {k : α → Store → R Env} (h : GP Γ f H Q (r.bind k))
    (hk : ∀ a S1 f1 H1 b, Up Γ f H f1 H1 → RelS Γ f1 S1 H1 → rep f1 H1 a b → GP Γ f1 H1 Q (k a S1) → Q1 b H1) : Wp Γ W σ f H rep Q1 r := by
  cases r with
  | ok a S1 => exact fun f1 H1 b u1 r1 p => hk a S1 f1 H1 b u1 r1 p (GP.mono u1 h)
  | ex C ds S1 => exact h.elim
  | bad => exact h.elim
theorem qg_sub {o i : Expr} {mo mi : ME} {pos : Pos} (ho : PE X o (tE Γ W mo)) (hi : PE X i (tE Γ W mi)) (ha : ∀ v, assign (.Subscript o i pos) X.env v = (do
      let ov ← holding [v] (eval o X.env)
      let iv ← holding [v, ov] (eval i X.env)
      standAt pos
      holding [v, ov, iv] (setItem ov iv v)
      release [v, ov, iv] []) := by intro _; rfl) : PG X (.Subscript o i pos) (tG Γ (gSub' mo mi)) := by
  refine PG.imp (pg_sub ho hi set_list ha) fun v σ H Q ⟨d, env, S, f, rs, re, r, h⟩ => ?_
  have h : GP Γ f H Q (gSub' mo mi d env S) := by
    revert h
    cases gSub' mo mi d env S with
    | ok e S' => exact fun h => h
    | _ => exact fun h => h
  refine ⟨env, S, f, rs, re, Wp.bindG h fun x S1 f1 H1 vx u1 rs1 r1 h1 => ⟨env, S1, f1, rs1, re.up u1, Wp.bindG h1 fun y S2 f2 H2 vy u2 rs2 r2 h2 => ?_⟩⟩
  unfold stIx at h2
  split at h2
  · rename_i n k
    split at h2
    · rename_i ds hn
      split at h2
      · rename_i j hj
        obtain ⟨a, vs, ha, e, hh, rv⟩ := rs2.lst hn (r1.up u2)
        have uc : Up Γ f2 H2 f2 (upd H2 a (.lst (vs.set j v))) := .chg hh trivial
        exact ⟨a, vs, k, j, e, r2.int, hh, by rw [← rv.length]; exact hj, h2 f2 σ _ uc (rs2.set ha (.chg hh trivial) ⟨_, upd_same, (rv.set' j (r.up (u1.trans u2))).up uc⟩) (re.up (u1.trans (u2.trans uc)))⟩
      · exact h2.elim
    · exact h2.elim
  · exact h2.elim
end
end Lk

set_option Elab.async false
set_option linter.all false
set_option autoImplicit false
set_option maxRecDepth 100000
set_option maxHeartbeats 2000000
namespace Lk
open PySem PySem.Spec PyProof.Rows L2

section
variable {Γ : G} {W : WX} {X : Cx} {f : List Addr} {H : Hp} {S : Store}
/-! ### built-ins -/
def dInts : List D → Option (List Int)
  | [] => some []
  | .int i :: ds => (dInts ds).map (i :: ·)
  | _ :: _ => none
def dBools : List D → Option (List Bool)
  | [] => some []
  | .bl i :: ds => (dBools ds).map (i :: ·)
  | _ :: _ => none
theorem dInts_ok : ∀ {ds : List D} {is : List Int} {vs : List V}, dInts ds = some is → RpL Γ f H ds vs → vs = is.map V.int
  | [], is, vs, h, r => by
    simp only [RpL] at r
    cases h
    exact r
  | .int i :: ds, is, vs, h, r => by
    simp only [RpL] at r
    obtain ⟨v, vr, e, r1, r2⟩ := r
    have h : (dInts ds).map (i :: ·) = some is := h
    cases q : dInts ds with
    | none => rw [q] at h; cases h
    | some js =>
      rw [q] at h
      cases h
      rw [e, r1.int, dInts_ok q r2]
      rfl
  | .non :: _, _, _, h, _ => by cases h
  | .bl _ :: _, _, _, h, _ => by cases h
  | .str _ :: _, _, _, h, _ => by cases h
  | .tup _ :: _, _, _, h, _ => by cases h
  | .rol _ :: _, _, _, h, _ => by cases h
  | .ref _ :: _, _, _, h, _ => by cases h
  | .ins _ _ :: _, _, _, h, _ => by cases h
theorem dBools_ok : ∀ {ds : List D} {is : List Bool} {vs : List V}, dBools ds = some is → RpL Γ f H ds vs → vs = is.map V.bl
  | [], is, vs, h, r => by
    simp only [RpL] at r
    cases h
    exact r
  | .bl i :: ds, is, vs, h, r => by
    simp only [RpL] at r
    obtain ⟨v, vr, e, r1, r2⟩ := r
    have h : (dBools ds).map (i :: ·) = some is := h
    cases q : dBools ds with
    | none => rw [q] at h; cases h
    | some js =>
      rw [q] at h
      cases h
      rw [e, r1.bl, dBools_ok q r2]
      rfl
  | .non :: _, _, _, h, _ => by cases h
  | .int _ :: _, _, _, h, _ => by cases h
  | .str _ :: _, _, _, h, _ => by cases h
  | .tup _ :: _, _, _, h, _ => by cases h
  | .rol _ :: _, _, _, h, _ => by cases h
  | .ref _ :: _, _, _, h, _ => by cases h
  | .ins _ _ :: _, _, _, h, _ => by cases h
def gLen : List D → Store → R D
  | [.str z], S => if z.length ≤ lim then .ok (.int z.length) S else .bad
  | [.ref n], S => (match S[n]? with
    | some (.lst ds) => .ok (.int ds.length) S
    | some (.dk ds) => .ok (.int ds.length) S
    | _ => .bad)
  | [.tup ds], S => .ok (.int ds.length) S
  | [.rol ds], S => .ok (.int ds.length) S
  | _, _ => .bad
def rLenX (K : PySem.W.Frag) : List V → Hp → VK → Prop := fun xs H Q => (∃ x n, xs = [x] ∧ LenV K x H n ∧ Q (.int n) H) ∨ (∃ a kvs, xs = [V.ref a] ∧ H a = some (.dK kvs) ∧ Q (.int kvs.length) H)
theorem cr_len : CallR X (.builtin "len") (rLenX X.K) := CallR.or call_len call_lenD
theorem ok_len : ArOk Γ (rLenX Γ.K) gLen := fun W σ f S H xs vs Q rs r h => by
  unfold gLen at h
  split at h
  · rename_i z
    split at h
    · rename_i hl
      obtain ⟨v, e, rv⟩ := r.one
      refine .inl ⟨_, z.length, e, ?_, h f H _ .refl rs Rp.ofInt⟩
      rw [rv.str]
      exact ⟨by rw [lim_eq]; exact hl, rfl⟩
    · exact h.elim
  · rename_i n
    obtain ⟨v, e, rv⟩ := r.one
    split at h
    · rename_i ds hn
      obtain ⟨a, us, _, ev, hh, ru⟩ := rs.lst hn rv
      refine .inl ⟨_, ds.length, e, ?_, h f H _ .refl rs Rp.ofInt⟩
      rw [ev]
      exact .inl ⟨us, SqL.of hh, ru.length⟩
    · rename_i ds hn
      obtain ⟨a, ha, ev⟩ := rv.ref
      obtain ⟨b, hb, us, hh, ek, ru⟩ := rs.ob n _ hn
      rw [ha] at hb
      cases hb
      refine .inr ⟨a, us, by rw [e, ev], hh, ?_⟩
      have el : us.length = ds.length := by
        have := congrArg List.length ek
        rwa [List.length_map, List.length_map] at this
      rw [el]
      exact h f H _ .refl rs Rp.ofInt
    · exact h.elim
  · rename_i ds
    obtain ⟨v, e, rv⟩ := r.one
    obtain ⟨a, us, ev, hs, ru⟩ := rv.tup
    refine .inl ⟨_, ds.length, e, ?_, h f H _ .refl rs Rp.ofInt⟩
    rw [ev]
    exact .inr ⟨us, hs, ru.length⟩
  · rename_i ds
    obtain ⟨v, e, rv⟩ := r.one
    obtain ⟨a, us, ev, hs, ru⟩ := rv.rol
    refine .inl ⟨_, ds.length, e, ?_, h f H _ .refl rs Rp.ofInt⟩
    rw [ev]
    exact .inl ⟨us, hs.1, ru.length⟩
  · exact h.elim
def gInt : List D → Store → R D
  | [.int i], S => .ok (.int i) S
  | [.bl b], S => .ok (.int (if b then 1 else 0)) S
  | _, _ => .bad
theorem ok_int : ArOk Γ (fun xs H Q => (∃ i, xs = [.int i] ∧ Q (.int i) H) ∨ ∃ k, xs = [.bl k] ∧ Q (.int (if k then 1 else 0)) H) gInt := fun W σ f S H xs vs Q rs r h => by
  unfold gInt at h
  split at h
  · obtain ⟨v, e, rv⟩ := r.one
    exact .inl ⟨_, by rw [e, rv.int], h f H _ .refl rs Rp.ofInt⟩
  · obtain ⟨v, e, rv⟩ := r.one
    exact .inr ⟨_, by rw [e, rv.bl], h f H _ .refl rs Rp.ofInt⟩
  · exact h.elim
def gAbs : List D → Store → R D
  | [.int i], S => .ok (.int (if i < 0 then -i else i)) S
  | _, _ => .bad
theorem ok_abs : ArOk Γ (fun xs H Q => ∃ i, xs = [.int i] ∧ Q (.int (if i < 0 then -i else i)) H) gAbs := fun W σ f S H xs vs Q rs r h => by
  unfold gAbs at h
  split at h
  · obtain ⟨v, e, rv⟩ := r.one
    exact ⟨_, by rw [e, rv.int], h f H _ .refl rs Rp.ofInt⟩
  · exact h.elim
def gMax2 : List D → Store → R D
  | [.int i, .int j], S => .ok (.int (if j > i then j else i)) S
  | _, _ => .bad
theorem ok_max2 : ArOk Γ (fun xs H Q => ∃ i j, xs = [.int i, .int j] ∧ Q (.int (if j > i then j else i)) H) gMax2 := fun W σ f S H xs vs Q rs r h => by
  unfold gMax2 at h
  split at h
  · obtain ⟨v, u, e, rv, ru⟩ := r.two
    exact ⟨_, _, by rw [e, rv.int, ru.int], h f H _ .refl rs Rp.ofInt⟩
  · exact h.elim
def gMin2 : List D → Store → R D
  | [.int i, .int j], S => .ok (.int (if j < i then j else i)) S
  | _, _ => .bad
theorem ok_min2 : ArOk Γ (fun xs H Q => ∃ i j, xs = [.int i, .int j] ∧ Q (.int (if j < i then j else i)) H) gMin2 := fun W σ f S H xs vs Q rs r h => by
  unfold gMin2 at h
  split at h
  · obtain ⟨v, u, e, rv, ru⟩ := r.two
    exact ⟨_, _, by rw [e, rv.int, ru.int], h f H _ .refl rs Rp.ofInt⟩
  · exact h.elim
def gGcd : List D → Store → R D
  | [.int i, .int j], S => .ok (.int ((Nat.gcd i.natAbs j.natAbs : Nat) : Int)) S
  | _, _ => .bad
theorem ok_gcd : ArOk Γ rGcd gGcd := fun W σ f S H xs vs Q rs r h => by
  unfold gGcd at h
  split at h
  · obtain ⟨v, u, e, rv, ru⟩ := r.two
    exact ⟨_, _, by rw [e, rv.int, ru.int], h f H _ .refl rs Rp.ofInt⟩
  · exact h.elim
/-- of a list that stands in the store, or is read alone -/
def onL (k : List D → Store → R D) : List D → Store → R D
  | [.ref n], S => (match S[n]? with
    | some (.lst ds) => k ds S
    | _ => .bad)
  | [.rol ds], S => k ds S
  | _, _ => .bad
theorem onL_ok {r : List V → Hp → VK → Prop} {k : List D → Store → R D} (hk : ∀ (W : WX) (σ : L2.St) (f : List Addr) (S : Store) (H : Hp) (a : Addr) (ds : List D) (us : List V) (Q : VK), RelS Γ f S H → SqL Γ.K H a us → RpL Γ f H ds us → Wp Γ W σ f H (Rp Γ) Q (k ds S) → r [.ref a] H Q) : ArOk Γ r (onL k) := fun W σ f S H xs vs Q rs r h => by
  unfold onL at h
  split at h
  · rename_i n
    obtain ⟨v, e, rv⟩ := r.one
    split at h
    · rename_i ds hn
      obtain ⟨a, us, _, ev, hh, ru⟩ := rs.lst hn rv
      rw [e, ev]
      exact hk W σ f S H a ds us Q rs (SqL.of hh) ru h
    · exact h.elim
  · rename_i ds
    obtain ⟨v, e, rv⟩ := r.one
    obtain ⟨a, us, ev, hs, ru⟩ := rv.rol
    rw [e, ev]
    exact hk W σ f S H a ds us Q rs hs.1 ru h
  · exact h.elim
def gSum : List D → Store → R D := onL fun ds S => match dInts ds with
  | some is => .ok (.int is.sum) S
  | none => .bad
theorem ok_sum : ArOk Γ (rSum Γ.K) gSum := onL_ok fun W σ f S H a ds us Q rs hs ru h => by
  split at h
  · rename_i is hi
    have e := dInts_ok hi ru
    subst e
    exact ⟨a, is, rfl, hs, h f H _ .refl rs Rp.ofInt⟩
  · exact h.elim
def gAll : List D → Store → R D := onL fun ds S => match dBools ds with
  | some is => .ok (.bl (is.all id)) S
  | none => .bad
theorem ok_all : ArOk Γ (rAll Γ.K) gAll := onL_ok fun W σ f S H a ds us Q rs hs ru h => by
  split at h
  · rename_i is hi
    have e := dBools_ok hi ru
    subst e
    exact ⟨a, is, rfl, hs, h f H _ .refl rs Rp.ofBl⟩
  · exact h.elim
def gAny : List D → Store → R D := onL fun ds S => match dBools ds with
  | some is => .ok (.bl (is.any id)) S
  | none => .bad
theorem ok_any : ArOk Γ (rAny Γ.K) gAny := onL_ok fun W σ f S H a ds us Q rs hs ru h => by
  split at h
  · rename_i is hi
    have e := dBools_ok hi ru
    subst e
    exact ⟨a, is, rfl, hs, h f H _ .refl rs Rp.ofBl⟩
  · exact h.elim
def maxI : List Int → Int
  | [] => 0
  | i :: is => is.foldl max i
def minI : List Int → Int
  | [] => 0
  | i :: is => is.foldl min i
theorem fold_max : ∀ (is : List Int) (a : Int), (a ≤ is.foldl max a ∧ ∀ b ∈ is, b ≤ is.foldl max a) ∧ is.foldl max a ∈ a :: is
  | [], a => ⟨⟨Int.le_refl _, fun _ h => by cases h⟩, List.mem_cons_self⟩
  | b :: is, a => by
    obtain ⟨⟨h1, h2⟩, h3⟩ := fold_max is (max a b)
    simp only [List.foldl_cons]
    refine ⟨⟨by omega, fun c hc => ?_⟩, ?_⟩
    · rcases List.mem_cons.mp hc with e | hc
      · subst e; omega
      · exact h2 c hc
    · rcases List.mem_cons.mp h3 with e | h3
      · by_cases q : a ≤ b
        · have : max a b = b := by omega
          rw [e, this]; simp
        · have : max a b = a := by omega
          rw [e, this]; simp
      · exact List.mem_cons_of_mem _ (List.mem_cons_of_mem _ h3)
theorem fold_min : ∀ (is : List Int) (a : Int), (is.foldl min a ≤ a ∧ ∀ b ∈ is, is.foldl min a ≤ b) ∧ is.foldl min a ∈ a :: is
  | [], a => ⟨⟨Int.le_refl _, fun _ h => by cases h⟩, List.mem_cons_self⟩
  | b :: is, a => by
    obtain ⟨⟨h1, h2⟩, h3⟩ := fold_min is (min a b)
    simp only [List.foldl_cons]
    refine ⟨⟨by omega, fun c hc => ?_⟩, ?_⟩
    · rcases List.mem_cons.mp hc with e | hc
      · subst e; omega
      · exact h2 c hc
    · rcases List.mem_cons.mp h3 with e | h3
      · by_cases q : a ≤ b
        · have : min a b = a := by omega
          rw [e, this]; simp
        · have : min a b = b := by omega
          rw [e, this]; simp
      · exact List.mem_cons_of_mem _ (List.mem_cons_of_mem _ h3)
theorem maxI_eq {is : List Int} {m : Int} (h0 : 0 < is.length) (hm : m ∈ is) (hle : ∀ y ∈ is, y ≤ m) : m = maxI is := by
  cases is with
  | nil => cases hm
  | cons i is =>
    obtain ⟨⟨h1, h2⟩, h3⟩ := fold_max is i
    have hx : maxI (i :: is) = is.foldl max i := rfl
    have := hle _ h3
    rw [hx]
    rcases List.mem_cons.mp hm with e | hm
    · subst e; omega
    · have := h2 m hm; omega
theorem minI_eq {is : List Int} {m : Int} (h0 : 0 < is.length) (hm : m ∈ is) (hle : ∀ y ∈ is, m ≤ y) : m = minI is := by
  cases is with
  | nil => cases hm
  | cons i is =>
    obtain ⟨⟨h1, h2⟩, h3⟩ := fold_min is i
    have hx : minI (i :: is) = is.foldl min i := rfl
    have := hle _ h3
    rw [hx]
    rcases List.mem_cons.mp hm with e | hm
    · subst e; omega
    · have := h2 m hm; omega
def gMax : List D → Store → R D := onL fun ds S => match dInts ds with
  | some is => if 0 < is.length then .ok (.int (maxI is)) S else .bad
  | none => .bad
def gMin : List D → Store → R D := onL fun ds S => match dInts ds with
  | some is => if 0 < is.length then .ok (.int (minI is)) S else .bad
  | none => .bad
theorem ok_max : ArOk Γ (rMax Γ.K) gMax := onL_ok fun W σ f S H a ds us Q rs hs ru h => by
  split at h
  · rename_i is hi
    have e := dInts_ok hi ru
    subst e
    split at h
    · rename_i h0
      refine ⟨a, is, rfl, hs, h0, fun m hm hle => ?_⟩
      rw [maxI_eq h0 hm hle]
      exact h f H _ .refl rs Rp.ofInt
    · exact h.elim
  · exact h.elim
theorem ok_min : ArOk Γ (rMin Γ.K) gMin := onL_ok fun W σ f S H a ds us Q rs hs ru h => by
  split at h
  · rename_i is hi
    have e := dInts_ok hi ru
    subst e
    split at h
    · rename_i h0
      refine ⟨a, is, rfl, hs, h0, fun m hm hle => ?_⟩
      rw [minI_eq h0 hm hle]
      exact h f H _ .refl rs Rp.ofInt
    · exact h.elim
  · exact h.elim
def gList : List D → Store → R D
  | [d], S => (match listOf S d with
    | some ds => .ok (.ref S.length) (S ++ [.lst ds])
    | none => .bad)
  | _, _ => .bad
theorem ok_list : ArOk Γ (fun xs H Q => ∃ p ys, xs = [.ref p] ∧ (SqL Γ.K H p ys ∨ SqT Γ.K H p ys) ∧ ∀ l, H l = none → Q (.ref l) (upd H l (.lst ys))) gList := fun W σ f S H xs vs Q rs r h => by
  unfold gList at h
  split at h
  · rename_i d
    obtain ⟨v, e, rv⟩ := r.one
    split at h
    · rename_i ds hd
      obtain ⟨a, us, ev, ru, hs⟩ := listOf_ok rs rv hd
      refine ⟨a, us, by rw [e, ev], hs.symm.imp (fun z => z.1) (fun z => z.1), fun l hl => ?_⟩
      exact h (f ++ [l]) _ _ (.alloc hl) (rs.alloc hl ⟨us, upd_same, ru.up (.alloc hl)⟩) (Rp.refI (by rw [← rs.len]; simp))
    · exact h.elim
  · exact h.elim
def gTuple : List D → Store → R D
  | [d], S => (match listOf S d with
    | some ds => .ok (.tup ds) S
    | none => .bad)
  | _, _ => .bad
theorem ok_tuple : ArOk Γ (fun xs H Q => ∃ p ys, xs = [.ref p] ∧ ((SqL Γ.K H p ys ∧ ∀ l, H l = none → Q (.ref l) (upd H l (.tup ys))) ∨ (SqT Γ.K H p ys ∧ Q (.ref p) H))) gTuple := fun W σ f S H xs vs Q rs r h => by
  unfold gTuple at h
  split at h
  · rename_i d
    obtain ⟨v, e, rv⟩ := r.one
    split at h
    · rename_i ds hd
      obtain ⟨a, us, ev, ru, hs⟩ := listOf_ok rs rv hd
      refine ⟨a, us, by rw [e, ev], ?_⟩
      rcases hs with ⟨hs, _⟩ | ⟨hs, _⟩
      · exact .inr ⟨hs, h f H _ .refl rs (Rp.tupI hs ru)⟩
      · exact .inl ⟨hs, fun l hl => h f _ _ (.new hl) (rs.newT hl) (Rp.tupI (SqT.of upd_same) (ru.up (.new hl)))⟩
    · exact h.elim
  · exact h.elim
/-! ### methods of lists -/
def mBM (g : D → List D → Store → R D) (o : ME) (a : MA) : ME := fun env S => (o env S).bind fun d S1 => (match d with
  | .ref n => (match S1[n]? with
    | some (.lst _) => (a env S1).bind fun xs S2 => g d xs S2
    | _ => .bad)
  | _ => .bad)
def MtOk (Γ : G) (r : V → List V → Hp → VK → Prop) (g : D → List D → Store → R D) : Prop := ∀ (W : WX) (σ : L2.St) (f : List Addr) (S : Store) (H : Hp) (d : D) (v : V) (xs : List D) (vs : List V) (Q : VK), RelS Γ f S H → Rp Γ f H d v → RpL Γ f H xs vs → Wp Γ W σ f H (Rp Γ) Q (g d xs S) → r v vs H Q
theorem bm_imp {r : V → List V → Hp → VK → Prop} {g : D → List D → Store → R D} (hK : X.K = Γ.K) (hg : MtOk Γ r g) {mo : ME} {mr : MA} {σ : L2.St} {H : Hp} {Q : VK} (h : tE Γ W (mBM g mo mr) σ H Q) : tBM X.K "list" r (tE Γ W mo) (tA Γ W mr) σ H Q := by
  obtain ⟨env, S, f, rs, re, h⟩ := h
  refine ⟨env, S, f, rs, re, Wp.bindL h fun d S1 f1 H1 v u1 rs1 r1 h1 => ?_⟩
  revert h1
  split
  · rename_i n
    split
    · rename_i ds hn
      intro h1
      obtain ⟨a, us, _, ev, hh, ru⟩ := rs1.lst hn r1
      refine ⟨?_, env, S1, f1, rs1, re.up u1, Wp.bindL h1 fun xs S2 f2 H2 vs u2 rs2 r2 h2 => hg W σ f2 S2 H2 _ v xs vs Q rs2 (r1.up u2) r2 h2⟩
      rw [ev]
      exact .inl ⟨rfl, us, SqL.of hh⟩
    · exact fun h => h.elim
  · exact fun h => h.elim
def gAppend : D → List D → Store → R D
  | .ref n, [y], S => (match S[n]? with
    | some (.lst ds) => if ds.length < lim then .ok .non (S.set n (.lst (ds ++ [y]))) else .bad
    | _ => .bad)
  | _, _, _ => .bad
theorem ok_append : MtOk Γ rAppend gAppend := fun W σ f S H d v xs vs Q rs rv r h => by
  unfold gAppend at h
  split at h
  · rename_i n y
    split at h
    · rename_i ds hn
      split at h
      · rename_i hl
        obtain ⟨a, us, ha, ev, hh, ru⟩ := rs.lst hn rv
        obtain ⟨w, e, rw'⟩ := r.one
        have uc : Up Γ f H f (upd H a (.lst (us ++ [w]))) := .chg hh trivial
        have r1 : RpL Γ f H [y] [w] := by
          simp only [RpL]
          exact ⟨w, [], rfl, rw', rfl⟩
        exact ⟨a, us, w, ev, e, hh, by rw [← ru.length, lim_eq]; exact hl, h f _ _ uc (rs.set ha (.chg hh trivial) ⟨_, upd_same, (ru.append r1).up uc⟩) Rp.ofNon⟩
      · exact h.elim
    · exact h.elim
  · exact h.elim
def gInsert : D → List D → Store → R D
  | .ref n, [.int i, y], S => (match S[n]? with
    | some (.lst ds) => if ds.length < lim ∧ 0 ≤ i ∧ i < 2 ^ 63 then .ok .non (S.set n (.lst (ds.take i.toNat ++ [y] ++ ds.drop i.toNat))) else .bad
    | _ => .bad)
  | _, _, _ => .bad
theorem ok_insert : MtOk Γ (fun x vs H Q => ∃ (l : Addr) (xs : List V) (i : Int) (y : V), x = .ref l ∧ vs = [.int i, y] ∧ H l = some (.lst xs) ∧ xs.length < sizeLine ∧ 0 ≤ i ∧ i < 2 ^ 63 ∧ Q .non (upd H l (.lst (xs.take i.toNat ++ [y] ++ xs.drop i.toNat)))) gInsert := fun W σ f S H d v xs vs Q rs rv r h => by
  unfold gInsert at h
  split at h
  · rename_i n i y
    split at h
    · rename_i ds hn
      split at h
      · rename_i hl
        obtain ⟨a, us, ha, ev, hh, ru⟩ := rs.lst hn rv
        obtain ⟨j, w, e, rj, rw'⟩ := r.two
        have uc : Up Γ f H f (upd H a (.lst (us.take i.toNat ++ [w] ++ us.drop i.toNat))) := .chg hh trivial
        have r1 : RpL Γ f H [y] [w] := by
          simp only [RpL]
          exact ⟨w, [], rfl, rw', rfl⟩
        exact ⟨a, us, i, w, ev, by rw [e, rj.int], hh, by rw [← ru.length, lim_eq]; exact hl.1, hl.2.1, hl.2.2, h f _ _ uc (rs.set ha (.chg hh trivial) ⟨_, upd_same, (((ru.take' _).append r1).append (ru.drop' _)).up uc⟩) Rp.ofNon⟩
      · exact h.elim
    · exact h.elim
  · exact h.elim
end
/-! ### isinstance -/
inductive CK where
  | bi (n : String) | own (C : Str)
  deriving DecidableEq
def CK.v (Γ : G) : CK → V
  | .bi n => .ty n
  | .own C => .ref (Γ.c C)
def CK.u (Γ : G) : CK → Value
  | .bi n => .type n
  | .own C => .ref (Γ.c C)
def tyK (S : Store) : D → Option CK
  | .non => some (.bi "NoneType")
  | .bl _ => some (.bi "bool")
  | .int _ => some (.bi "int")
  | .str _ => some (.bi "str")
  | .tup _ => some (.bi "tuple")
  | .rol _ => some (.bi "list")
  | .ref n => (match S[n]? with
    | some (.lst _) => some (.bi "list")
    | some (.dk _) => some (.bi "dict")
    | some (.dt _) => some (.bi "dict")
    | _ => none)
  | .ins C _ => some (.own C)
def isA : CK → CK → Bool
  | .bi a, .bi b => a == b || (a == "bool" && b == "int")
  | .own C, .own E => C == E
  | _, _ => false
def biTypes : List String := ["NoneType", "bool", "int", "str", "tuple", "list", "dict"]
/-- what the text says of a class that isinstance asks for; cs: the plain classes -/
structure IsF (Γ : G) (cs : List Str) (T : CK) : Prop where
  bi : ∀ a ∈ biTypes, PySem.W.kitOne Γ.K (.type a) (T.u Γ) = some (isA (.bi a) T)
  own : ∀ C ∈ cs, PySem.W.kitOne Γ.K (.ref (Γ.c C)) (T.u Γ) = some (isA (.own C) T)
def okK (cs : List Str) : CK → Bool
  | .bi a => biTypes.contains a
  | .own C => cs.contains C
def gIsi (cs : List Str) (Ts : List CK) (d : D) (S : Store) : R D := match tyK S d with
  | some a => if okK cs a = true then .ok (.bl (Ts.any fun T => isA a T)) S else .bad
  | none => .bad
section
variable {Γ : G} {W : WX} {X : Cx} {f : List Addr} {H : Hp} {S : Store} {cs : List Str}
theorem CK.cls (T : CK) : ClsV (T.v Γ) (T.u Γ) := by
  cases T with
  | bi n => exact .ty n
  | own C => exact .own _
theorem tyX {d : D} {v : V} {a : CK} (hI : ∀ C ∈ cs, C8.InsC Γ.K (Γ.c C)) (rs : RelS Γ f S H) (r : Rp Γ f H d v) (h : tyK S d = some a) (hk : okK cs a = true) : TyX Γ.K H v (a.u Γ) := by
  cases d with
  | non => cases h; rw [r.non]; exact .base .non
  | bl b => cases h; rw [r.bl]; exact .base (.bl b)
  | int b => cases h; rw [r.int]; exact .base (.int b)
  | str b => cases h; rw [r.str]; exact .base (.str b)
  | tup ds =>
    cases h
    obtain ⟨p, vs, e, s, _⟩ := r.tup
    rw [e]
    rcases s with (s | ⟨o, s⟩) | ⟨o, its, n, s, c, _⟩
    · exact .base (.tup s)
    · exact .fTuple s
    · exact .kTuple s c
  | rol ds =>
    cases h
    obtain ⟨p, vs, e, s, _⟩ := r.rol
    rw [e]
    rcases s.2 with ⟨o, s⟩ | ⟨o, its, n, s, c, _⟩
    · exact .base (.frz s)
    · exact .kList s c
  | ref n =>
    obtain ⟨p, hp, e⟩ := r.ref
    have h : (match S[n]? with
      | some (.lst _) => some (CK.bi "list")
      | some (.dk _) => some (.bi "dict")
      | some (.dt _) => some (.bi "dict")
      | _ => none) = some a := h
    rw [e]
    split at h
    · rename_i ds hn
      cases h
      obtain ⟨b, hb, vs, hh, _⟩ := rs.ob n _ hn
      rw [hp] at hb
      cases hb
      exact .base (.lst hh)
    · rename_i ds hn
      cases h
      obtain ⟨b, hb, vs, hh, _⟩ := rs.ob n _ hn
      rw [hp] at hb
      cases hb
      exact .base (.dK hh)
    · rename_i ds hn
      cases h
      obtain ⟨b, hb, vs, hh, _⟩ := rs.ob n _ hn
      rw [hp] at hb
      cases hb
      exact .base (.dT hh)
    · cases h
  | ins C ds =>
    cases h
    simp only [Rp] at r
    obtain ⟨p, dx, fvs, e, hh, _⟩ := r
    have c := hI C (List.contains_iff_mem.mp hk)
    rw [e]
    exact .base (.ins hh c.cl c.ha c.hn c.htk c.hm)
theorem isF_any {a : CK} (hk : okK cs a = true) : ∀ {Ts : List CK}, (∀ T ∈ Ts, IsF Γ cs T) → PySem.W.kitAny Γ.K (a.u Γ) (Ts.map fun T => T.u Γ) = some (Ts.any fun T => isA a T)
  | [], _ => rfl
  | T :: Ts, h => by
    have h1 : PySem.W.kitOne Γ.K (a.u Γ) (T.u Γ) = some (isA a T) := by
      cases a with
      | bi n => exact (h T List.mem_cons_self).bi n (List.contains_iff_mem.mp hk)
      | own C => exact (h T List.mem_cons_self).own C (List.contains_iff_mem.mp hk)
    rw [List.map_cons, List.any_cons]
    refine kitAny_cons h1 (fun e => ?_) fun e => by rw [e]; rfl
    rw [e, Bool.false_or]
    exact isF_any hk fun T' hT => h T' (List.mem_cons_of_mem _ hT)
theorem q_isi {e c : Expr} {ma : ME} {T : CK} {p pos : Pos} (hK : X.K = Γ.K) (hI : ∀ C ∈ cs, C8.InsC Γ.K (Γ.c C)) (hT : IsF Γ cs T) (hm : X.mg "isinstance" = none) (he : PE X e (tE Γ W ma)) (hc : PE X c (tC (T.v Γ))) (hg : Gl X "isinstance" := by rfl)
    (hs : starEach (e :: [c]) X.env = (false, eval e X.env) :: starEach [c] X.env := by rfl) (hs2 : starEach (c :: []) X.env = (false, eval c X.env) :: starEach [] X.env := by rfl) (hpl : (backTo pos (starEach [c] X.env)).any (·.1) = false := by rfl) :
    PE X (.Call (.Name "isinstance" p) [e, c] [] pos) (tE Γ W (m1 (gIsi cs [T]) ma)) := PE.imp (pe_callB call_isi hg hm (by decide +kernel) (pa_cons he (pa_cons hc pa_nil hs2) hs) (by decide) (by decide) hs hpl) fun σ H Q ⟨env, S, f, rs, re, h⟩ =>
  ⟨env, S, f, rs, re, Wp.bindL h fun d S1 f1 H1 v u1 rs1 r1 h1 => by
    unfold gIsi at h1
    split at h1
    · rename_i a ha
      split at h1
      · rename_i hk
        have q := isF_any (Γ := Γ) hk (Ts := [T]) fun T' hT' => by
          rw [List.mem_singleton.mp hT']
          exact hT
        have one : PySem.W.kitOne Γ.K (a.u Γ) (T.u Γ) = some ([T].any fun T => isA a T) := by
          have : ([T].any fun T => isA a T) = isA a T := by simp
          rw [this]
          cases a with
          | bi n => exact hT.bi n (List.contains_iff_mem.mp hk)
          | own C => exact hT.own C (List.contains_iff_mem.mp hk)
        exact ⟨v, T.v Γ, a.u Γ, T.u Γ, _, rfl, T.cls, by rw [hK]; exact tyX hI rs1 r1 ha hk, by rw [hK]; exact one, h1 f1 H1 _ .refl rs1 Rp.ofBl⟩
      · exact h1.elim
    · exact h1.elim⟩
/-- classes, one behind the other -/
inductive PCs (X : Cx) (Γ : G) : List Expr → List CK → Prop
  | nil : PCs X Γ [] []
  | cons {c : Expr} {es : List Expr} {T : CK} {Ts : List CK} (h : PE X c (tC (T.v Γ))) (r : PCs X Γ es Ts) (hs : starEach (c :: es) X.env = (false, eval c X.env) :: starEach es X.env) : PCs X Γ (c :: es) (T :: Ts)
theorem PCs.pa : ∀ {es : List Expr} {Ts : List CK}, PCs X Γ es Ts → PA X es (fun _ H Q => Q (Ts.map fun T => T.v Γ) H)
  | _, _, .nil => pa_nil
  | _, _, .cons h r hs => pa_cons h r.pa hs
theorem q_isiT {e : Expr} {es : List Expr} {ma : ME} {Ts : List CK} {p pos pos2 : Pos} {k} (hK : X.K = Γ.K) (hI : ∀ C ∈ cs, C8.InsC Γ.K (Γ.c C)) (hT : ∀ T ∈ Ts, IsF Γ cs T) (hm : X.mg "isinstance" = none) (he : PE X e (tE Γ W ma)) (hc : PCs X Γ es Ts) (hl : Ts.length ≤ 20 := by decide) (hg : Gl X "isinstance" := by rfl)
    (hs : starEach (e :: [.Tuple es k pos2]) X.env = (false, eval e X.env) :: starEach [.Tuple es k pos2] X.env := by rfl) (hs2 : starEach (.Tuple es k pos2 :: []) X.env = (false, eval (.Tuple es k pos2) X.env) :: starEach [] X.env := by rfl) (hpl : (backTo pos (starEach [.Tuple es k pos2] X.env)).any (·.1) = false := by rfl) :
    PE X (.Call (.Name "isinstance" p) [e, .Tuple es k pos2] [] pos) (tE Γ W (m1 (gIsi cs Ts) ma)) := PE.imp (pe_callB call_isiT hg hm (by decide +kernel) (pa_cons he (pa_cons (pe_tup hc.pa) pa_nil hs2) hs) (by decide) (by decide) hs hpl) fun σ H Q ⟨env, S, f, rs, re, h⟩ =>
  ⟨env, S, f, rs, re, Wp.bindL h fun d S1 f1 H1 v u1 rs1 r1 h1 => by
    unfold gIsi at h1
    split at h1
    · rename_i a ha
      split at h1
      · rename_i hk
        refine ⟨by rw [List.length_map, lim_eq]; exact Nat.le_trans hl (by decide), fun tp htp => ?_⟩
        have r2 := r1.up (.new (o := .tup (Ts.map fun T => T.v Γ)) htp)
        have rs2 := rs1.newT (o := .tup (Ts.map fun T => T.v Γ)) htp
        have pc : ∀ Ts : List CK, Paired ClsV (Ts.map fun T => T.v Γ) (Ts.map fun T => T.u Γ) := by
          intro Ts
          induction Ts with
          | nil => exact .nil
          | cons T Ts ih => exact .cons T.cls ih
        exact ⟨v, tp, _, a.u Γ, _, _, rfl, upd_same, pc Ts, by rw [hK]; exact tyX hI rs2 r2 ha hk, by rw [hK]; exact isF_any hk hT, h1 f1 _ _ (.new htp) rs2 Rp.ofBl⟩
      · exact h1.elim
    · exact h1.elim⟩
end
end Lk

set_option Elab.async false
set_option linter.all false
set_option autoImplicit false
set_option maxRecDepth 100000
set_option maxHeartbeats 2000000
namespace Lk
open PySem PySem.Spec PyProof.Rows L2

/-! ### == of data, and of an own class's instances by its own __eq__ -/
def pyD (S : Store) : Nat → D → Option PyData
  | 0, _ => none
  | n + 1, d => match d with
    | .non => some .none
    | .bl b => some (.bool b)
    | .int i => some (.int i)
    | .str x => some (.str x)
    | .tup ds => (ds.mapM (pyD S n)).map .tuple
    | .rol ds => (ds.mapM (pyD S n)).map .list
    | .ref m => (match S[m]? with
      | some (.lst ds) => (ds.mapM (pyD S n)).map .list
      | _ => none)
    | .ins _ _ => none
def eqData (S : Store) (x y : D) : Option Bool := match pyD S 12 x, pyD S 12 y with
  | some a, some b => if SeqAt.shaped a = true ∧ SeqAt.shaped b = true then some (PyData.eqv a b) else none
  | _, _ => none
def gEq (oe : Str → Option (List D → Store → R D)) (x y : D) (S : Store) : R D := match x with
  | .ins C _ => (match oe C with
    | some m => (match m [x, y] S with
      | .ok (.bl b) S' => .ok (.bl b) S'
      | _ => .bad)
    | none => .bad)
  | _ => (match eqData S x y with
    | some b => .ok (.bl b) S
    | none => .bad)
def gNe (x y : D) (S : Store) : R D := match eqData S x y with
  | some b => .ok (.bl (!b)) S
  | none => .bad
section
variable {Γ : G} {W : WX} {X : Cx} {f : List Addr} {H : Hp} {S : Store} {cs : List Str}
theorem mapM_dp {g : D → Option PyData} (hg : ∀ d v p, g d = some p → Rp Γ f H d v → Dp Γ.K H v p) : ∀ {ds : List D} {vs : List V} {ps : List PyData}, ds.mapM g = some ps → RpL Γ f H ds vs → DpAll Γ.K H vs ps
  | [], vs, ps, h, r => by
    simp only [RpL] at r
    subst r
    simp only [List.mapM_nil] at h
    cases h
    exact .nil
  | d :: ds, vs, ps, h, r => by
    simp only [RpL] at r
    obtain ⟨v, vr, e, r1, r2⟩ := r
    subst e
    rw [List.mapM_cons] at h
    cases q : g d with
    | none => rw [q] at h; cases h
    | some p =>
      rw [q] at h
      cases q2 : ds.mapM g with
      | none => rw [q2] at h; cases h
      | some ps' =>
        rw [q2] at h
        cases h
        exact .cons (hg d v p q r1) (mapM_dp hg q2 r2)
theorem pyD_ok (rs : RelS Γ f S H) : ∀ (n : Nat) (d : D) (v : V) (p : PyData), pyD S n d = some p → Rp Γ f H d v → Dp Γ.K H v p
  | 0, _, _, _, h, _ => by cases h
  | n + 1, d, v, p, h, r => by
    cases d with
    | non => cases h; rw [r.non]; exact .non
    | bl b => cases h; rw [r.bl]; exact .bl b
    | int i => cases h; rw [r.int]; exact .int i
    | str x => cases h; rw [r.str]; exact .str x
    | tup ds =>
      have h : (ds.mapM (pyD S n)).map PyData.tuple = some p := h
      obtain ⟨a, vs, e, s, rv⟩ := r.tup
      subst e
      cases q : ds.mapM (pyD S n) with
      | none => rw [q] at h; cases h
      | some ps =>
        rw [q] at h
        cases h
        exact .tup s (mapM_dp (pyD_ok rs n) q rv)
    | rol ds =>
      have h : (ds.mapM (pyD S n)).map PyData.list = some p := h
      obtain ⟨a, vs, e, s, rv⟩ := r.rol
      subst e
      cases q : ds.mapM (pyD S n) with
      | none => rw [q] at h; cases h
      | some ps =>
        rw [q] at h
        cases h
        exact .lst s.1 (mapM_dp (pyD_ok rs n) q rv)
    | ref m =>
      have h : (match S[m]? with
        | some (.lst ds) => (ds.mapM (pyD S n)).map PyData.list
        | _ => none) = some p := h
      split at h
      · rename_i ds hn
        obtain ⟨a, vs, _, e, hh, rv⟩ := rs.lst hn r
        subst e
        cases q : ds.mapM (pyD S n) with
        | none => rw [q] at h; cases h
        | some ps =>
          rw [q] at h
          cases h
          exact .lst (SqL.of hh) (mapM_dp (pyD_ok rs n) q rv)
      · cases h
    | ins C ds => cases h
theorem eqData_ok {x y : D} {v u : V} {b : Bool} (rs : RelS Γ f S H) (rx : Rp Γ f H x v) (ry : Rp Γ f H y u) (h : eqData S x y = some b) : ∃ d e, Dp Γ.K H v d ∧ Dp Γ.K H u e ∧ SeqAt.shaped d = true ∧ SeqAt.shaped e = true ∧ PyData.eqv d e = b := by
  unfold eqData at h
  split at h
  · rename_i d e hd he
    split at h
    · rename_i c
      cases h
      exact ⟨d, e, pyD_ok rs _ _ _ _ hd rx, pyD_ok rs _ _ _ _ he ry, c.1, c.2, rfl⟩
    · cases h
  · cases h
theorem ok_ne : OpOk Γ (rNeD Γ.K) gNe := fun W σ f S H x y v u Q rs rx ry h => by
  unfold gNe at h
  split at h
  · rename_i b hb
    obtain ⟨d, e, h1, h2, h3, h4, h5⟩ := eqData_ok rs rx ry hb
    refine ⟨d, e, h1, h2, h3, h4, ?_⟩
    rw [h5]
    exact h f H _ .refl rs Rp.ofBl
  · exact h.elim
/-- what the text says of a class with an own == -/
structure EqC (Γ : G) (P : Program) (w : World) (mg : Str → Option Value) (base : Heap) (cs : List Str) (k : Nat) (C : Str) (m : List D → Store → R D) : Prop where
  eq : ∃ g fd ps, PySem.W.findIn Γ.K (.ref (Γ.c C)) "__eq__" = some (some (.ref g)) ∧ PySem.W.isFn Γ.K (.ref g) = true ∧ FnOk P w Γ.K mg base (L2.CX P w) k g fd ps (spOf Γ 2 m) ∧ Binds Γ.K fd ps []
  nf : ∀ a : CK, okK cs a = true → PySem.W.notFirst Γ.K (Γ.c C) (a.u Γ) = true
/-- one instance on the left -/
def rOwnEq (Γ : G) (cs : List Str) (oe : Str → Option (List D → Store → R D)) : R2 := fun x y H Q => ∃ C m a dx fs t, oe C = some m ∧ x = .ref a ∧ H a = some (.ins (Γ.c C) dx fs) ∧ okK cs t = true ∧ TyX Γ.K H y (t.u Γ) ∧ spOf Γ 2 m [x, y] H (fun v H' => (∃ b, v = .bl b) ∧ Q v H') (fun _ _ _ => False)
theorem or_own {k : Nat} {oe : Str → Option (List D → Store → R D)} (hK : X.K = Γ.K) (hr : Room k X.A) (ho : ∀ C m, oe C = some m → EqC Γ X.prog X.w X.mg X.base cs k C m) : OpR X (compareOp .Eq) (rOwnEq Γ cs oe) := by
  intro pins s σ H x y v u Q I rx ry h
  obtain ⟨C, m, a, dx, fs, t, hC, ex, hh, hk, ty, hsp⟩ := h
  subst ex
  obtain rfl : v = Value.ref a := rx
  have ec := ho C m hC
  obtain ⟨g, fd, ps, e1, e2, F, hb⟩ := ec.eq
  obtain ⟨mA, J, _⟩ := ins_get I.hok hh
  obtain ⟨od, J, _⟩ := J.look
  obtain ⟨mm, hF⟩ := I.fr
  obtain ⟨P, Z, p, _⟩ := kit_of I ry (by rw [hK]; exact ty)
  show wpAny (model X.prog X.w) X.A (richCompare .Eq (Value.ref a) u) (EP X pins σ Q) X.xe s
  refine PySem.W.cmp_K (op := .Eq) (tb := t.u Γ) hr.units0 hF I.ok.mod.kin J (Z.ty _ _ I.kIn p) (by rw [hK]; exact ec.nf t hk) (by rw [hK]; exact e1) (by rw [hK]; exact e2) ?_
  have noX : PassesAt (L2.CX X.prog X.w) X σ (fun _ _ _ => False) := fun _ _ _ _ _ _ c => by
    obtain ⟨_, _, _, _, _, _, _, _, _, _, _, _, z⟩ := c
    exact z.elim
  have go := run_fnS (us := [Value.ref a, u]) (vs := [V.ref a, y]) (E := fun _ _ _ _ => False) (σ := σ) (Q := fun v H' => (∃ b, v = .bl b) ∧ Q v H') (by rw [hK]; exact F) hr (by rw [hK]; exact hb) noX I (.cons rfl (.cons ry .nil)) hsp
  refine wpAny_mono go (fun r s' q => ?_) fun _ _ z => z
  obtain ⟨z, H', I', rz, ⟨b, eb⟩, qz⟩ := q
  subst eb
  obtain rfl : r = Value.bool b := rz
  exact ⟨.bl b, H', I', rfl, qz⟩
def rEqX (Γ : G) (cs : List Str) (oe : Str → Option (List D → Store → R D)) : R2 := fun x y H Q => rEqD Γ.K x y H Q ∨ rOwnEq Γ cs oe x y H Q
theorem or_eq {k : Nat} {oe : Str → Option (List D → Store → R D)} (hK : X.K = Γ.K) (hr : Room k X.A) (ho : ∀ C m, oe C = some m → EqC Γ X.prog X.w X.mg X.base cs k C m) : OpR X (compareOp .Eq) (rEqX Γ cs oe) := OpR.or (by rw [← hK]; exact op_eqD hr.units) (or_own hK hr ho)
/-- the right side's type must be known -/
def gEqX (cs : List Str) (oe : Str → Option (List D → Store → R D)) (x y : D) (S : Store) : R D := match x with
  | .ins C xs => (match oe C, tyK S y with
    | some m, some t => if okK cs t = true then (match m [.ins C xs, y] S with
      | .ok (.bl b) S' => .ok (.bl b) S'
      | _ => .bad) else .bad
    | _, _ => .bad)
  | x => (match eqData S x y with
    | some b => .ok (.bl b) S
    | none => .bad)
theorem ok_eq {oe : Str → Option (List D → Store → R D)} (hI : ∀ C ∈ cs, C8.InsC Γ.K (Γ.c C)) : OpOk Γ (rEqX Γ cs oe) (gEqX cs oe) := fun W σ f S H x y v u Q rs rx ry h => by
  have data : ∀ x : D, Rp Γ f H x v → Wp Γ W σ f H (Rp Γ) Q (match eqData S x y with
      | some b => .ok (.bl b) S
      | none => .bad) → rEqX Γ cs oe v u H Q := fun x rx h => by
    split at h
    · rename_i b hb
      obtain ⟨d, e, h1, h2, h3, h4, h5⟩ := eqData_ok rs rx ry hb
      refine .inl ⟨d, e, h1, h2, h3, h4, ?_⟩
      rw [h5]
      exact h f H _ .refl rs Rp.ofBl
    · exact h.elim
  cases x with
  | ins C xs =>
    have h : Wp Γ W σ f H (Rp Γ) Q (match oe C, tyK S y with
      | some m, some t => if okK cs t = true then (match m [.ins C xs, y] S with
        | .ok (.bl b) S' => .ok (.bl b) S'
        | _ => .bad) else .bad
      | _, _ => .bad) := h
    split at h
    · rename_i m t hm ht
      split at h
      · rename_i hk
        have rx0 := rx
        simp only [Rp] at rx
        obtain ⟨a, dx, fvs, e, hh, _⟩ := rx
        refine .inr ⟨C, m, a, dx, fvs, t, hm, e, hh, hk, tyX hI rs ry ht hk, rfl, f, S, [.ins C xs, y], rs, ?_, ?_⟩
        · simp only [RpL]
          exact ⟨v, [u], rfl, rx0, u, [], rfl, ry, rfl⟩
        · revert h
          cases m [.ins C xs, y] S with
          | ok d S' =>
            cases d with
            | bl b =>
              intro h f' H' v' u' rs' r'
              exact ⟨⟨b, r'.bl⟩, h f' H' v' u' rs' r'⟩
            | _ => exact fun h => h.elim
          | _ => exact fun h => h.elim
      · exact h.elim
    · exact h.elim
  | _ => exact data _ rx h
/-! ### in, not in: of flat items -/
def flatD : D → Option V
  | .non => some .non
  | .bl b => some (.bl b)
  | .int i => some (.int i)
  | .str x => some (.str x)
  | _ => none
def gIn (neg : Bool) (x y : D) (S : Store) : R D := match listOf S y with
  | some ds => (match flatD x, ds.mapM flatD with
    | some v, some vs => if flatV v = true ∧ vs.all flatV = true then .ok (.bl (if neg then !inV v vs else inV v vs)) S else .bad
    | _, _ => .bad)
  | none => .bad
theorem flatD_ok {x : D} {v w : V} (h : flatD x = some w) (r : Rp Γ f H x v) : v = w := by
  cases x with
  | non => cases h; exact r.non
  | bl b => cases h; exact r.bl
  | int b => cases h; exact r.int
  | str b => cases h; exact r.str
  | _ => cases h
theorem flatL_ok : ∀ {ds : List D} {vs ws : List V}, ds.mapM flatD = some ws → RpL Γ f H ds vs → vs = ws
  | [], vs, ws, h, r => by
    simp only [RpL] at r
    simp only [List.mapM_nil] at h
    cases h
    exact r
  | d :: ds, vs, ws, h, r => by
    simp only [RpL] at r
    obtain ⟨v, vr, e, r1, r2⟩ := r
    rw [List.mapM_cons] at h
    cases q : flatD d with
    | none => rw [q] at h; cases h
    | some w =>
      rw [q] at h
      cases q2 : ds.mapM flatD with
      | none => rw [q2] at h; cases h
      | some ws' =>
        rw [q2] at h
        cases h
        rw [e, flatD_ok q r1, flatL_ok q2 r2]
theorem ok_in {neg : Bool} : OpOk Γ (rIn Γ.K neg) (gIn neg) := fun W σ f S H x y v u Q rs rx ry h => by
  unfold gIn at h
  split at h
  · rename_i ds hds
    split at h
    · rename_i w ws hw hws
      split at h
      · rename_i c
        obtain ⟨a, us, e, r, s⟩ := listOf_ok rs ry hds
        have e1 := flatD_ok hw rx
        have e2 := flatL_ok hws r
        subst e1
        subst e2
        exact ⟨a, us, e, s.symm.imp (fun z => z.1) (fun z => z.1), c.1, c.2, h f H _ .refl rs Rp.ofBl⟩
      · exact h.elim
    · exact h.elim
  · exact h.elim
end
end Lk

set_option Elab.async false
set_option linter.all false
set_option autoImplicit false
set_option maxRecDepth 100000
set_option maxHeartbeats 4000000
/-! An error that a suite holds: its fields, isinstance of it. -/
namespace Lk
open PySem PySem.Spec PyProof.Rows L2
section
variable {K : PySem.W.Frag} {P : Program} {w : World} {A : Around} {E : Value → Shared → Prop} {x Da : Addr} {ox : Obj} {od : Option Obj}
/-- e.__class__, whatever own dict e has -/
theorem cls_attr_err {st : Shared} {Q : Option Value → Shared → Prop} (T : L2.ExcC K Da) (X : K.In st.heap) (I : PySem.W.InstAt st.heap x ox Da od) (h : Q (some (.ref Da)) { st with toks := st.toks + 1 }) : wpAny (model P w) A (getAttr? (.ref x) "__class__") Q E st := by
  have found : PySem.W.findObj K Da od "__class__" = some (.bind (.builtin "getset_descriptor.__get__") (.builtin "object.__class__")) := by
    obtain ⟨cd, hc, _⟩ := PySem.W.any_some T.hd
    unfold PySem.W.findObj
    rw [hc, Option.bind_some, T.ha, Option.bind_some]
    simp [T.hn, T.ht]
  obtain ⟨hp, g, d, t, os⟩ := st
  have kind := I.type (M := model P w)
  have own := PySem.W.looks_findIn (M := model P w) X T.hg
  have fall := PySem.W.looks_findIn (M := model P w) X T.hk
  have look := PySem.W.looks_find (M := model P w) X I found
  have below : PySem.W.Looks (model P w) hp (isInstance (.ref x) (.type "BaseException")) true := kind.andThen (PySem.W.looks_subIn X T.hs)
  have n1 : (Value.builtin "BaseException.__getattribute__" == Value.builtin "object.__getattribute__") = false := by decide +kernel
  have n2 : (onTheHeap (Value.ref Da) && Value.builtin "BaseException.__getattribute__" == Value.builtin "object.__getattribute__") = false := by rw [n1]; rfl
  have n3 : (false && onTheHeap (Value.builtin "BaseException.__getattribute__")) = false := rfl
  unfold getAttr? getAttrBy? getAttrBy
  refine wpAny_bind (wpAny_mkText (wpAny_bind (wpAny_attempt (wpAny_holding (wpAny_bind (kind.at (wpAny_bind (own.at ?_))))))))
  show wpAny _ _ (if (onTheHeap (Value.ref Da) && Value.builtin "BaseException.__getattribute__" == Value.builtin "object.__getattribute__") = true then _ else _) _ _ _
  rw [n2, if_neg Bool.false_ne_true]; unfold getAttrByItsOwn hookBefore
  refine wpAny_bind ?_
  rw [if_pos (show onTheHeap (Value.ref Da) = true from rfl)]
  refine fall.at (wpAny_bind (wpAny_attempt (wpAny_holding ?_)))
  unfold callGetattribute; rw [n3, if_neg Bool.false_ne_true]
  unfold boundAndCalled; rw [PySem.F.excAttr_ValueError.ga.bind (.ref x)]
  refine wpAny_bind (wpAny_pure ?_)
  show wpAny _ _ (call (.builtin "BaseException.__getattribute__") [.ref x, .str "__class__" t]) _ _ _
  refine wpAny_call (codeAny_call_builtin PySem.F.excAttr_ValueError.ga.plain PySem.F.entry_bexc_ga (@PySem.W.check_slot (model P w) _ _ ⟨hp, g, d, t + 1, os⟩ "BaseException.__getattribute__" "BaseException" "__getattribute__" (.ref x) [.str "__class__" t] [] _ (by decide +kernel) (by decide +kernel) below (PySem.F.args_bexc_ga (.ref x) (.str "__class__" t)) ?_))
  unfold Builtin.«object.__getattribute__»
  refine wpAny_bind (wpAny_of_eq (a := ((Value.ref x : Value), [Value.str "__class__" t])) (by first | rfl | (simp only [slotArgs]; rfl)) (wpAny_bind (wpAny_pure (wpAny_bind (kind.at (wpAny_bind (look.at ?_)))))))
  show wpAny _ _ (holding [Value.builtin "object.__class__"] (call (.builtin "getset_descriptor.__get__") [.builtin "object.__class__", .ref x, .ref Da]) >>= ret) _ _ _
  refine wpAny_bind (wpAny_holding (wpAny_call (PySem.W.class_get (s := ⟨hp, g, d, t + 1, os⟩) (ox := ox) (od := od) X I T.hm (wpAny_pure ?_))))
  show wpAny _ _ (handedOut (.ref Da)) _ _ _
  rw [PySem.W.handedOut_of (v := .ref Da) rfl]
  first
    | exact wpAny_pure (wpAny_pure h)
    | exact wpAny_pure h
    | exact wpAny_pure (wpAny_bind (wpAny_pure (wpAny_pure h)))
theorem kit_err (T : L2.ExcC K Da) : PySem.W.KitX K (.ref x) (.ref Da) (fun h => ∃ od, PySem.W.InstAt h x ox Da od) := by
  obtain ⟨cdD, hcD, _⟩ := PySem.W.any_some T.hd
  unfold PySem.W.clsIn at hcD
  split at hcD
  · rename_i c' d' cd' sl' ho
    refine { ty := fun _ _ _ ⟨_, I⟩ => I.type, it := ?_, ne := ?_, ca := ?_ }
    · intro _ _ X _ A' Q' E' s' k q
      unfold isType loadHead
      exact wpAny_bind (wpAny_loadPart (k _ _ (X _ _ ho)) (wpAny_pure q))
    · intro h tp dd its n sl X htp
      refine Bool.eq_false_iff.mpr fun q => ?_
      have e : Da = tp := Value.ref.inj (beq_iff_eq.mp q)
      rw [← e] at htp
      exact nomatch (X _ _ ho).symm.trans htp
    · intro _ _ _ _ _ _ X I k
      obtain ⟨od, I⟩ := I
      exact cls_attr_err T X I k
  · cases hcD
end
/-- isinstance(e, T) of the error that the suite holds -/
def rIsErr (K : PySem.W.Frag) (Da a : Addr) : List V → Hp → VK → Prop := fun xs H Q => ∃ (c : V) (u : Value) (b : Bool), xs = [.ref a, c] ∧ ClsV c u ∧ PySem.W.kitOne K (.ref Da) u = some b ∧ Q (.bl b) H
theorem call_isErr {X : Cx} {a Da : Addr} {oe : Obj} {pn : List (Addr × Obj)} {dd : Option Addr} {fs : List (Str × V)} (T : L2.ExcC X.K Da) (hz : Zc (.ref Da) dd oe) (hf : ∃ vs, oe.data = .fields vs) :
    CallR (X.suite a ((a, oe) :: pn)) (.builtin "isinstance") (fun xs H Q => (dd = none ∨ ∃ d fs, dd = some d ∧ H d = some (.xd fs)) ∧ rIsErr X.K Da a xs H Q) := by
  rintro pins s σ H xs us Q I r ⟨hd, c, u, b, rfl, hc, e, q⟩
  obtain ⟨u1, u2, rfl, r1, r2⟩ := vals2 r
  obtain rfl : u1 = Value.ref a := r1
  have e2 := hc.eq r2
  subst e2
  obtain ⟨hget, _⟩ := I.pin (a, oe) (List.mem_append.mpr (.inl List.mem_cons_self))
  obtain ⟨vs, hv⟩ := hf
  have J : ∃ od, PySem.W.InstAt s.heap a oe Da od := by
    have nc : PySem.W.notCls oe := by unfold PySem.W.notCls; rw [hv] <;> trivial
    rcases hd with hd | ⟨d, fs, hd, hh⟩
    · exact ⟨none, hget, hz.1, nc, by rw [hz.2, hd]; trivial⟩
    · have hx : ObjOk X.prog X.w H s.heap d (.xd fs) := I.hok d _ hh
      obtain ⟨mA, ⟨o, es, ep, ho, _⟩, _⟩ := hx
      exact ⟨some o, hget, hz.1, nc, by rw [hz.2, hd]; exact ho⟩
  exact PySem.W.kia_one (kit_err (x := a) (ox := oe) T) I.kIn J e (fun z => nomatch z) fun tk => ⟨.bl b, H, I.tok tk, rfl, q⟩
/-! ### the rules of such a suite -/
def mXfld (xfl : Str → List Str) (i : Nat) (C : Str) (ds : List D) (x : Str) : ME := fun env S => match env[i]? with
  | some none => (match ((xfl C).zip ds).lookup x with
    | some d => .ok d S
    | none => .bad)
  | _ => .bad
def mXis (xk : Str → CK → Option Bool) (i : Nat) (C : Str) (T : CK) : ME := fun env S => match env[i]? with
  | some none => (match xk C T with
    | some b => .ok (.bl b) S
    | none => .bad)
  | _ => .bad
section
variable {Γ : G} {W : WX} {X : Cx} {a : Addr} {oe : Obj} {C n x : Str} {ds : List D} {o : Option Addr} {pn : List (Addr × Obj)} {i : Nat} {p pos : Pos}
theorem PE.absurd {X : Cx} {e : Expr} {t : TE} (h : ∀ σ H Q, ¬ t σ H Q) : PE X e t := ⟨fun pins s σ H Q I q => (h σ H Q q).elim⟩
theorem q_xfld (hK : X.K = Γ.K) (hX : ∀ E, x ∈ Γ.xfl E → XfC Γ.K (Γ.c E) ∧ PySem.W.findIn Γ.K (.ref (Γ.c E)) x = some none) (hz : Zc (.ref (Γ.c C)) o oe) (hf : ∃ vs, oe.data = .fields vs) (hN : X.N[i]? = some n := by rfl) (hv : Vis X.env.scope n := by first | exact Or.inl rfl | exact Or.inr (Or.inl rfl) | exact Or.inr (Or.inr rfl))
    (hd : (n == ("__debug__" : Str)) = false := by decide) (hcd : (n == ("__classdict__" : Str)) = false := by decide) (hb : attributeBase (.Name n p) x X.env (eval (.Name n p) X.env) = eval (.Name n p) X.env := by rfl) :
    PE (X.suite a ((a, oe) :: pn)) (.Attribute (.Name n p) x pos) (tE (Γ.at_ a i C ds o) W (mXfld Γ.xfl i C ds x)) := by
  by_cases hx : x ∈ Γ.xfl C
  · obtain ⟨T, hno⟩ := hX C hx
    refine PE.imp (pe_xf (X := X) (by rw [hK]; exact T) (by rw [hK]; exact hno) hz hf (pe_var (i := i) hN hv hd hcd) hb) fun σ H Q ⟨env, S, f, rs, re, h⟩ => ?_
    unfold mXfld at h
    split at h
    · rename_i hi
      split at h
      · rename_i d hd'
        refine ⟨_, re.2.2 a i C ds o rfl hi, rfl, rfl, ?_⟩
        rcases rs.xc a i C ds o rfl with ⟨e, _⟩ | ⟨dd, fvs, e1, e2, r⟩
        · subst e
          rw [List.zip_nil_right] at hd'
          cases hd'
        · obtain ⟨v, hv', rv⟩ := r.look hd'
          exact ⟨dd, fvs, v, e1, e2, hv', h f H v .refl rs rv⟩
      · exact h.elim
    · exact h.elim
  · refine PE.absurd fun σ H Q ⟨env, S, f, rs, re, h⟩ => ?_
    unfold mXfld at h
    split at h
    · split at h
      · rename_i d hd'
        exact hx (zip_mem hd')
      · exact h
    · exact h
theorem q_xis {c : Expr} {T : CK} {xk : Str → CK → Option Bool} {p2 : Pos} (hK : X.K = Γ.K) (hX : ∀ E b, xk E T = some b → L2.ExcC Γ.K (Γ.c E) ∧ PySem.W.kitOne Γ.K (.ref (Γ.c E)) (T.u Γ) = some b) (hz : Zc (.ref (Γ.c C)) o oe) (hf : ∃ vs, oe.data = .fields vs) (hm : X.mg "isinstance" = none)
    (hc : PE (X.suite a ((a, oe) :: pn)) c (tC (T.v Γ))) (hN : X.N[i]? = some n := by rfl) (hv : Vis X.env.scope n := by first | exact Or.inl rfl | exact Or.inr (Or.inl rfl) | exact Or.inr (Or.inr rfl)) (hd : (n == ("__debug__" : Str)) = false := by decide) (hcd : (n == ("__classdict__" : Str)) = false := by decide) (hg : Gl X "isinstance" := by rfl)
    (hs : starEach (.Name n p2 :: [c]) X.env = (false, eval (.Name n p2) X.env) :: starEach [c] X.env := by rfl) (hs2 : starEach (c :: []) X.env = (false, eval c X.env) :: starEach [] X.env := by rfl) (hpl : (backTo pos (starEach [c] X.env)).any (·.1) = false := by rfl) :
    PE (X.suite a ((a, oe) :: pn)) (.Call (.Name "isinstance" p) [.Name n p2, c] [] pos) (tE (Γ.at_ a i C ds o) W (mXis xk i C T)) := by
  cases q : xk C T with
  | none =>
    refine PE.absurd fun σ H Q ⟨env, S, f, rs, re, h⟩ => ?_
    unfold mXis at h
    split at h
    · rw [q] at h; exact h
    · exact h
  | some b =>
    obtain ⟨T1, hk⟩ := hX C b q
    refine PE.imp (pe_callB (X := X.suite a ((a, oe) :: pn)) (call_isErr (fs := []) (by rw [hK]; exact T1) hz hf) hg hm (by decide +kernel) (pa_cons (pe_var (i := i) hN hv hd hcd) (pa_cons hc pa_nil hs2) hs) (by decide) (by decide) hs hpl) fun σ H Q ⟨env, S, f, rs, re, h⟩ => ?_
    unfold mXis at h
    split at h
    · rename_i hi
      rw [q] at h
      refine ⟨_, re.2.2 a i C ds o rfl hi, ?_, T.v Γ, T.u Γ, b, rfl, T.cls, by rw [hK]; exact hk, h f H _ .refl rs Rp.ofBl⟩
      rcases rs.xc a i C ds o rfl with ⟨_, e⟩ | ⟨dd, fvs, e1, e2, r⟩
      · exact .inl e
      · exact .inr ⟨dd, fvs, e1, e2⟩
    · exact h.elim
end
end Lk

set_option Elab.async false
set_option linter.all false
set_option autoImplicit false
set_option maxRecDepth 100000
set_option maxHeartbeats 4000000
/-! Written dicts, globals' values, the law's own end. -/
namespace Lk
open PySem PySem.Spec PyProof.Rows L2
def mDict0 : ME := fun _ S => .ok (.ref S.length) (S ++ [.dk []])
def keyOf : D → Option Key
  | .int i => some (.inl i)
  | .str x => some (.inr x)
  | _ => none
def mDict1 (mk mv : ME) : ME := fun env S => (mk env (S ++ [.dk []])).bind fun k S1 => (mv env S1).bind fun v S2 => match keyOf k, S2[S.length]? with
  | some key, some (.dk []) => .ok (.ref S.length) (S2.set S.length (.dk [(key, v)]))
  | _, _ => .bad
section
variable {Γ : G} {W : WX} {X : Cx} {f : List Addr} {H : Hp} {S : Store} {pos : Pos}
theorem q_dict0 : PE X (.Dict [] [] pos) (tE Γ W mDict0) := PE.imp pe_dnewK fun σ H Q ⟨env, S, f, rs, re, h⟩ p hp => by
  refine h (f ++ [p]) _ _ (.alloc hp) (rs.alloc (b := .dk []) hp ⟨[], upd_same, rfl, ?_⟩) (Rp.refI (by rw [← rs.len]; simp))
  simp only [List.map_nil, RpL]
theorem keyOf_ok {d : D} {v : V} {k : Key} (h : keyOf d = some k) (r : Rp Γ f H d v) : v = kV k := by
  cases d with
  | int i => cases h; exact r.int
  | str i => cases h; exact r.str
  | _ => cases h
theorem q_dict1 {k v : Expr} {mk mv : ME} (hk : PE X k (tE Γ W mk)) (hv : PE X v (tE Γ W mv)) : PE X (.Dict [some k] [v] pos) (tE Γ W (mDict1 mk mv)) := PE.imp (pe_disp (pps_cons hk hv pps_nil) rfl rfl (fun z => by cases z) (by show 1 ≤ 15; decide)) fun σ H Q ⟨env, S, f, rs, re, h⟩ p hp => by
  have rs0 : RelS Γ (f ++ [p]) (S ++ [.dk []]) (upd H p (.dK [])) := rs.alloc (b := .dk []) hp ⟨[], upd_same, rfl, by simp only [List.map_nil, RpL]⟩
  have u0 : Up Γ f H (f ++ [p]) (upd H p (.dK [])) := .alloc hp
  refine ⟨env, S ++ [.dk []], f ++ [p], rs0, re.up u0, Wp.bindL (Wp.mono u0 h) fun k S1 f1 H1 kv u1 rs1 r1 h1 => ⟨env, S1, f1, rs1, (re.up u0).up u1, Wp.bindL h1 fun d S2 f2 H2 dv u2 rs2 r2 h2 => ?_⟩⟩
  split at h2
  · rename_i key hkey hn
    have hp2 : f2[S.length]? = some p := (u1.trans u2).at (by rw [← rs.len]; simp)
    obtain ⟨b, hb, us, hh, ek, _⟩ := rs2.ob _ _ hn
    rw [hp2] at hb
    cases hb
    have eu : us = [] := by
      have := congrArg List.length ek
      simpa using this
    subst eu
    have uc : Up Γ f2 H2 f2 (upd H2 p (.dK (mergeK [] [(key, dv)]))) := .chg hh trivial
    refine ⟨hh, [(key, dv)], by rw [List.map_cons, List.map_nil, keyOf_ok hkey (r1.up u2)], (by show 1 ≤ 15; decide), h2 f2 _ _ uc (rs2.set hp2 (.chg hh trivial) ⟨[(key, dv)], upd_same, rfl, ?_⟩) (Rp.refI hp2)⟩
    simp only [List.map_cons, List.map_nil, RpL]
    exact ⟨dv, [], rfl, r2.up uc, rfl⟩
  · exact h2.elim
end
/-- the script: ints that are read alone -/
theorem script_rp {Γ : G} {H : Hp} {a : Addr} {ns : List Int} (hO : Only H) (hS : SqL Γ.K H a (ns.map V.int)) : Rp Γ [] H (.rol (ns.map D.int)) (.ref a) := by
  simp only [Rp]
  refine ⟨a, _, rfl, ⟨hS, ?_⟩, ?_⟩
  · rcases hS with (h | ⟨o, h⟩) | h
    · rcases hO a with z | ⟨o, xs, z⟩
      · rw [z] at h; cases h
      · rw [z] at h; cases h
    · exact .inl ⟨o, h⟩
    · exact .inr h
  · have key : ∀ ns : List Int, RpL Γ [] H (ns.map D.int) (ns.map V.int) := by
      intro ns
      induction ns with
      | nil => simp only [List.map_nil, RpL]
      | cons n ns ih =>
        simp only [List.map_cons, RpL]
        exact ⟨_, _, rfl, Rp.ofInt, ih⟩
    exact key ns
/-- the law's promise, from what its mirror says of every script -/
theorem law_sp {Γ : G} {m : List D → Store → R D} {H : Hp} {a : Addr} {ns : List Int} (hx : Γ.xc = none) (hO : Only H) (hS : SqL Γ.K H a (ns.map V.int)) {S' : Store} (hm : m [.rol (ns.map D.int)] [] = .ok (.bl true) S') :
    spOf Γ 1 m [.ref a] H (fun v _ => v = .bl true) (fun _ _ _ => False) := by
  refine ⟨rfl, [], [], [.rol (ns.map D.int)], ⟨rfl, List.nodup_nil, fun n o e => by simp at e, fun a i C ds o e => by rw [hx] at e; cases e⟩, ?_, ?_⟩
  · simp only [RpL]
    exact ⟨_, [], rfl, script_rp hO hS, rfl⟩
  · rw [hm]
    exact fun f' H' b _ _ r => r.bl
theorem cx_none {P : Program} {w : World} (H : Hp) (s : Shared) (e : Value) (s' : Shared) (h : L2.CX P w [] H s (fun _ _ _ => False) e s') : False := by
  obtain ⟨_, _, _, _, _, _, _, _, _, _, _, _, z⟩ := h
  exact z.elim
end Lk

set_option Elab.async false
set_option linter.all false
set_option autoImplicit false
set_option maxRecDepth 100000
set_option maxHeartbeats 4000000
/-! What the head says, as questions that the kernel answers. -/
namespace Lk
open PySem PySem.Spec PyProof.Rows L2
section
variable {K : PySem.W.Frag}
theorem b2 {a b : Bool} (h : (a && b) = true) : a = true ∧ b = true := Bool.and_eq_true_iff.mp h
def oexB (K : PySem.W.Frag) (C : Addr) : Bool := (match K.lookup C with
  | some ⟨.type "type", _, .cls cd, sl⟩ => (match cd.mro, sl.toList with
    | .ref C' :: bm, [_, _, _, _, some (.builtin n), _] => C' == C && (n == "ValueError.__new__" && (!cd.hasDel && (PySem.HandSPX.refsVE bm && cd.hasDict)))
    | _, _ => false)
  | _ => false) && (decide (PySem.W.findIn K (.ref C) "__setattr__" = some (some (.builtin "object.__setattr__"))) && (decide (PySem.W.subIn K (.ref C) (.type "BaseException") = some true) && (decide (PySem.W.typeIn K (.ref C) = some (.type "type")) && PySem.W.keepIn K (.ref C))))
theorem oexB_ok {C : Addr} (h : oexB K C = true) : OexC K C := by
  obtain ⟨h1, h⟩ := b2 h
  obtain ⟨h2, h⟩ := b2 h
  obtain ⟨h3, h⟩ := b2 h
  obtain ⟨h4, h5⟩ := b2 h
  refine ⟨?_, of_decide_eq_true h2, of_decide_eq_true h3, of_decide_eq_true h4, h5⟩
  split at h1
  · rename_i dd cd sl ho
    split at h1
    · rename_i C' bm k0 k1 k2 k3 n k5 hm hs
      simp only [Bool.and_eq_true, beq_iff_eq, Bool.not_eq_true'] at h1
      obtain ⟨e1, e2, e3, e4, e5⟩ := h1
      subst e1
      subst e2
      obtain ⟨nm, bs, mro, ns, qn, hd, sn, sub, ab, col, del⟩ := cd
      dsimp only at hm e3 e5
      subst hm
      subst e3
      subst e5
      obtain ⟨sl⟩ := sl
      dsimp only at hs
      subst hs
      exact ⟨nm, qn, ns, bs, bm, sn, sub, ab, col, dd, k0, k1, k2, k3, k5, ho, e4⟩
    · cases h1
  · cases h1
def insB (K : PySem.W.Frag) (C : Addr) : Bool := PySem.W.plainGet K C Str.empty && (PySem.W.hasDictIn K C && (PySem.W.plainOver K C && (decide (PySem.W.findIn K (.ref C) "__setattr__" = some (some (.builtin "object.__setattr__"))) &&
  (decide (PySem.W.findIn K (.ref C) "__class__" = some (some (.builtin "object.__class__"))) && (decide (PySem.W.specialIn K (.builtin "object.__class__") "__get__" = some (some (.builtin "getset_descriptor.__get__"))) &&
  (decide (PySem.W.takesIn K (.builtin "object.__class__") = some true) && (decide (PySem.W.mroIn K C (.type "object") = some true) && decide (PySem.W.kitOne K (.ref C) (.ref C) = some true))))))))
theorem insB_ok {C : Addr} (h : insB K C = true) : C8.InsC K C := by
  obtain ⟨h1, h⟩ := b2 h
  obtain ⟨h2, h⟩ := b2 h
  obtain ⟨h3, h⟩ := b2 h
  obtain ⟨h4, h⟩ := b2 h
  obtain ⟨h5, h⟩ := b2 h
  obtain ⟨h6, h⟩ := b2 h
  obtain ⟨h7, h⟩ := b2 h
  obtain ⟨h8, h9⟩ := b2 h
  exact ⟨⟨h1, h2, h3, of_decide_eq_true h4⟩, of_decide_eq_true h5, of_decide_eq_true h6, of_decide_eq_true h7, of_decide_eq_true h8, of_decide_eq_true h9⟩
def noB (K : PySem.W.Frag) (C : Addr) (x : Str) : Bool := decide (PySem.W.findIn K (.ref C) x = some none)
theorem noB_ok {C : Addr} {x : Str} (h : noB K C x = true) : PySem.W.findIn K (.ref C) x = some none := of_decide_eq_true h
/-- isinstance's table for one class -/
def isB (Γ : G) (cs : List Str) (T : CK) : Bool := (biTypes.all fun a => decide (PySem.W.kitOne Γ.K (.type a) (T.u Γ) = some (isA (.bi a) T))) && cs.all fun C => decide (PySem.W.kitOne Γ.K (.ref (Γ.c C)) (T.u Γ) = some (isA (.own C) T))
theorem isB_ok {Γ : G} {cs : List Str} {T : CK} (h : isB Γ cs T = true) : IsF Γ cs T := by
  obtain ⟨h1, h2⟩ := b2 h
  exact ⟨fun a ha => of_decide_eq_true (List.all_eq_true.mp h1 a ha), fun C hC => of_decide_eq_true (List.all_eq_true.mp h2 C hC)⟩
def nfB (Γ : G) (cs : List Str) (C : Str) : Bool := (biTypes.all fun a => PySem.W.notFirst Γ.K (Γ.c C) (.type a)) && cs.all fun E => PySem.W.notFirst Γ.K (Γ.c C) (.ref (Γ.c E))
theorem nfB_ok {Γ : G} {cs : List Str} {C : Str} (h : nfB Γ cs C = true) : ∀ a : CK, okK cs a = true → PySem.W.notFirst Γ.K (Γ.c C) (a.u Γ) = true := by
  obtain ⟨h1, h2⟩ := b2 h
  intro a ha
  cases a with
  | bi n => exact List.all_eq_true.mp h1 n (List.contains_iff_mem.mp ha)
  | own E => exact List.all_eq_true.mp h2 E (List.contains_iff_mem.mp ha)
def excB (K : PySem.W.Frag) (C : Addr) : Bool := decide (PySem.W.findIn K (.ref C) "__getattribute__" = some (some (.builtin "BaseException.__getattribute__"))) && (decide (PySem.W.findIn K (.ref C) "__getattr__" = some none) && (decide (PySem.W.subIn K (.ref C) (.type "BaseException") = some true) && (PySem.W.hasDictIn K C &&
  (decide (PySem.W.findIn K (.ref C) "__class__" = some (some (.builtin "object.__class__"))) && (decide (PySem.W.specialIn K (.builtin "object.__class__") "__get__" = some (some (.builtin "getset_descriptor.__get__"))) && (decide (PySem.W.takesIn K (.builtin "object.__class__") = some true) && decide (PySem.W.mroIn K C (.type "object") = some true)))))))
theorem excB_ok {C : Addr} (h : excB K C = true) : L2.ExcC K C := by
  obtain ⟨h1, h⟩ := b2 h
  obtain ⟨h2, h⟩ := b2 h
  obtain ⟨h3, h⟩ := b2 h
  obtain ⟨h4, h⟩ := b2 h
  obtain ⟨h5, h⟩ := b2 h
  obtain ⟨h6, h⟩ := b2 h
  obtain ⟨h7, h8⟩ := b2 h
  exact ⟨of_decide_eq_true h1, of_decide_eq_true h2, of_decide_eq_true h3, h4, of_decide_eq_true h5, of_decide_eq_true h6, of_decide_eq_true h7, of_decide_eq_true h8⟩
theorem excB_xf {C : Addr} (h : excB K C = true) : XfC K C := by
  have e := excB_ok h
  exact ⟨e.hg, e.hk, e.hs, e.hd⟩
def kitB (Γ : G) (C : Str) (T : CK) (b : Bool) : Bool := decide (PySem.W.kitOne Γ.K (.ref (Γ.c C)) (T.u Γ) = some b)
def biB (K : PySem.W.Frag) (x : Str) (id : String) : Bool := He.eqO (PySem.W.nsIn K mainGlobals x) (some (some (.builtin id)))
theorem biB_ok {h : Heap} {mg : Str → Option Value} (X : K.In h) (Gs : h.Ns mainGlobals mg) {x : Str} {id : String} (c : biB K x id = true) : mg x = some (.builtin id) := PySem.W.mg_of X Gs (He.eqO_ok c)
end
/-! ### the questions, asked at the head's end -/
abbrev Qs : Type := List (PySem.W.Frag → Bool)
def obsL (fa : Qs) (fn : List He.DefD) (K : PySem.W.Frag) : He.AlD := ((fa.all fun q => q K) && fn.all fun d => d.ok K, fn.map fun d => He.fnW K d.at_)
def SaysL (fa : Qs) (fn : List He.DefD) (K : PySem.W.Frag) : Prop := obsL fa fn K = He.valD fn
def obsLG (n : Nat) (fa : Qs) (fn : List He.DefD) (g : Addr → Option Obj) : He.AlD := obsL fa fn (He.frG g (He.asD g n))
def hookL (n : Nat) (fa : Qs) (fn : List He.DefD) : PySem.W.Hook where
  α := He.AlD
  obs := fun s => obsLG n fa fn s.heap.get?
  val := fun _ => He.valD fn
  says := fun _ h => ∃ K : PySem.W.Frag, K.In h ∧ SaysL fa fn K
  of := fun _ _ e => ⟨_, He.frG_in, e⟩
  keeps := fun _ _ _ ⟨K, hK, c⟩ k => ⟨K, PySem.W.Frag.In.keeps hK k, c⟩
theorem obsLG_eq {n : Nat} {fa : Qs} {fn : List He.DefD} {g : Addr → Option Obj} {s : Shared} (h : ∀ a, g a = s.heap.get? a) : obsLG n fa fn g = (hookL n fa fn).obs s := by
  have e : g = s.heap.get? := funext h
  rw [e] <;> rfl
section
variable {fa : Qs} {fn : List He.DefD} {K : PySem.W.Frag}
theorem SaysL.fact (c : SaysL fa fn K) (i : Nat) {q : PySem.W.Frag → Bool} (h : fa[i]? = some q := by rfl) : q K = true := by
  have c1 := (b2 (show ((fa.all fun q => q K) && fn.all fun d => d.ok K) = true from congrArg (fun z : He.AlD => z.1) c)).1
  exact List.all_eq_true.mp c1 q (List.mem_of_getElem? h)
theorem SaysL.def_ (c : SaysL fa fn K) (i : Nat) {d : He.DefD} (h : fn[i]? = some d := by rfl) : ∃ fd, FunD K d.name d.qual d.params d.body d.scope (d.dvs K) (d.kws K) (He.fAd K d.at_) fd := by
  have c2 := (b2 (show ((fa.all fun q => q K) && fn.all fun d => d.ok K) = true from congrArg (fun z : He.AlD => z.1) c)).2
  have e : fn.map (fun d => He.fnW K d.at_) = fn.map He.DefD.val := congrArg (fun z : He.AlD => z.2) c
  have e2 : (fn.map fun d => He.fnW K d.at_)[i]? = (fn.map He.DefD.val)[i]? := by rw [e]
  rw [List.getElem?_map, List.getElem?_map, h] at e2
  exact He.DefD.funD (Option.some.inj e2) (List.all_eq_true.mp c2 d (List.mem_of_getElem? h))
end
end Lk

set_option Elab.async false
set_option linter.all false
set_option autoImplicit false
set_option maxRecDepth 100000
set_option maxHeartbeats 4000000
namespace Lk
open PySem PySem.Spec PyProof.Rows L2
section
variable {Γ : G} {W : WX} {X : Cx} {f : List Addr} {S : Store} {H : Hp} {e : Expr} {es : List Expr} {p pos apos cpos : Pos} {mr : MA} {mo : ME} {o : Expr} {name : Str}
theorem all_cons {α : Type} {p : α → Prop} {a : α} {l : List α} (h : p a) (r : ∀ b ∈ l, p b) : ∀ b ∈ a :: l, p b := fun b hb => by
  rcases List.mem_cons.mp hb with e | e
  · subst e; exact h
  · exact r b e
theorem q_callG {id : String} {x : Str} {r : List V → Hp → VK → Prop} {g : List D → Store → R D} (hc : CallR X (.builtin id) r) (hg' : ArOk Γ r g) (hm : X.mg x = some (.builtin id)) (ha : PA X (e :: es) (tA Γ W mr)) (hg : Gl X x := by rfl) (hdb : (x == ("__debug__" : Str)) = false := by decide)
    (he : starEach (e :: es) X.env = (false, eval e X.env) :: starEach es X.env := by rfl) (hpl : (backTo pos (starEach es X.env)).any (·.1) = false := by rfl) : PE X (.Call (.Name x p) (e :: es) [] pos) (tE Γ W (mB g mr)) := PE.imp (pe_callBfun hc hg hm ha hdb he hpl) fun σ H Q => many hg'
theorem q_bm {id : String} {r : V → List V → Hp → VK → Prop} {g : D → List D → Store → R D} (hK : X.K = Γ.K) (hg : MtOk Γ r g) (pa : PlainAttrs "list") (slot : Slot "list" name id) (hty : typeOf (.builtin id) = pure (.type "method_descriptor")) (hm : MtR X id r) (ho : PE X o (tE Γ W mo)) (ha : PA X (e :: es) (tA Γ W mr))
    (hbase : attributeBase o name X.env (eval o X.env) = eval o X.env := by rfl)
    (hfew : ((backTo cpos (starEach (e :: es) X.env)).all (fun x => !x.1) && (backToKw cpos (keywordEach [] X.env)).all (fun x => x.1.isSome)
      && decide ((e :: es).length + ([] : List Keyword).length + (if ([] : List Keyword).isEmpty then 0 else 1) < 30)) = true := by rfl)
    (hline : (apos.endLine == cpos.line) = true := by rfl) (hs : starEach (e :: es) X.env = (false, eval e X.env) :: starEach es X.env := by rfl) (hplain : (backTo cpos (starEach es X.env)).any (·.1) = false := by rfl) :
    PE X (.Call (.Attribute o name apos) (e :: es) [] cpos) (tE Γ W (mBM g mo mr)) := PE.imp (pe_bm pa slot hty hm ho ha hbase hfew hline hs hplain) fun σ H Q h => bm_imp hK hg h
/-! ### str of an int -/
def gStr : List D → Store → R D
  | [.int i], S => if i.natAbs.log2 < 1920 then .ok (.str (toString i)) S else .bad
  | _, _ => .bad
theorem ok_str : ArOk Γ (fun xs H Q => ∃ i, xs = [.int i] ∧ i.natAbs.log2 < 1920 ∧ Q (.str (toString i)) H) gStr := fun W σ f S H xs vs Q rs r h => by
  unfold gStr at h
  split at h
  · rename_i i
    split at h
    · rename_i c
      simp only [RpL] at r
      obtain ⟨v, us, e, r1, e2⟩ := r
      subst e2
      refine ⟨i, ?_, c, h f H _ .refl rs Rp.ofStr⟩
      rw [e, r1.int]
    · exact h.elim
  · exact h.elim
theorem ns_of {K : PySem.W.Frag} {h : Heap} {N : Addr} {mg : Str → Option Value} {n : Str} {v : Value} (X : K.In h) (G : h.Ns N mg) (e : PySem.W.nsIn K N n = some (some v)) : mg n = some v := by
  obtain ⟨o, es, ep, ho, hd, _, hf⟩ := G
  unfold PySem.W.nsIn at e
  split at e
  · rename_i c d es' n' sl q
    have := X _ _ q
    rw [ho] at this
    cases this
    cases hd
    split at e
    · rename_i en he
      cases e
      rw [← hf]
      unfold nsFind findBy
      rw [← Array.find?_toList, he]
      first | rfl | simp
    · split at e <;> cases e
  · cases e
/-! ### != of two instances of one class with an own == and no own != -/
def ownNeB (K : PySem.W.Frag) (C : Addr) (f : Addr) : Bool := (match K.lookup C with
  | some ⟨.type "type", _, .cls cd, sl⟩ => (match cd.mro, sl.toList with
    | [.ref C', .type "object"], [_, _, _, _, some (.builtin n), _] => C' == C && (!cd.hasDel && (PySem.W.nsOkIn K cd.ns && (decide (PySem.W.nsIn K cd.ns "__eq__" = some (some (.ref f))) && decide (PySem.W.nsIn K cd.ns "__ne__" = some none))))
    | _, _ => false)
  | _ => false) && (match K.lookup f with
  | some o => o.cls == .type "function"
  | none => false)
structure OwnNe (K : PySem.W.Frag) (C f : Addr) : Prop where
  cls : ∃ nm q N bs hd sn sub ab col dd k0 k1 k2 k3 k5 n, K.lookup C = some (excClassObj nm q C N bs [.type "object"] hd sn sub ab col dd k0 k1 k2 k3 k5 n) ∧ PySem.W.nsOkIn K N = true ∧ PySem.W.nsIn K N "__eq__" = some (some (.ref f)) ∧ PySem.W.nsIn K N "__ne__" = some none
  fn : ∃ o, K.lookup f = some o ∧ o.cls = .type "function"
theorem ownNeB_ok {K : PySem.W.Frag} {C f : Addr} (h : ownNeB K C f = true) : OwnNe K C f := by
  obtain ⟨h1, h2⟩ := b2 h
  refine ⟨?_, by
    split at h2
    · rename_i o ho; exact ⟨o, ho, beq_iff_eq.mp h2⟩
    · cases h2⟩
  split at h1
  · rename_i dd cd sl ho
    split at h1
    · rename_i C' k0 k1 k2 k3 n k5 hm hs
      simp only [Bool.and_eq_true, beq_iff_eq, Bool.not_eq_true'] at h1
      obtain ⟨e1, e2, e3, e4, e5⟩ := h1
      subst e1
      obtain ⟨nm, bs, mro, ns, qn, hd, sn, sub, ab, col, del⟩ := cd
      dsimp only at hm e2 e3 e4 e5
      subst hm
      subst e2
      obtain ⟨sl⟩ := sl
      dsimp only at hs
      subst hs
      exact ⟨nm, qn, ns, bs, hd, sn, sub, ab, col, dd, k0, k1, k2, k3, k5, n, ho, e3, of_decide_eq_true e4, of_decide_eq_true e5⟩
    · cases h1
  · cases h1
structure NeC (Γ : G) (P : Program) (w : World) (mg : Str → Option Value) (base : Heap) (k : Nat) (C : Str) (m : List D → Store → R D) : Prop where
  ne : ∃ g fd ps, OwnNe Γ.K (Γ.c C) g ∧ FnOk P w Γ.K mg base (L2.CX P w) k g fd ps (spOf Γ 2 m) ∧ Binds Γ.K fd ps []
def rOwnNe (Γ : G) (oe : Str → Option (List D → Store → R D)) : R2 := fun x y H Q => ∃ C m a b dx fs dy gs, oe C = some m ∧ x = .ref a ∧ H a = some (.ins (Γ.c C) dx fs) ∧ y = .ref b ∧ H b = some (.ins (Γ.c C) dy gs) ∧ spOf Γ 2 m [x, y] H (fun v H' => ∃ b, v = .bl b ∧ Q (.bl (!b)) H') (fun _ _ _ => False)
theorem or_ownNe {k : Nat} {oe : Str → Option (List D → Store → R D)} (hK : X.K = Γ.K) (hr : Room (k + 1) X.A) (ho : ∀ C m, oe C = some m → NeC Γ X.prog X.w X.mg X.base k C m) : OpR X (compareOp .NotEq) (rOwnNe Γ oe) := by
  intro pins s σ H x y v u Q I rx ry h
  obtain ⟨C, m, a, b, dx, fs, dy, gs, hC, ex, hh, ey, hh2, hsp⟩ := h
  subst ex
  subst ey
  obtain rfl : v = Value.ref a := rx
  obtain rfl : u = Value.ref b := ry
  obtain ⟨g, fd, ps, on, F, hb⟩ := (ho C m hC).ne
  obtain ⟨nm, q, N, bs, hd, sn, sub, ab, col, dd, k0, k1, k2, k3, k5, n, hl, n1, n2, n3⟩ := on.cls
  obtain ⟨mA, J, _⟩ := ins_get I.hok hh
  obtain ⟨mB, J2, _⟩ := ins_get I.hok hh2
  have KI : Γ.K.In s.heap := by rw [← hK]; exact I.kIn
  obtain ⟨of, hf1, hf2⟩ := on.fn
  have hns := Heap.Ns.of_isNs (PySem.W.isNs_of_in KI n1)
  have he : s.heap.nsMap N "__eq__" = some (.ref g) := ns_of KI hns n2
  have hne : s.heap.nsMap N "__ne__" = none := PySem.W.nsMap_none_of_in KI n1 n3
  have OE : s.heap.OwnEqNoNe a (Γ.c C) g "object" [.type "object"] :=
    ⟨_, of, nm, q, N, bs, hd, sn, sub, ab, col, dd, k0, k1, k2, k3, k5, n, _, _, J.obj, rfl, KI _ _ hl, hns, he, KI _ _ hf1, hf2, PySem.F.cmp_object.mro, PySem.F.cmp_object.eq.lookup, hne⟩
  have I0 := I
  obtain ⟨hh0, g0, d0, t0, os0⟩ := s
  refine compareOp_ne_ownEq PySem.F.cmp_object OE J2.obj rfl (by have := hr.un; omega) ?_
  have r : Vals [V.ref a, V.ref b] [.ref a, .ref b] := .cons rfl (.cons rfl .nil)
  have hle : ([Value.ref a, .ref b] : List Value).length = ps.length := by
    have := F.len _ _ _ _ hsp
    exact this
  have bb := hb ⟨hh0, g0, d0, t0, os0⟩ [.ref a, .ref b] KI (by rw [List.append_nil]; exact hle)
  rw [List.append_nil] at bb
  have e0 : Env0 X.prog X.w Γ.K X.mg X.base X.A.in1 X.stack ⟨hh0, g0, d0, t0, os0⟩ H := by rw [← hK]; exact I.env0.in1
  refine wpAny_call (codeAny_mono (F.run X.A.in1 X.stack ⟨hh0, g0, d0, t0, os0⟩ H ⟨[.ref a, .ref b], []⟩ [.ref a, .ref b] [V.ref a, V.ref b] (fun v H' => ∃ b, v = .bl b ∧ Q (.bl (!b)) H') (fun _ _ _ => False) hr.in1 e0 bb r hsp) fun r s' hq => ?_)
  cases r with
  | error e =>
    obtain ⟨_, _, _, _, _, _, _, _, _, _, _, _, z⟩ := hq
    exact z.elim
  | ok fl =>
    cases fl with
    | ret u =>
      obtain ⟨v, H', I', rz, c, ec, qz⟩ := I.after hq
      subst ec
      obtain rfl : u = Value.bool c := rz
      exact ⟨c, rfl, .bl (!c), H', I', rfl, qz⟩
    | next => exact False.elim hq
    | brk => exact False.elim hq
    | cont => exact False.elim hq
def rNeX (Γ : G) (oe : Str → Option (List D → Store → R D)) : R2 := fun x y H Q => rNeD Γ.K x y H Q ∨ rOwnNe Γ oe x y H Q
theorem or_ne {k : Nat} {oe : Str → Option (List D → Store → R D)} (hK : X.K = Γ.K) (hr : Room (k + 1) X.A) (ho : ∀ C m, oe C = some m → NeC Γ X.prog X.w X.mg X.base k C m) : OpR X (compareOp .NotEq) (rNeX Γ oe) := OpR.or (by rw [← hK]; exact op_neD hr.units) (or_ownNe hK hr ho)
def gNeX (oe : Str → Option (List D → Store → R D)) (x y : D) (S : Store) : R D := match x, y with
  | .ins C xs, .ins C' ys => if C = C' then (match oe C with
    | some m => (match m [.ins C xs, .ins C' ys] S with
      | .ok (.bl b) S' => .ok (.bl (!b)) S'
      | _ => .bad)
    | _ => .bad) else .bad
  | x, y => gNe x y S
theorem ok_neX {oe : Str → Option (List D → Store → R D)} : OpOk Γ (rNeX Γ oe) (gNeX oe) := fun W σ f S H x y v u Q rs rx ry h => by
  unfold gNeX at h
  split at h
  · rename_i C xs C' ys
    split at h
    · rename_i ec
      subst ec
      split at h
      · rename_i m hm
        have rx0 := rx
        have ry0 := ry
        simp only [Rp] at rx ry
        obtain ⟨a, dx, fvs, e, hh, _⟩ := rx
        obtain ⟨b, dy, gvs, e2, hh2, _⟩ := ry
        refine .inr ⟨C, m, a, b, dx, fvs, dy, gvs, hm, e, hh, e2, hh2, rfl, f, S, [.ins C xs, .ins C ys], rs, ?_, ?_⟩
        · simp only [RpL]
          exact ⟨v, [u], rfl, rx0, u, [], rfl, ry0, rfl⟩
        · revert h
          cases m [.ins C xs, .ins C ys] S with
          | ok d S' =>
            cases d with
            | bl b =>
              intro h f' H' v' u' rs' r'
              exact ⟨b, r'.bl, h f' H' _ u' rs' Rp.ofBl⟩
            | _ => exact fun h => h.elim
          | _ => exact fun h => h.elim
      · exact h.elim
    · exact h.elim
  · exact .inl (ok_ne W σ f S H x y v u Q rs rx ry h)
end
end Lk

set_option Elab.async false
set_option linter.all false
set_option autoImplicit false
set_option maxRecDepth 100000
set_option maxHeartbeats 4000000
namespace Lk
open PySem PySem.Spec PyProof.Rows L2
/-- the end: from the mirror's answer on every script to the law's walk -/
theorem walk_fin {l : PySem.W.OpenLaw} {n k : Nat} {q : Program} {loose : List Str} {XP : (Str → Option Value) → Heap → Prop} {YP : World → Heap → Prop} {d : DefRec} {x : Str} {m : List D → Store → R D}
    (hn : l.most = some n) (hn2 : n ≤ sizeLine) (hdf : d.params.defaults = []) (hr : Room k callerA)
    (hm : ∀ ns : List Int, ns.length ≤ n → ∃ S', m [.rol (ns.map D.int)] [] = .ok (.bl true) S')
    (F : ∀ (w : World) (mg : Str → Option Value) (fa : Addr) (h : Heap), YP w h → h.Ns mainGlobals mg → mg d.name = some (.ref fa) →
      ∃ (Γ : G) (fd : FuncData), Γ.xc = none ∧ Γ.K.In h ∧ (∀ (s : Shared) (u : Value), BindsTo s fd ⟨[u], []⟩ [(x, u)]) ∧ ∀ base : Heap, Γ.K.In base → base.Ns mainGlobals mg → FnOk l.prog w Γ.K mg base (L2.CX l.prog w) k fa fd [x] (spOf Γ 1 m)) :
    PySem.W.WalkO q loose XP YP l.row.toRowW d [] (fun f vs => PySem.call f vs) := by
  refine Att.attach_call hn hdf fun w s₀ s₁ mg mb fa o pm cd doc a vs ns G Y ho hd hcd hmg hobj hints hlen hg => ?_
  obtain ⟨Γ, fd, hx, KX, hb, hF⟩ := F w mg fa _ Y G.T.g hmg
  refine law_call KX G.T.g G.T.b G.T.builtins G.T.nolimit hg hobj hints (Nat.le_trans hlen hn2) hr hF hb (fun H hO hS => ?_) fun H e s' z => cx_none _ _ _ _ z
  obtain ⟨S', e⟩ := hm ns hlen
  exact law_sp hx hO hS e
end Lk

set_option Elab.async false
set_option linter.all false
set_option autoImplicit false
set_option maxRecDepth 100000
set_option maxHeartbeats 4000000
/-! a dict of at most one entry, compared with itself -/
namespace Lk
open PySem PySem.Spec PyProof.Rows L2
section
variable {K : Type} [DecidableEq K] {prog : Program} {w : World} {knd : KeyKind prog w K} {A : Around} {E : Value → Shared → Prop} {s : Shared}
theorem eqBool_self {v : Value} (hv : (v == v) = true) {Q : Bool → Shared → Prop} (h : Q true s) : wpAny (model prog w) A (eqBool v v) Q E s := by
  unfold eqBool
  try with_reducible refine wpAny_holding ?_
  rw [if_pos hv]
  exact wpAny_bind (wpAny_rule (wpAny_pure h))
theorem samePairs_self {id : String} {a : Addr} {o : Obj} {es : Array DictEntry} {ep : Nat} (ho : s.heap.get? a = some o) (hd : o.data = .dict es ep) (hk : KeysOf knd es) (hs : es.size ≤ 1) (hv : ∀ e ∈ es, (e.val == e.val) = true) (ha : (a == sysModules) = false) {Q : Bool → Shared → Prop} (h : Q true s) :
    wpAny (model prog w) A (Builtin.Dict.samePairs id a a) Q E s := by
  unfold Builtin.Dict.samePairs Builtin.Dict.showsAll
  rw [ha]
  simp only [Bool.false_eq_true, if_false]
  refine wpAny_bind (wpAny_pure ?_)
  refine wpAny_bind (wpAny_pure ?_)
  refine wpAny_bind (wpAny_dictEntries ho hd ?_)
  refine wpAny_bind (wpAny_dictEntries ho hd ?_)
  rw [show (es.size != es.size) = false from by simp]
  simp only [Bool.false_eq_true, if_false]
  try refine wpAny_bind (wpAny_pure ?_)
  refine wpAny_bind (wpAny_dictEpoch ho hd ?_)
  refine wpAny_bind (SeqAt.wpAny_forIn_span 0 es.size _ (fun i c s' => c = (none, ()) ∧ s' = s) _ (fun i c s' _ hi hc => ?_) (fun c s' hc => ?_) _ ⟨rfl, rfl⟩)
  · obtain ⟨rfl, rfl⟩ := hc
    have e0 : i = 0 := by omega
    subst e0
    have hm : es[0] ∈ es := Array.getElem_mem hi
    have hat : es[0]? = some es[0] := Array.getElem?_eq_getElem hi
    obtain ⟨k, hkey, hhash⟩ := hk es[0] hm
    refine wpAny_bind (wpAny_dictEntries ho hd ?_)
    rw [hat]
    refine wpAny_bind (wpAny_holding ?_)
    rw [hhash]
    refine wpAny_bind (wpAny_dictFind_of hkey ho hd hk ?_)
    have hf : (es.findIdx? fun e => knd.is k e.key) = some 0 := by
      obtain ⟨l⟩ := es
      cases l with
      | nil => simp at hi
      | cons x r =>
        rw [Array.findIdx?_eq_some_iff_getElem]
        exact ⟨hi, hkey, fun j hj => absurd hj (by omega)⟩
    rw [hf]
    refine wpAny_bind (wpAny_dictEntries ho hd ?_)
    rw [hat]
    refine wpAny_holding (eqBool_self (hv _ hm) ?_)
    simp only [Bool.not_true, Bool.false_eq_true, if_false]
    refine wpAny_bind (wpAny_dictEpoch ho hd ?_)
    simp only [bne_self_eq_false, Bool.false_eq_true, if_false]
    exact wpAny_pure ⟨rfl, rfl⟩
  · obtain ⟨rfl, rfl⟩ := hc
    exact wpAny_pure h
theorem sub_dict_dict : isSubtype (.type "dict") (.type "dict") = pure true := by rw [isSubtype_type]; kernel_rfl
theorem dictEq_self {a : Addr} {o : Obj} {es : Array DictEntry} {ep : Nat} (ho : s.heap.get? a = some o) (hx : o.ExactDict) (hd : o.data = .dict es ep) (hk : KeysOf knd es) (hs : es.size ≤ 1) (hv : ∀ e ∈ es, (e.val == e.val) = true) (ha : (a == sysModules) = false) {Q : Fin → Shared → Prop} (h : Q (.done (.ret (.bool true))) s) :
    wpAny (model prog w) A (Builtin.«dict.__eq__» ⟨[.ref a, .ref a], []⟩) Q E s := by
  obtain ⟨hp, g, d, tk, os⟩ := s
  have f3 := sub_dict_dict
  have ht : typeOf (.ref a) = typeOf (.ref a) := rfl
  obtain ⟨c, dd, dt, sl⟩ := o
  obtain ⟨h1, h2, h3⟩ := hx
  dsimp only at h1 h2 h3 hd
  subst h1
  wp_walk using (samePairs_self (w := w) (knd := knd) ho hd hk hs hv ha), wpAny_loadPart' ho, wpAny_typeOf_ref ho
  exact h
theorem dictCmp_self {a : Addr} {o : Obj} {es : Array DictEntry} {ep : Nat} (hu : A.units < cLine) (ho : s.heap.get? a = some o) (hx : o.ExactDict) (hd : o.data = .dict es ep) (hk : KeysOf knd es) (hs : es.size ≤ 1) (ha : (a == sysModules) = false) {Q : Value → Shared → Prop} (h : Q (.bool true) s) :
    wpAny (model prog w) A (compareOp .Eq (.ref a) (.ref a)) Q E s := by
  have hT : s.TypeIs (.ref a) "dict" := by
    obtain ⟨c, dd, dt, sl⟩ := o
    obtain ⟨h1, h2, h3⟩ := hx
    dsimp only at h1
    subst h1
    exact ⟨_, ho, rfl⟩
  have hB := dictEq_self (Q := fun fin s' => match fin with | .done f => (wants (fun v s' => v ≠ .notImplemented ∧ Q v s') E) (.ok f) s' | .again c' => c'.quiet = true ∧ codeAny (model prog w) A c' (wants (fun v s' => v ≠ .notImplemented ∧ Q v s') E) s') (A := A.in1) (E := fun e s' => (wants (fun v s' => v ≠ .notImplemented ∧ Q v s') E) (.error e) s') (w := w) (knd := knd) ho hx hd hk hs (fun e _ => by simp) ha ⟨fun z => (nomatch z), h⟩
  show wpAny (model prog w) A (richCompare .Eq (.ref a) (.ref a)) Q E s
  exact wpAny_richCompare_same_room hT hT PySem.F.slot_dict_eq (wpAny_call (codeAny_call_builtin PySem.F.slot_dict_eq.plain PySem.F.entry_dict_eq (PySem.F.slot_dict_eq.check _ _ _ _ _ _ _ _ hT (PySem.F.args_dict_eq_2 _ _) hB))) hu
end
section
variable {Γ : G} {X : Cx}
def rDictSelf : R2 := fun x y H Q => ∃ a kvs, x = .ref a ∧ y = .ref a ∧ H a = some (.dK kvs) ∧ kvs.length ≤ 1 ∧ Q (.bl true) H
theorem or_dictSelf (hu : X.A.units < cLine) : OpR X (compareOp .Eq) rDictSelf := by
  intro pins s σ H x y v u Q I rx ry h
  obtain ⟨a, kvs, ex, ey, hh, hl, q⟩ := h
  subst ex
  subst ey
  obtain rfl : v = Value.ref a := rx
  obtain rfl : u = Value.ref a := ry
  obtain ⟨_, hy, vs, hkv, o, es, ep, ho, hx, hd, hk, hp, _⟩ := (show ObjOk X.prog X.w H s.heap a (.dK kvs) from I.hok a _ hh)
  have hs : es.size ≤ 1 := by
    have h1 := hp.length
    have h2 : vs.length = kvs.length := by first | exact hkv.length.symm | exact hkv.length
    rw [← Array.length_toList]
    omega
  exact dictCmp_self hu ho hx hd hk hs hy ⟨.bl true, H, I, rfl, q⟩
def rEqZ (Γ : G) (cs : List Str) (oe : Str → Option (List D → Store → R D)) : R2 := fun x y H Q => rEqX Γ cs oe x y H Q ∨ rDictSelf x y H Q
theorem or_eqZ {k : Nat} {cs : List Str} {oe : Str → Option (List D → Store → R D)} (hK : X.K = Γ.K) (hr : Room k X.A) (ho : ∀ C m, oe C = some m → EqC Γ X.prog X.w X.mg X.base cs k C m) : OpR X (compareOp .Eq) (rEqZ Γ cs oe) := OpR.or (or_eq hK hr ho) (or_dictSelf hr.units0)
def gEqZ (cs : List Str) (oe : Str → Option (List D → Store → R D)) (x y : D) (S : Store) : R D := match x, y with
  | .ref n, .ref m => (match S[n]? with
    | some (.dk kvs) => if n = m ∧ kvs.length ≤ 1 then .ok (.bl true) S else .bad
    | _ => gEqX cs oe x y S)
  | _, _ => gEqX cs oe x y S
theorem ok_eqZ {cs : List Str} {oe : Str → Option (List D → Store → R D)} (hI : ∀ C ∈ cs, C8.InsC Γ.K (Γ.c C)) : OpOk Γ (rEqZ Γ cs oe) (gEqZ cs oe) := fun W σ f S H x y v u Q rs rx ry h => by
  unfold gEqZ at h
  split at h
  · rename_i n m
    split at h
    · rename_i kvs hn
      split at h
      · rename_i c
        obtain ⟨c1, c2⟩ := c
        subst c1
        obtain ⟨b, hb, us, hh, ek, _⟩ := rs.ob _ _ hn
        have hb2 : v = .ref b := by
          simp only [Rp] at rx
          obtain ⟨a, e1, e2⟩ := rx
          rw [hb] at e1
          cases e1
          exact e2
        have hb3 : u = .ref b := by
          simp only [Rp] at ry
          obtain ⟨a, e1, e2⟩ := ry
          rw [hb] at e1
          cases e1
          exact e2
        refine .inr ⟨b, us, hb2, hb3, hh, ?_, h f H _ .refl rs Rp.ofBl⟩
        have := congrArg List.length ek
        simp only [List.length_map] at this
        omega
      · exact h.elim
    · exact .inl (ok_eq hI W σ f S H _ _ v u Q rs rx ry h)
  · exact .inl (ok_eq hI W σ f S H _ _ v u Q rs rx ry h)
end
end Lk

set_option Elab.async false
set_option linter.all false
set_option autoImplicit false
set_option maxRecDepth 100000
set_option maxHeartbeats 4000000
/-! constants of the module; chains; in, of data; enumerate of a list -/
namespace Lk
open PySem PySem.Spec PyProof.Rows L2
section
variable {Γ : G} {W : WX} {X : Cx} {f : List Addr} {S : Store} {H : Hp} {a b c d e : Expr} {es : List Expr} {p pos : Pos} {ma mb mc md : ME}
theorem q_gint {x : Str} {i : Int} (hm : ∃ t, X.mg x = some (.int i t)) (hg : Gl X x := by rfl) (hd : (x == ("__debug__" : Str)) = false := by decide) : PE X (.Name x pos) (tE Γ W (mC (.int i))) := by
  obtain ⟨t, hm⟩ := hm
  exact PE.imp (pe_glob (v := .int i) hg hm ⟨t, rfl⟩ hd) fun σ H Q ⟨env, S, f, rs, re, h⟩ => h f H _ .refl rs Rp.ofInt
/-! ### chains -/
def mLink (g : D → D → Store → R D) (x : D) (b : ME) (k : D → ME) : ME := fun env S => (b env S).bind fun y S1 => (g x y S1).bind fun z S2 => (asB z S2).bind fun t S3 => if t = true then k y env S3 else .ok (.bl false) S3
def mLast (g : D → D → Store → R D) (x : D) (b : ME) : ME := fun env S => (b env S).bind fun y S1 => g x y S1
def mCh2 (g g' : D → D → Store → R D) (a b c : ME) : ME := fun env S => (a env S).bind fun x S1 => mLink g x b (fun y => mLast g' y c) env S1
def mCh3 (g g' g'' : D → D → Store → R D) (a b c d : ME) : ME := fun env S => (a env S).bind fun x S1 => mLink g x b (fun y => mLink g' y c fun z => mLast g'' z d) env S1
theorem link_core {r : R2} {g : D → D → Store → R D} (hg : OpOk Γ r g) {σ : L2.St} {env : Env} {x : D} {v : V} {tb : TE} {k : D → ME} {T : V → Hp → Prop} {Q : VK}
    (hb : ∀ {σ : L2.St} {H : Hp} {Q : VK}, tE Γ W mb σ H Q → tb σ H Q) (rs : RelS Γ f S H) (re : RelE Γ f H env σ) (rx : Rp Γ f H x v) (h : Wp Γ W σ f H (Rp Γ) Q (mLink g x mb k env S))
    (hk : ∀ (f1 : List Addr) (S1 : Store) (H1 : Hp) (y : D) (u : V), RelS Γ f1 S1 H1 → RelE Γ f1 H1 env σ → Rp Γ f1 H1 y u → Wp Γ W σ f1 H1 (Rp Γ) Q (k y env S1) → T u H1) :
    tb σ H fun u H1 => r v u H1 fun z H2 => ∃ t, z = .bl t ∧ (if t = true then T u H2 else Q (.bl false) H2) := by
  refine hb ⟨env, S, f, rs, re, Wp.bindL h fun y S1 f1 H1 u u1 rs1 r1 h1 => ?_⟩
  refine hg W σ f1 S1 H1 x y v u _ rs1 (rx.up u1) r1 (Wp.bindL h1 fun z S2 f2 H2 w u2 rs2 r2 h2 => ?_)
  cases z with
  | bl t =>
    refine ⟨t, r2.bl, ?_⟩
    have h2 : Wp Γ W σ f2 H2 (Rp Γ) Q (if t = true then k y env S2 else .ok (.bl false) S2) := h2
    cases t with
    | true => exact hk f2 S2 H2 y u rs2 ((re.up u1).up u2) (r1.up u2) h2
    | false => exact h2 f2 H2 _ .refl rs2 Rp.ofBl
  | _ => exact h2.elim
theorem q_chain {op op' : CmpOp} {r r' : R2} {g g' : D → D → Store → R D} (ho : OpR X (compareOp op) r) (hg : OpOk Γ r g) (ho' : OpR X (compareOp op') r') (hg' : OpOk Γ r' g') (ha : PE X a (tE Γ W ma)) (hb : PE X b (tE Γ W mb)) (hc : PE X c (tE Γ W mc))
    (hm : lastMarks [op, op'] [b, c] = false := by with_unfolding_all rfl) : PE X (.Compare a [op, op'] [b, c] pos) (tE Γ W (mCh2 g g' ma mb mc)) := PE.imp (pe_chain ho ho' ha hb hc hm) fun σ H Q ⟨env, S, f, rs, re, h⟩ => by
  refine ⟨env, S, f, rs, re, Wp.bindL h fun x S1 f1 H1 v u1 rs1 r1 h1 => ?_⟩
  refine link_core (tb := tE Γ W mb) hg (fun z => z) rs1 (re.up u1) r1 h1 fun f2 S2 H2 y u rs2 re2 r2 h2 => ?_
  exact ⟨env, S2, f2, rs2, re2, Wp.bindL h2 fun z S3 f3 H3 w u3 rs3 r3 h3 => hg' W σ f3 S3 H3 y z u w Q rs3 (r2.up u3) r3 h3⟩
/-- a op1 b op2 c op3 d -/
def tChain3 (r r' r'' : R2) (ta tb tc td : TE) : TE := fun σ H Q => ta σ H fun x H1 => tb σ H1 fun y H2 => r x y H2 fun z H3 => ∃ k, z = .bl k ∧
  (if k = true then tc σ H3 fun y' H4 => r' y y' H4 fun z' H5 => ∃ k', z' = .bl k' ∧ (if k' = true then td σ H5 fun w' H6 => r'' y' w' H6 Q else Q (.bl false) H5) else Q (.bl false) H3)
theorem pe_chain3 {op op' op'' : CmpOp} {r r' r'' : R2} {ta tb tc td : TE} (ho : OpR X (compareOp op) r) (ho' : OpR X (compareOp op') r') (ho'' : OpR X (compareOp op'') r'') (ha : PE X a ta) (hb : PE X b tb) (hc : PE X c tc) (hd : PE X d td)
    (hm : lastMarks [op, op', op''] [b, c, d] = false := by with_unfolding_all rfl) : PE X (.Compare a [op, op', op''] [b, c, d] pos) (tChain3 r r' r'' ta tb tc td) := by
  refine ⟨fun pins s σ H Q I h => ?_⟩
  refine Compare_chain (thn (ha.run pins s σ H _ I h) fun v s1 ⟨x, H1, I1, r1, q1⟩ => chain_link (thn (hb.run pins s1 σ H1 _ I1 q1) fun u s2 ⟨y, H2, I2, r2, q2⟩ =>
    thn (ho pins s2 σ H2 x y v u _ I2 r1 r2 q2) fun d s3 ⟨z, H3, I3, r3, k, e, q3⟩ => ?_)) hm
  subst e
  cases r3
  refine wpAny_truthy_bool ?_
  cases k with
  | false => exact ite_ff ⟨.bl false, H3, I3, rfl, q3⟩
  | true =>
    refine ite_tt (chain_link (thn (hc.run pins s3 σ H3 _ I3 q3) fun u' s4 ⟨y', H4, I4, r4, q4⟩ => thn (ho' pins s4 σ H4 y y' u u' _ I4 r2 r4 q4) fun d s5 ⟨z', H5, I5, r5, k', e', q5⟩ => ?_))
    subst e'
    cases r5
    refine wpAny_truthy_bool ?_
    cases k' with
    | false => exact ite_ff ⟨.bl false, H5, I5, rfl, q5⟩
    | true => exact ite_tt (chain_last (thn (hd.run pins s5 σ H5 _ I5 q5) fun w' s6 ⟨z', H6, I6, r6, q6⟩ => ho'' pins s6 σ H6 y' z' u' w' Q I6 r4 r6 q6))
theorem q_chain3 {op op' op'' : CmpOp} {r r' r'' : R2} {g g' g'' : D → D → Store → R D} (ho : OpR X (compareOp op) r) (hg : OpOk Γ r g) (ho' : OpR X (compareOp op') r') (hg' : OpOk Γ r' g') (ho'' : OpR X (compareOp op'') r'') (hg'' : OpOk Γ r'' g'')
    (ha : PE X a (tE Γ W ma)) (hb : PE X b (tE Γ W mb)) (hc : PE X c (tE Γ W mc)) (hd : PE X d (tE Γ W md))
    (hm : lastMarks [op, op', op''] [b, c, d] = false := by with_unfolding_all rfl) : PE X (.Compare a [op, op', op''] [b, c, d] pos) (tE Γ W (mCh3 g g' g'' ma mb mc md)) := PE.imp (pe_chain3 ho ho' ho'' ha hb hc hd hm) fun σ H Q ⟨env, S, f, rs, re, h⟩ => by
  refine ⟨env, S, f, rs, re, Wp.bindL h fun x S1 f1 H1 v u1 rs1 r1 h1 => ?_⟩
  refine link_core (tb := tE Γ W mb) hg (fun z => z) rs1 (re.up u1) r1 h1 fun f2 S2 H2 y u rs2 re2 r2 h2 => ?_
  refine link_core (tb := tE Γ W mc) hg' (fun z => z) rs2 re2 r2 h2 fun f3 S3 H3 y' u' rs3 re3 r3 h3 => ?_
  exact ⟨env, S3, f3, rs3, re3, Wp.bindL h3 fun z S4 f4 H4 w u4 rs4 r4 h4 => hg'' W σ f4 S4 H4 y' z u' w Q rs4 (r3.up u4) r4 h4⟩
theorem PT.ofTest {t : TE} {whole : Expr} {m : ME} (h : PT X whole (tTest t)) (hi : ∀ σ H Q, tE Γ W m σ H Q → t σ H Q) : PT X whole (tT Γ W (mTest m)) := PT.imp h fun σ H Q ⟨env, S, f, rs, re, h⟩ =>
  hi _ _ _ ⟨env, S, f, rs, re, Wp.bindL h fun x S1 f1 H1 v u1 rs1 r1 h1 => asBL rs1 r1 h1⟩
theorem chain_imp {r r' : R2} {g g' : D → D → Store → R D} (hg : OpOk Γ r g) (hg' : OpOk Γ r' g') : ∀ σ H Q, tE Γ W (mCh2 g g' ma mb mc) σ H Q → tChain r r' (tE Γ W ma) (tE Γ W mb) (tE Γ W mc) σ H Q := fun σ H Q ⟨env, S, f, rs, re, h⟩ => by
  refine ⟨env, S, f, rs, re, Wp.bindL h fun x S1 f1 H1 v u1 rs1 r1 h1 => ?_⟩
  refine link_core (tb := tE Γ W mb) hg (fun z => z) rs1 (re.up u1) r1 h1 fun f2 S2 H2 y u rs2 re2 r2 h2 => ?_
  exact ⟨env, S2, f2, rs2, re2, Wp.bindL h2 fun z S3 f3 H3 w u3 rs3 r3 h3 => hg' W σ f3 S3 H3 y z u w Q rs3 (r2.up u3) r3 h3⟩
theorem qt_chain {op op' : CmpOp} {r r' : R2} {g g' : D → D → Store → R D} (ho : OpR X (compareOp op) r) (hg : OpOk Γ r g) (ho' : OpR X (compareOp op') r') (hg' : OpOk Γ r' g') (ha : PE X a (tE Γ W ma)) (hb : PE X b (tE Γ W mb)) (hc : PE X c (tE Γ W mc))
    (hm : lastMarks [op, op'] [b, c] = false := by with_unfolding_all rfl) : PT X (.Compare a [op, op'] [b, c] pos) (tT Γ W (mTest (mCh2 g g' ma mb mc))) := PT.ofTest (pt_chain ho ho' ha hb hc hm) (chain_imp hg hg')
/-! ### in, of data in a list -/
def gInD (neg : Bool) (x y : D) (S : Store) : R D := match pyD S 12 x, pyD S 12 y with
  | some d, some (.list ds) => if SeqAt.shaped d = true ∧ SeqAt.shaped (.list ds) = true then .ok (.bl (if neg then !ds.any fun z => PyData.eqv z d else ds.any fun z => PyData.eqv z d)) S else .bad
  | _, _ => .bad
def rInN (K : PySem.W.Frag) (neg : Bool) : R2 := if neg then rNotInD K else rInD K
theorem ok_inD {neg : Bool} : OpOk Γ (rInN Γ.K neg) (gInD neg) := fun W σ f S H x y v u Q rs rx ry h => by
  unfold gInD at h
  split at h
  · rename_i d ds hd hds
    split at h
    · rename_i c
      have h1 := pyD_ok rs _ _ _ _ hd rx
      have h2 := pyD_ok rs _ _ _ _ hds ry
      cases neg with
      | true => exact ⟨d, ds, h1, h2, c.1, c.2, h f H _ .refl rs Rp.ofBl⟩
      | false => exact ⟨d, ds, h1, h2, c.1, c.2, h f H _ .refl rs Rp.ofBl⟩
    · exact h.elim
  · exact h.elim
def rInT (K : PySem.W.Frag) (neg : Bool) : R2 := fun x y H Q => ∃ d ds, Dp K H x d ∧ Dp K H y (.tuple ds) ∧ SeqAt.shaped d = true ∧ SeqAt.shaped (.tuple ds) = true ∧ Q (.bl (if neg then !ds.any fun z => PyData.eqv z d else ds.any fun z => PyData.eqv z d)) H
theorem op_inT (hu : X.A.units + 65 < cLine) : OpR X (compareOp .In) (rInT X.K false) := fun pins s σ H x y v u Q I rx ry ⟨d, ds, hd, he, sd, se, q⟩ => by
  obtain ⟨a1, r1⟩ := Dp.reads I d x v hd rx
  obtain ⟨a2, r2⟩ := Dp.reads I (.tuple ds) y u he ry
  exact SeqAt.in_tuple_reads r2 r1 (SeqAt.canLay_of_shaped se) (SeqAt.canLay_of_shaped sd) (room_in_shaped sd hu) ⟨.bl _, H, I, rfl, q⟩
theorem op_notInT (hu : X.A.units + 65 < cLine) : OpR X (compareOp .NotIn) (rInT X.K true) := fun pins s σ H x y v u Q I rx ry ⟨d, ds, hd, he, sd, se, q⟩ => by
  obtain ⟨a1, r1⟩ := Dp.reads I d x v hd rx
  obtain ⟨a2, r2⟩ := Dp.reads I (.tuple ds) y u he ry
  exact SeqAt.notIn_tuple_reads r2 r1 (SeqAt.canLay_of_shaped se) (SeqAt.canLay_of_shaped sd) (room_in_shaped sd hu) ⟨.bl _, H, I, rfl, q⟩
def gInT (neg : Bool) (x y : D) (S : Store) : R D := match pyD S 12 x, pyD S 12 y with
  | some d, some (.tuple ds) => if SeqAt.shaped d = true ∧ SeqAt.shaped (.tuple ds) = true then .ok (.bl (if neg then !ds.any fun z => PyData.eqv z d else ds.any fun z => PyData.eqv z d)) S else .bad
  | _, _ => .bad
theorem ok_inT {neg : Bool} : OpOk Γ (rInT Γ.K neg) (gInT neg) := fun W σ f S H x y v u Q rs rx ry h => by
  unfold gInT at h
  split at h
  · rename_i d ds hd hds
    split at h
    · rename_i c
      exact ⟨d, ds, pyD_ok rs _ _ _ _ hd rx, pyD_ok rs _ _ _ _ hds ry, c.1, c.2, h f H _ .refl rs Rp.ofBl⟩
    · exact h.elim
  · exact h.elim
def gInZ (neg : Bool) (x y : D) (S : Store) : R D := match gIn neg x y S with
  | .bad => (match gInD neg x y S with
    | .bad => gInT neg x y S
    | r => r)
  | r => r
def rInZ (K : PySem.W.Frag) (neg : Bool) : R2 := fun x y H Q => rIn K neg x y H Q ∨ (rInN K neg x y H Q ∨ rInT K neg x y H Q)
theorem ok_inZ {neg : Bool} : OpOk Γ (rInZ Γ.K neg) (gInZ neg) := fun W σ f S H x y v u Q rs rx ry h => by
  unfold gInZ at h
  split at h
  · split at h
    · exact .inr (.inr (ok_inT W σ f S H x y v u Q rs rx ry h))
    · exact .inr (.inl (ok_inD W σ f S H x y v u Q rs rx ry h))
  · exact .inl (ok_in W σ f S H x y v u Q rs rx ry h)
theorem or_inZ {k : Nat} (hK : X.K = Γ.K) (hr : Room k X.A) : OpR X (compareOp .In) (rInZ Γ.K false) := by
  rw [← hK]
  exact OpR.or op_in_seq (OpR.or (op_inD (by have := hr.un; omega)) (op_inT (by have := hr.un; omega)))
theorem or_notInZ {k : Nat} (hK : X.K = Γ.K) (hr : Room k X.A) : OpR X (compareOp .NotIn) (rInZ Γ.K true) := by
  rw [← hK]
  exact OpR.or op_notIn_seq (OpR.or (op_notInD (by have := hr.un; omega)) (op_notInT (by have := hr.un; omega)))
/-! ### enumerate of a list -/
def enumD (xs : List D) : List D := xs.zipIdx.map fun p => D.tup [.int (p.2 : Nat), p.1]
theorem enumD_get {xs : List D} {i : Nat} {d : D} (h : (enumD xs)[i]? = some d) : ∃ x, xs[i]? = some x ∧ d = .tup [.int (i : Nat), x] := by
  unfold enumD at h
  rw [List.getElem?_map, List.getElem?_zipIdx] at h
  cases q : xs[i]? with
  | none => rw [q] at h; cases h
  | some x =>
    rw [q] at h
    refine ⟨x, rfl, ?_⟩
    have h : D.tup [.int ((0 + i : Nat) : Int), x] = d := by simpa using h
    rw [← h]
    simp
theorem enumD_len (xs : List D) : (enumD xs).length = xs.length := by simp [enumD]
def srcE (d : D) (S : Store) : R Src := match d with
  | .rol xs => .ok ⟨enumD xs, fun _ => True⟩ S
  | .ref n => (match S[n]? with
    | some (.lst xs) => .ok ⟨enumD xs, fun S => S[n]? = some (.lst xs)⟩ S
    | _ => .bad)
  | _ => .bad
def iEnu (m : ME) : MI := fun env S => (m env S).bind srcE
theorem pair_rp {i : Nat} {x : D} {v : V} {T : Addr} (hT : H T = none) (r : Rp Γ f H x v) : Rp Γ f (upd H T (.tup [.int (i : Nat), v])) (.tup [.int (i : Nat), x]) (.ref T) := by
  refine Rp.tupI (SqT.of upd_same) ?_
  simp only [RpL]
  exact ⟨_, _, rfl, Rp.ofInt, _, _, rfl, r.up (.new hT), rfl⟩
theorem sv_enuR {a : Addr} {vs : List V} {ds : List D} (h : SqR Γ.K H a vs) (r : RpL Γ f H ds vs) : Sv Γ f H ⟨enumD ds, fun _ => True⟩ (Ite Γ.K a) where
  go := fun f1 S H1 i d rs ok e => by
    obtain ⟨x, hx, ed⟩ := enumD_get e
    subst ed
    obtain ⟨v, h1, h2⟩ := RpL.get (r.up ok.2) hx
    have q := (ok.2.keep.sqR h).1
    refine ⟨⟨vs, v, q, h1⟩, fun y H' hy => ?_⟩
    obtain ⟨T, z, ev, hT, eH, hz⟩ := hy
    subst ev
    subst eH
    have e2 := hz vs q
    rw [h1] at e2
    cases e2
    exact ⟨.new hT, rs.newT hT, pair_rp hT h2⟩
  stop := fun f1 S H1 rs ok => ⟨vs, (ok.2.keep.sqR h).1, by rw [← r.length]; exact Nat.le_of_eq (enumD_len ds).symm⟩
theorem sv_enuL {a : Addr} {n : Nat} {ds : List D} (ha : f[n]? = some a) : Sv Γ f H ⟨enumD ds, fun S => S[n]? = some (.lst ds)⟩ (Ite Γ.K a) where
  go := fun f1 S H1 i d rs ok e => by
    obtain ⟨b, hb, vs, h0, r⟩ := rs.ob n _ ok.1
    rw [ok.2.at ha] at hb
    cases hb
    obtain ⟨x, hx, ed⟩ := enumD_get e
    subst ed
    obtain ⟨v, h1, h2⟩ := RpL.get r hx
    refine ⟨⟨vs, v, SqL.of h0, h1⟩, fun y H' hy => ?_⟩
    obtain ⟨T, z, ev, hT, eH, hz⟩ := hy
    subst ev
    subst eH
    have e2 := hz vs (SqL.of h0)
    rw [h1] at e2
    cases e2
    exact ⟨.new hT, rs.newT hT, pair_rp hT h2⟩
  stop := fun f1 S H1 rs ok => by
    obtain ⟨b, hb, vs, h0, r⟩ := rs.ob n _ ok.1
    rw [ok.2.at ha] at hb
    cases hb
    exact ⟨vs, SqL.of h0, by rw [← r.length]; exact Nat.le_of_eq (enumD_len ds).symm⟩
theorem qi_enu {elts : List Expr} {kk : Nat} {tpos : Pos} {m : ME} (hK : X.K = Γ.K) (hm : X.mg "enumerate" = none) (h : PE X e (tE Γ W m)) (hg : Gl X "enumerate" := by rfl) (hs : starEach [e] X.env = (false, eval e X.env) :: starEach [] X.env := by rfl) :
    PI X (.Tuple elts kk tpos) (.Call (.Name "enumerate" p) [e] [] pos) (tI Γ W (iEnu m)) := PI.imp (pi_enum hg hm (pa_cons h pa_nil hs) hs) fun σ H R ⟨env, S, f, rs, re, h⟩ => by
  show tE Γ W m σ H _
  refine ⟨env, S, f, rs, re, Wp.bindL h fun d S1 f1 H1 v u1 rs1 r1 h1 => ?_⟩
  cases d with
  | rol ds =>
    simp only [Rp] at r1
    obtain ⟨a, vs, ev, hs, r⟩ := r1
    subst ev
    refine ⟨a, vs, rfl, by rw [hK]; exact hs.1, ?_⟩
    rw [hK]
    exact h1 f1 H1 _ .refl rs1 (sv_enuR hs r)
  | ref n =>
    simp only [Rp] at r1
    obtain ⟨a, ha, ev⟩ := r1
    subst ev
    have h1 : Wp Γ W σ f1 H1 (Sv Γ) R (match S1[n]? with
      | some (.lst xs) => .ok ⟨enumD xs, fun S => S[n]? = some (.lst xs)⟩ S1
      | _ => .bad) := h1
    split at h1
    · rename_i xs hn
      obtain ⟨b, hb, vs, hh, r⟩ := rs1.ob n _ hn
      rw [ha] at hb
      cases hb
      refine ⟨a, vs, rfl, by rw [hK]; exact SqL.of hh, ?_⟩
      rw [hK]
      exact h1 f1 H1 _ .refl rs1 (sv_enuL ha)
    · exact h1.elim
  | _ => exact h1.elim
end
end Lk

set_option Elab.async false
set_option linter.all false
set_option autoImplicit false
set_option maxRecDepth 100000
set_option maxHeartbeats 4000000
/-! enumerate of a tuple -/
namespace Lk
open PySem PySem.Spec PyProof.Rows L2
/-- enumerate(v), its class called on v alone -/
theorem new_enum {v : Value} {o : Obj} {Fo : Heap → Prop} (B : Begins v o Fo) : Meets (Builtin.«enumerate.__new__» ⟨[.type "enumerate", v], []⟩) (fun _ R s => Fo s.heap ∧
    R (.ok (.ret (.ref (s.heap.push o).objs.size))) { s with heap := (s.heap.push o).push { cls := .type "enumerate", data := .fields #[.none, .bool false, .ref s.heap.objs.size, rawInt 0, .none, .none] } }) := .of_wp fun prog w A R st hyp => by
  obtain ⟨hp, gs, dr, tk, os⟩ := st
  obtain ⟨f1, out⟩ := hyp
  have sb := sub_enumerate
  have itr : ∀ {A' : Around} {E : Value → Shared → Prop} {Q : Value → Shared → Prop}, Q (.ref hp.objs.size) ⟨hp.push o, gs, dr, tk, os⟩ → wpAny (model prog w) A' (pyIter v) Q E ⟨hp, gs, dr, tk, os⟩ := fun z => B.iter prog w _ _ ⟨hp, gs, dr, tk, os⟩ _ f1 z
  wp_walk using itr
  refine wpAny_stack_any fun stk => wpAny_pure ?_
  split
  · rename_i cv _ _ _ _ _
    cases (cv == Value.type "enumerate") <;> (wp_walk using itr; exact ⟨_, rfl, out⟩)
  · wp_walk using itr
    exact ⟨_, rfl, out⟩
section
variable {prog : Program} {w : World} {A : Around} {E : Value → Shared → Prop} {s : Shared}
theorem call_enum {v : Value} {o : Obj} {Fo : Heap → Prop} {Q : Value → Shared → Prop} (B : Begins v o Fo) (f1 : Fo s.heap)
    (k : ∀ h', IsEnum h' (s.heap.objs.size + 1) s.heap.objs.size 0 .none → h'.get? s.heap.objs.size = some o → (∀ b ob, s.heap.get? b = some ob → h'.get? b = some ob) → Q (.ref (s.heap.objs.size + 1)) { s with heap := h' }) :
    wpAny (model prog w) A (call (.type "enumerate") [v]) Q E s := by
  refine callType_new F.called_enumerate (by decide) (F.typeCall_enumerate_1 _) (F.newCall_enumerate_1 _) (fun ob => F.args_object_init_2 ob _) F.entry_enumerate_new (new_enum B) ⟨f1, ?_⟩
  have z1 : (s.heap.push o).objs.size = s.heap.objs.size + 1 := Heap.size_push ..
  show _ ∧ _
  rw [z1]
  have en : IsEnum ((s.heap.push o).push { cls := .type "enumerate", data := .fields #[.none, .bool false, .ref s.heap.objs.size, rawInt 0, .none, .none] }) (s.heap.objs.size + 1) s.heap.objs.size 0 .none := by
    have z2 := Heap.get?_push_size (s.heap.push o) (o := { cls := .type "enumerate", data := .fields #[.none, .bool false, .ref s.heap.objs.size, rawInt 0, .none, .none] }) rfl
    rw [z1] at z2
    exact z2
  exact ⟨⟨_, en, rfl⟩, k _ en (Heap.get?_push_of_some _ (Heap.get?_push_size _ B.free)) fun b ob x => Heap.get?_push_of_some _ (Heap.get?_push_of_some _ x)⟩
end
/-- the tuple at a, each item in a new pair -/
def ItE (K : PySem.W.Frag) (a : Addr) : It :=
  ⟨fun i H => ∃ (xs : List V) (x : V), SqT K H a xs ∧ xs[i]? = some x, fun i H v H' => ∃ T x, v = .ref T ∧ H T = none ∧ H' = upd H T (.tup [.int (i : Nat), x]) ∧ ∀ xs, SqT K H a xs → xs[i]? = some x, fun i H => ∃ xs : List V, SqT K H a xs ∧ xs.length = i⟩
theorem apart {h : Heap} {e it a : Addr} {its : Array Value} {k : Int} {old : Value} {i : Nat} (he : IsEnum h e it k old) (hi : h.IsTupleIter it a i) (ht : h.IsTuple a its) : a ≠ it ∧ e ∉ [it, a] := by
  obtain ⟨o1, g1, c1, _⟩ := hi
  obtain ⟨o2, g2, c2, _⟩ := ht
  refine ⟨fun z => ?_, fun z => ?_⟩
  · subst z
    rw [g1] at g2
    cases g2
    rw [c1] at c2
    exact absurd c2 (by decide)
  · have z : e = it ∨ e = a := by simpa using z
    rcases z with z | z
    · subst z
      rw [he] at g1
      cases g1
      exact absurd (Value.type.inj c1) (by decide)
    · subst z
      rw [he] at g2
      cases g2
      exact absurd (Value.type.inj c2) (by decide)
theorem turn_enumT {P : Program} {w : World} {K : PySem.W.Frag} {elts : List Expr} {kk : Nat} {tpos : Pos} (a e it : Addr) :
    Turn P w K (.Tuple elts kk tpos) (ItE K a) [e, it] e (fun i h => (∃ old, IsEnum h e it ((i : Nat) : Int) old) ∧ h.IsTupleIter it a i ∧ e ≠ it) where
  mem := List.mem_cons_self
  obj := fun i h st b hb => by
    obtain ⟨⟨old, e1⟩, ⟨o, g1, _, d1⟩, _⟩ := st
    have cs : b = e ∨ b = it := by simpa using hb
    rcases cs with z | z
    · subst z; exact ⟨_, e1, fun v q => nomatch q⟩
    · subst z; exact ⟨o, g1, fun v q => by rw [d1] at q; cases q⟩
  keep := fun i h h' st k => by
    obtain ⟨⟨old, e1⟩, ⟨o, g1, r1⟩, n1⟩ := st
    exact ⟨⟨old, k e (by simp) _ e1⟩, ⟨o, k it (by simp) _ g1, r1⟩, n1⟩
  item := by
    intro X hP hw hK hc i pins s σ H E I hf st hg
    subst hP hw hK
    obtain ⟨⟨old, e1⟩, hit, n1⟩ := st
    obtain ⟨xs, x, hq, hx⟩ := hg
    obtain ⟨its, rv, p, _⟩ := I.tuple hq
    obtain ⟨u, hu, ru⟩ := rv.get hx
    have p : s.heap.IsTuple a its.toArray := p
    obtain ⟨nt, ne⟩ := apart e1 hit p
    have len1 : i < its.toArray.size := by
      rcases Nat.lt_or_ge i its.length with z | z
      · simpa using z
      · rw [List.getElem?_eq_none z] at hu; cases hu
    refine wpAny_pyNext_enum_itemD (Draws.tuple (A := X.A.in1) (I.ok.hd hc) it a nt its.toArray) e1 ⟨hit, p⟩ len1 n1 ne fun y h1 tk hy eo st1 hT _ kp => ?_
    have ey : u = y := by
      have z : its[i]? = some y := by simpa using hy
      rw [hu] at z
      exact Option.some.inj z
    subst ey
    refine ⟨_, rfl, wpAny_letOwnedTupleGo_enum (s := { s with heap := h1, toks := tk + 1 }) eo fun h2 e2 sb => ?_⟩
    have le1 : e < s.heap.objs.size := Heap.lt_size e1
    have li1 : it < s.heap.objs.size := by obtain ⟨_, z, _⟩ := hit; exact Heap.lt_size z
    have hT2 : h2.get? s.heap.objs.size = some { cls := .type "tuple", data := .seq #[.int i tk, u] } := (sb.2 _ (Nat.ne_of_gt le1)).trans hT
    have new : ObjOk X.prog X.w (upd H s.heap.objs.size (.tup [.int (i : Nat), x])) h2 s.heap.objs.size (.tup [.int (i : Nat), x]) :=
      ⟨(by decide : 2 ≤ sizeLine), [.int i tk, u], .cons ⟨_, rfl⟩ (.cons ru .nil), ⟨_, hT2, rfl, _, rfl⟩⟩
    have old1 : ∀ (b : Addr) (ob : Obj), b ∉ [e, it] → s.heap.get? b = some ob → h2.get? b = some ob := fun b ob nb z => (sb.2 b fun q => nb (by simp [q])).trans (kp b ob (fun q => nb (by simp [q])) (fun q => nb (by simp [q])) z)
    have I1 : Inv X pins σ (upd H s.heap.objs.size (.tup [.int (i : Nat), x])) { s with heap := h2, toks := tk + 1 } := I.turnedNew (ch := [e, it]) old1 hf (Nat.le_refl _) new
    have it2 : h2.IsTupleIter it a (i + 1) := by
      obtain ⟨o, z, r⟩ := st1.1
      exact ⟨o, (sb.2 it (Ne.symm n1)).trans z, r⟩
    have ei : ((i + 1 : Nat) : Int) = (i : Int) + 1 := by omega
    refine ⟨.ref s.heap.objs.size, _, I1, rfl, ⟨_, x, rfl, I.hok.fresh (Nat.le_refl _), rfl, fun ys hy => by rw [I.tuple_inj hy hq]; exact hx⟩, ⟨⟨u, by rw [ei]; exact e2⟩, it2, n1⟩, fun b hb => ?_⟩
    have lt : b < s.heap.objs.size := by
      have cs : b = e ∨ b = it := by simpa using hb
      rcases cs with z | z <;> (subst z; assumption)
    rw [upd_ne (Nat.ne_of_lt lt)]
    exact (hf b hb).1
  done := by
    intro X hP hw hK hc i pins s σ H E I hf st hg
    subst hP hw hK
    obtain ⟨⟨old, e1⟩, hit, n1⟩ := st
    obtain ⟨xs, hq, hx⟩ := hg
    obtain ⟨its, rv, p, _⟩ := I.tuple hq
    have p : s.heap.IsTuple a its.toArray := p
    obtain ⟨nt, ne⟩ := apart e1 hit p
    have lv := rv.length
    have ei : i = its.toArray.size := by simp; omega
    subst ei
    obtain ⟨f0, f1, f2, f3, f4, f5⟩ := hf it (by simp)
    exact wpAny_pyNext_enum_endD (Draws.tuple (A := X.A.in1) (I.ok.hd hc) it a nt its.toArray) e1 ⟨hit, p⟩ fun h1 eb => ⟨rfl, I.turned (t' := s.toks) (fun b ob hb z => eb b ob hb z) f0 f1 f3 f4 f5⟩
  self := fun A i s Q E st h => by
    obtain ⟨⟨_, e1⟩, _⟩ := st
    exact wpAny_pyIter_enum e1 h
end Lk

set_option Elab.async false
set_option linter.all false
set_option autoImplicit false
set_option maxRecDepth 100000
set_option maxHeartbeats 4000000
namespace Lk
open PySem PySem.Spec PyProof.Rows L2
section
variable {Γ : G} {W : WX} {X : Cx} {f : List Addr} {S : Store} {H : Hp} {e : Expr} {p pos : Pos}
theorem takes0 : Takes X Wno := fun u s' ⟨_, _, _, _, _, _, _, _, _, _, _, _, _, _, _, _, z⟩ => z.elim
/-! ### tables of classes -/
def tabX (l : List (Str × CK × Bool)) : Str → CK → Option Bool := fun C T => (l.find? fun q => decide (q.1 = C ∧ q.2.1 = T)).map (·.2.2)
theorem tabX_ok {P : Str → CK → Bool → Prop} {l : List (Str × CK × Bool)} (h : ∀ q ∈ l, P q.1 q.2.1 q.2.2) {C : Str} {T : CK} {b : Bool} (e : tabX l C T = some b) : P C T b := by
  unfold tabX at e
  obtain ⟨q, hq, eb⟩ := Option.map_eq_some_iff.mp e
  have m := List.mem_of_find?_eq_some hq
  have c := List.find?_some hq
  obtain ⟨c1, c2⟩ := of_decide_eq_true c
  have := h q m
  rw [c1, c2, eb] at this
  exact this
def tabS (l : List (Str × Str × Bool)) (h : Str) : Str → Option Bool := fun C => (l.find? fun q => decide (q.1 = C ∧ q.2.1 = h)).map (·.2.2)
theorem tabS_ok {P : Str → Str → Bool → Prop} {l : List (Str × Str × Bool)} (h : ∀ q ∈ l, P q.1 q.2.1 q.2.2) {C n : Str} {b : Bool} (e : tabS l n C = some b) : P C n b := by
  unfold tabS at e
  obtain ⟨q, hq, eb⟩ := Option.map_eq_some_iff.mp e
  have m := List.mem_of_find?_eq_some hq
  have c := List.find?_some hq
  obtain ⟨c1, c2⟩ := of_decide_eq_true c
  have := h q m
  rw [c1, c2, eb] at this
  exact this
theorem kitB_ok {Γ : G} {C : Str} {T : CK} {b : Bool} (h : kitB Γ C T b = true) : PySem.W.kitOne Γ.K (.ref (Γ.c C)) (T.u Γ) = some b := of_decide_eq_true h
/-! ### == of data alone -/
def gEqD (x y : D) (S : Store) : R D := match eqData S x y with
  | some b => .ok (.bl b) S
  | none => .bad
theorem ok_eqD : OpOk Γ (rEqD Γ.K) gEqD := fun W σ f S H x y v u Q rs rx ry h => by
  unfold gEqD at h
  split at h
  · rename_i b hb
    obtain ⟨d, e, h1, h2, h3, h4, h5⟩ := eqData_ok rs rx ry hb
    refine ⟨d, e, h1, h2, h3, h4, ?_⟩
    rw [h5]
    exact h f H _ .refl rs Rp.ofBl
  · exact h.elim
/-! ### enumerate of a list or a tuple -/
def iEnT (K : PySem.W.Frag) (ta : TA) : TI := fun σ H Q => ta σ H fun vs H1 => ∃ a xs, vs = [.ref a] ∧ SqT K H1 a xs ∧ Q (ItE K a) H1
theorem pi_enumT {ta : TA} {tpos : Pos} {elts : List Expr} {kk : Nat} (hg : Gl X "enumerate") (hm : X.mg "enumerate" = none) (ha : PA X [e] ta) (hs : starEach [e] X.env = [(false, eval e X.env)] := by rfl) :
    PI X (.Tuple elts kk tpos) (.Call (.Name "enumerate" p) [e] [] pos) (iEnT X.K ta) := by
  refine ⟨fun pins s σ H Q I h => Call_ (ld_blt I hg hm boot_enumerate (PyProof.Rows.callWith_type1 (thn (ha.run pos pins s σ H _ I h) fun us s1 ⟨vs, H1, I1, r1, q1⟩ => ?_) hs rfl))⟩
  obtain ⟨a, xs, ex, hq, q⟩ := q1
  subst ex
  cases r1 with
  | cons r rr =>
    cases rr
    cases r
    obtain ⟨its, rv, tp, _⟩ := I1.tuple hq
    refine call_enum (begins_tuple a its.toArray) tp fun h' en hit old => wpAny_pyIter_enum en ?_
    have I2 : Inv X pins σ H1 { s1 with heap := h' } := I1.kept (t' := s1.toks) old
    have free : ∀ b ∈ [s1.heap.objs.size + 1, s1.heap.objs.size], FpOk X pins H1 b := fun b hb => by
      have le : s1.heap.objs.size ≤ b := by
        have : b = s1.heap.objs.size + 1 ∨ b = s1.heap.objs.size := by simpa using hb
        omega
      exact I1.fpOk le (I1.hok.fresh le)
    exact ⟨s1.heap.objs.size + 1, _, _, _, H1, rfl, I2, turn_enumT a (s1.heap.objs.size + 1) s1.heap.objs.size, ⟨⟨.none, en⟩, ⟨_, hit, rfl, rfl⟩, Nat.succ_ne_self _⟩, free, q⟩
theorem sv_enuT {a : Addr} {vs : List V} {ds : List D} (h : SqT Γ.K H a vs) (r : RpL Γ f H ds vs) : Sv Γ f H ⟨enumD ds, fun _ => True⟩ (ItE Γ.K a) where
  go := fun f1 S H1 i d rs ok e => by
    obtain ⟨x, hx, ed⟩ := enumD_get e
    subst ed
    obtain ⟨v, h1, h2⟩ := RpL.get (r.up ok.2) hx
    have q := ok.2.keep.sqT h
    refine ⟨⟨vs, v, q, h1⟩, fun y H' hy => ?_⟩
    obtain ⟨T, z, ev, hT, eH, hz⟩ := hy
    subst ev
    subst eH
    have e2 := hz vs q
    rw [h1] at e2
    cases e2
    exact ⟨.new hT, rs.newT hT, pair_rp hT h2⟩
  stop := fun f1 S H1 rs ok => ⟨vs, ok.2.keep.sqT h, by rw [← r.length]; exact (enumD_len ds).symm⟩
def srcEZ (d : D) (S : Store) : R Src := match d with
  | .tup xs => .ok ⟨enumD xs, fun _ => True⟩ S
  | d => srcE d S
def iEnuZ (m : ME) : MI := fun env S => (m env S).bind srcEZ
theorem qi_enuZ {elts : List Expr} {kk : Nat} {tpos : Pos} {m : ME} (hK : X.K = Γ.K) (hm : X.mg "enumerate" = none) (h : PE X e (tE Γ W m)) (hg : Gl X "enumerate" := by rfl) (hs : starEach [e] X.env = (false, eval e X.env) :: starEach [] X.env := by rfl) :
    PI X (.Tuple elts kk tpos) (.Call (.Name "enumerate" p) [e] [] pos) (tI Γ W (iEnuZ m)) := PI.imp (PI.or (qi_enu hK hm h hg hs) (pi_enumT hg hm (pa_cons h pa_nil hs) hs)) fun σ H Q ⟨env, S, f, rs, re, h⟩ => by
  unfold iEnuZ at h
  cases q : m env S with
  | bad => rw [q] at h; exact h.elim
  | ex C ds S1 =>
    rw [q] at h
    refine .inl ⟨env, S, f, rs, re, ?_⟩
    unfold iEnu
    rw [q]
    exact h
  | ok d S1 =>
    rw [q] at h
    cases d with
    | tup ds =>
      refine .inr ?_
      show tE Γ W m σ H _
      refine ⟨env, S, f, rs, re, ?_⟩
      rw [q]
      intro f1 H1 v u1 rs1 r1
      simp only [Rp] at r1
      obtain ⟨a, vs, ev, sq, r⟩ := r1
      subst ev
      refine ⟨a, vs, rfl, by rw [hK]; exact sq, ?_⟩
      rw [hK]
      exact h f1 H1 _ u1 rs1 (sv_enuT sq r)
    | _ =>
      refine .inl ⟨env, S, f, rs, re, ?_⟩
      unfold iEnu
      rw [q]
      exact h
end
end Lk

set_option Elab.async false
set_option linter.all false
set_option autoImplicit false
set_option maxRecDepth 100000
set_option maxHeartbeats 4000000
namespace Lk
open PySem PySem.Spec PyProof.Rows L2
section
variable {Γ : G} {W : WX} {X : Cx} {f : List Addr} {S : Store} {H : Hp} {a b e : Expr} {p p0 p1 p2 p3 pos : Pos} {ma mb me : ME}
/-! ### list(range(..)) -/
def rgD (i j : Int) : List D := (List.range (j - i).toNat).map fun (k : Nat) => D.int (i + (k : Nat))
def okRg (i j : Int) : Prop := -(2 ^ 62) ≤ i ∧ i < 2 ^ 62 ∧ -(2 ^ 62) ≤ j ∧ j < 2 ^ 62 ∧ (j - i).toNat ≤ 2 ^ 24
instance (i j : Int) : Decidable (okRg i j) := inferInstanceAs (Decidable (_ ∧ _))
theorem rgD_rp {i j : Int} : RpL Γ f H (rgD i j) (rgV i j) := by
  unfold rgD rgV
  generalize (List.range (j - i).toNat) = l
  induction l with
  | nil => simp only [List.map_nil, RpL]
  | cons k l ih =>
    simp only [List.map_cons, RpL]
    exact ⟨_, _, rfl, Rp.ofInt, ih⟩
def lstRg (i j : Int) (S : Store) : R D := if okRg i j then .ok (.ref S.length) (S ++ [.lst (rgD i j)]) else .bad
def mListRg1 (m : ME) : ME := fun env S => (m env S).bind fun x S1 => match x with
  | .int j => lstRg 0 j S1
  | _ => .bad
def mListRg2 (m n : ME) : ME := fun env S => (m env S).bind fun x S1 => (n env S1).bind fun y S2 => match x, y with
  | .int i, .int j => lstRg i j S2
  | _, _ => .bad
theorem lstRg_ok {σ : L2.St} {i j : Int} {Q : VK} (rs : RelS Γ f S H) (h : Wp Γ W σ f H (Rp Γ) Q (lstRg i j S)) : RgOk i j ∧ ∀ q, H q = none → Q (.ref q) (upd H q (.lst (rgV i j))) := by
  unfold lstRg at h
  split at h
  · rename_i c
    refine ⟨c, fun q hq => h (f ++ [q]) _ _ (.alloc hq) (rs.alloc (b := .lst (rgD i j)) hq ⟨rgV i j, upd_same, rgD_rp⟩) (Rp.refI (by rw [← rs.len]; simp))⟩
  · exact h.elim
theorem q_listRg1 (hc : X.calm = true) (hm : X.mg "list" = none) (hm2 : X.mg "range" = none) (ha : PE X a (tE Γ W ma)) (hg : Gl X "list" := by rfl) (hg2 : Gl X "range" := by rfl) (na : starEach [.Call (.Name "range" p) [a] [] p0] X.env = (false, eval (.Call (.Name "range" p) [a] [] p0) X.env) :: starEach [] X.env := by rfl) (na2 : starEach [a] X.env = (false, eval a X.env) :: starEach [] X.env := by rfl) :
    PE X (.Call (.Name "list" p1) [.Call (.Name "range" p) [a] [] p0] [] pos) (tE Γ W (mListRg1 ma)) := PE.imp (pe_listRg hc hg hm (prg_1 hg2 hm2 ha na2) na) fun σ H Q ⟨env, S, f, rs, re, h⟩ => by
  refine ⟨env, S, f, rs, re, Wp.bindL h fun x S1 f1 H1 v u1 rs1 r1 h1 => ?_⟩
  cases x with
  | int j => exact ⟨j, r1.int, lstRg_ok rs1 h1⟩
  | _ => exact h1.elim
theorem q_listRg2 (hc : X.calm = true) (hm : X.mg "list" = none) (hm2 : X.mg "range" = none) (ha : PE X a (tE Γ W ma)) (hb : PE X b (tE Γ W mb)) (hg : Gl X "list" := by rfl) (hg2 : Gl X "range" := by rfl) (na : starEach [.Call (.Name "range" p) [a, b] [] p0] X.env = (false, eval (.Call (.Name "range" p) [a, b] [] p0) X.env) :: starEach [] X.env := by rfl)
    (na2 : starEach [a, b] X.env = (false, eval a X.env) :: starEach [b] X.env := by rfl) (nb : starEach [b] X.env = (false, eval b X.env) :: starEach [] X.env := by rfl) (hp : (backTo p0 (starEach [b] X.env)).any (·.1) = false := by rfl) :
    PE X (.Call (.Name "list" p1) [.Call (.Name "range" p) [a, b] [] p0] [] pos) (tE Γ W (mListRg2 ma mb)) := PE.imp (pe_listRg hc hg hm (prg_2 hg2 hm2 ha hb na2 nb hp) na) fun σ H Q ⟨env, S, f, rs, re, h⟩ => by
  refine ⟨env, S, f, rs, re, Wp.bindL h fun x S1 f1 H1 v u1 rs1 r1 h1 => ⟨env, S1, f1, rs1, re.up u1, Wp.bindL h1 fun y S2 f2 H2 u u2 rs2 r2 h2 => ?_⟩⟩
  cases x with
  | int i =>
    cases y with
    | int j => exact ⟨i, j, (r1.up u2).int, r2.int, lstRg_ok rs2 h2⟩
    | _ => exact h2.elim
  | _ => cases y <;> exact h2.elim
/-! ### xs[::-1] -/
theorem RpL.rev : ∀ {ds : List D} {vs : List V}, RpL Γ f H ds vs → RpL Γ f H ds.reverse vs.reverse := by
  intro ds
  induction ds with
  | nil =>
    intro vs r
    simp only [RpL] at r
    subst r
    simp only [List.reverse_nil, RpL]
  | cons d ds ih =>
    intro vs r
    simp only [RpL] at r
    obtain ⟨v, vr, e, r1, r2⟩ := r
    subst e
    rw [List.reverse_cons, List.reverse_cons]
    exact (ih r2).append (by simp only [RpL]; exact ⟨v, [], rfl, r1, rfl⟩)
def gRev (d : D) (S : Store) : R D := match d with
  | .rol ds => .ok (.ref S.length) (S ++ [.lst ds.reverse])
  | .ref n => (match S[n]? with
    | some (.lst ds) => .ok (.ref S.length) (S ++ [.lst ds.reverse])
    | _ => .bad)
  | _ => .bad
theorem q_revL {k : Nat} (hK : X.K = Γ.K) (he : PE X e (tE Γ W me)) : PE X (.Subscript e (.Slice none none (some (.UnaryOp .USub (.Constant (.int 1) k p1) p2)) p3) pos) (tE Γ W (m1 gRev me)) := PE.imp (pe_revL he) fun σ H Q ⟨env, S, f, rs, re, h⟩ => by
  refine ⟨env, S, f, rs, re, Wp.bindL h fun d S1 f1 H1 v u1 rs1 r1 h1 => ?_⟩
  cases d with
  | rol ds =>
    simp only [Rp] at r1
    obtain ⟨a, vs, ev, sq, r⟩ := r1
    refine ⟨a, vs, ev, by rw [hK]; exact sq.1, fun q hq => ?_⟩
    exact h1 (f1 ++ [q]) _ _ (.alloc hq) (rs1.alloc (b := .lst ds.reverse) hq ⟨vs.reverse, upd_same, (r.up (.alloc hq)).rev⟩) (Rp.refI (by rw [← rs1.len]; simp))
  | ref n =>
    simp only [Rp] at r1
    obtain ⟨a, ha, ev⟩ := r1
    have h1 : Wp Γ W σ f1 H1 (Rp Γ) Q (match S1[n]? with
      | some (.lst ds) => .ok (.ref S1.length) (S1 ++ [.lst ds.reverse])
      | _ => .bad) := h1
    split at h1
    · rename_i ds hn
      obtain ⟨b, hb, vs, hh, r⟩ := rs1.ob n _ hn
      rw [ha] at hb
      cases hb
      refine ⟨a, vs, ev, by rw [hK]; exact SqL.of hh, fun q hq => ?_⟩
      exact h1 (f1 ++ [q]) _ _ (.alloc hq) (rs1.alloc (b := .lst ds.reverse) hq ⟨vs.reverse, upd_same, (r.up (.alloc hq)).rev⟩) (Rp.refI (by rw [← rs1.len]; simp))
    · exact h1.elim
  | _ => exact h1.elim
end
end Lk

set_option Elab.async false
set_option linter.all false
set_option autoImplicit false
set_option maxRecDepth 100000
set_option maxHeartbeats 4000000
/-! zip of two, each a list or a tuple -/
namespace Lk
open PySem PySem.Spec PyProof.Rows L2
/-- κ: a tuple -/
def SqK (κ : Bool) (K : PySem.W.Frag) (H : Hp) (a : Addr) (xs : List V) : Prop := if κ then SqT K H a xs else SqL K H a xs
def ItAt (κ : Bool) (h : Heap) (it a : Addr) (i : Nat) : Prop := if κ then h.IsTupleIter it a i else h.IsListIter it a i
def ObAt (κ : Bool) (h : Heap) (a : Addr) (its : Array Value) : Prop := if κ then h.IsTuple a its else h.IsList a its
def itO (κ : Bool) (a : Addr) : Obj := if κ then { cls := .type "tuple_iterator", data := .fields #[.ref a, .int 0 0] } else { cls := .type "list_iterator", data := .fields #[.ref a, .int 0 0] }
section
variable {prog : Program} {w : World} {A : Around} {κ : Bool} {h h' : Heap} {it a : Addr} {i : Nat} {its : Array Value}
theorem drawsK (hh : A.handled = none) (ne : a ≠ it) : Draws prog w A it [it, a] its.size (fun i v => its[i]? = some v) (fun i h => ItAt κ h it a i ∧ ObAt κ h a its) := by
  cases κ with
  | true => exact Draws.tuple hh it a ne its
  | false => exact Draws.list hh it a ne its
theorem beginsK : Begins (.ref a) (itO κ a) (fun h => ObAt κ h a its) := by
  cases κ with
  | true => exact begins_tuple a its
  | false => exact begins_list a its
theorem ItAt.obj (x : ItAt κ h it a i) : ∃ o, h.get? it = some o ∧ ∀ v, o.data ≠ .cell v := by
  cases κ with
  | true =>
    obtain ⟨o, g, _, d⟩ := (show h.IsTupleIter it a i from x)
    exact ⟨o, g, fun v z => by rw [d] at z; cases z⟩
  | false =>
    obtain ⟨o, g, _, d⟩ := (show h.IsListIter it a i from x)
    exact ⟨o, g, fun v z => by rw [d] at z; cases z⟩
theorem ItAt.to (x : ItAt κ h it a i) (k : ∀ o, h.get? it = some o → h'.get? it = some o) : ItAt κ h' it a i := by
  cases κ with
  | true =>
    obtain ⟨o, g, r⟩ := (show h.IsTupleIter it a i from x)
    exact ⟨o, k o g, r⟩
  | false =>
    obtain ⟨o, g, r⟩ := (show h.IsListIter it a i from x)
    exact ⟨o, k o g, r⟩
theorem ItAt.start (e : h.get? it = some (itO κ a)) : ItAt κ h it a 0 := by
  cases κ with
  | true => exact ⟨_, e, rfl, rfl⟩
  | false => exact ⟨_, e, rfl, rfl⟩
end
section
variable {X : Cx} {pins : List (Addr × Obj)} {σ : L2.St} {H : Hp} {s : Shared} {κ : Bool} {a : Addr} {xs ys : List V}
theorem seqK (I : Inv X pins σ H s) (h : SqK κ X.K H a xs) : ∃ its : List Value, Vals xs its ∧ ObAt κ s.heap a its.toArray := by
  cases κ with
  | true =>
    obtain ⟨its, r, p, _⟩ := I.tuple h
    exact ⟨its, r, p⟩
  | false =>
    obtain ⟨its, r, p, _⟩ := I.list h
    exact ⟨its, r, p.isList⟩
theorem injK (I : Inv X pins σ H s) (h : SqK κ X.K H a xs) (h' : SqK κ X.K H a ys) : xs = ys := by
  cases κ with
  | true => exact I.tuple_inj h h'
  | false => exact I.list_inj h h'
theorem ltK (I : Inv X pins σ H s) (h : SqK κ X.K H a xs) : a < s.heap.objs.size := by
  obtain ⟨its, _, p⟩ := seqK I h
  cases κ with
  | true => obtain ⟨_, g, _⟩ := (show s.heap.IsTuple a its.toArray from p); exact Heap.lt_size g
  | false => obtain ⟨_, g, _⟩ := (show s.heap.IsList a its.toArray from p); exact Heap.lt_size g
end
def ItZ (κ μ : Bool) (K : PySem.W.Frag) (a b : Addr) : It :=
  ⟨fun i H => ∃ (xs ys : List V) (x y : V), SqK κ K H a xs ∧ SqK μ K H b ys ∧ xs[i]? = some x ∧ ys[i]? = some y,
    fun i H v H' => ∃ T x y, v = .ref T ∧ H T = none ∧ H' = upd H T (.tup [x, y]) ∧ (∀ xs, SqK κ K H a xs → xs[i]? = some x) ∧ ∀ ys, SqK μ K H b ys → ys[i]? = some y,
    fun i H => ∃ xs ys : List V, SqK κ K H a xs ∧ SqK μ K H b ys ∧ i = min xs.length ys.length⟩
theorem lt_of_get {xs : List V} {its : List Value} {i : Nat} {x : V} (r : Vals xs its) (e : xs[i]? = some x) : i < its.toArray.size := by
  have l := r.length
  rcases Nat.lt_or_ge i xs.length with z | z
  · simp; omega
  · rw [List.getElem?_eq_none z] at e; cases e
theorem turn_zipK {P : Program} {w : World} {K : PySem.W.Frag} {elts : List Expr} {kk : Nat} {tpos : Pos} {κ μ : Bool} {a b z TI TO i1 i2 : Addr} (D : ZipSep2 z TI TO i1 i2 [i1, a] [i2, b]) (n1 : a ≠ i1) (n2 : b ≠ i2) :
    Turn P w K (.Tuple elts kk tpos) (ItZ κ μ K a b) [z, TI, TO, i1, i2] z (fun i h => IsZip h z TI TO .none ∧ IsTupOf2 h TI (.ref i1) (.ref i2) ∧ (∃ x y, IsTupOf2 h TO x y) ∧ ItAt κ h i1 a i ∧ ItAt μ h i2 b i) where
  mem := List.mem_cons_self
  obj := fun i h st c hc => by
    obtain ⟨g1, g2, ⟨x, y, g3⟩, g4, g5⟩ := st
    have cs : c = z ∨ c = TI ∨ c = TO ∨ c = i1 ∨ c = i2 := by simpa using hc
    rcases cs with q | q | q | q | q <;> subst q
    · exact ⟨_, g1, fun v q => nomatch q⟩
    · exact ⟨_, g2, fun v q => nomatch q⟩
    · exact ⟨_, g3, fun v q => nomatch q⟩
    · exact g4.obj
    · exact g5.obj
  keep := fun i h h' st k => by
    obtain ⟨g1, g2, ⟨x, y, g3⟩, g4, g5⟩ := st
    exact ⟨k z (by simp) _ g1, k TI (by simp) _ g2, ⟨x, y, k TO (by simp) _ g3⟩, g4.to fun o q => k i1 (by simp) o q, g5.to fun o q => k i2 (by simp) o q⟩
  item := by
    intro X hP hw hK hc i pins s σ H E I hf st hg
    subst hP hw hK
    obtain ⟨g1, g2, ⟨x0, y0, g3⟩, g4, g5⟩ := st
    obtain ⟨xs, ys, x, y, qx, qy, hx, hy⟩ := hg
    obtain ⟨its, rv, p1⟩ := seqK I qx
    obtain ⟨its2, rv2, p2⟩ := seqK I qy
    obtain ⟨u, hu, ru⟩ := rv.get hx
    obtain ⟨u2, hu2, ru2⟩ := rv2.get hy
    have hd : X.A.in1.handled = none := I.ok.hd hc
    refine wpAny_pyNext_zipD2_item D (drawsK (its := its.toArray) hd n1) (drawsK (its := its2.toArray) hd n2) g1 g2 g3 ⟨g4, p1⟩ ⟨g5, p2⟩ (lt_of_get rv hx) (lt_of_get rv2 hy) fun y1 y2 h1 tk e1 e2 z1 o1 t1 t2 nT _ old => ?_
    have ey1 : u = y1 := by
      have q : its[i]? = some y1 := by simpa using e1
      rw [hu] at q
      exact Option.some.inj q
    have ey2 : u2 = y2 := by
      have q : its2[i]? = some y2 := by simpa using e2
      rw [hu2] at q
      exact Option.some.inj q
    subst ey1
    subst ey2
    refine ⟨_, rfl, wpAny_letOwnedTupleGo_zip (s := { s with heap := h1, toks := tk }) z1 fun h2 z2 sb => ?_⟩
    have lz : z < s.heap.objs.size := Heap.lt_size g1
    have nT2 : h2.get? s.heap.objs.size = some { cls := .type "tuple", data := .seq #[u, u2] } := (sb.2 _ (Nat.ne_of_gt lz)).trans nT
    have new : ObjOk X.prog X.w (upd H s.heap.objs.size (.tup [x, y])) h2 s.heap.objs.size (.tup [x, y]) :=
      ⟨(by decide : 2 ≤ sizeLine), [u, u2], .cons ru (.cons ru2 .nil), ⟨_, nT2, rfl, _, rfl⟩⟩
    have keepAll : ∀ (c : Addr) (o : Obj), c ∉ [z, TI, TO, i1, i2] → s.heap.get? c = some o → h2.get? c = some o := fun c o nc q =>
      (sb.2 c fun e => nc (by simp [e])).trans (old c o (fun e => nc (by simp [e])) (fun e => nc (by simp [e])) (fun e => nc (by simp [e])) (fun e => nc (by simp [e])) q)
    have I1 : Inv X pins σ (upd H s.heap.objs.size (.tup [x, y])) { s with heap := h2, toks := tk } := I.turnedNew (ch := [z, TI, TO, i1, i2]) keepAll hf (Nat.le_refl _) new
    refine ⟨.ref s.heap.objs.size, _, I1, rfl, ⟨_, x, y, rfl, I.hok.fresh (Nat.le_refl _), rfl, fun l hl => by rw [injK I hl qx]; exact hx, fun l hl => by rw [injK I hl qy]; exact hy⟩, ⟨z2, ?_, ⟨u, u2, ?_⟩, ?_, ?_⟩, fun c hcm => ?_⟩
    · exact (sb.2 _ D.TIz).trans (old _ _ D.TIz D.TITO D.TIi1 D.TIi2 g2)
    · exact (sb.2 _ D.TOz).trans o1
    · exact t1.1.to fun o q => (sb.2 _ (Ne.symm D.zi1)).trans q
    · exact t2.1.to fun o q => (sb.2 _ (Ne.symm D.zi2)).trans q
    · have lt : c < s.heap.objs.size := by
        have cs : c = z ∨ c = TI ∨ c = TO ∨ c = i1 ∨ c = i2 := by simpa using hcm
        rcases cs with q | q | q | q | q <;> subst q
        · exact lz
        · exact Heap.lt_size g2
        · exact Heap.lt_size g3
        · obtain ⟨_, q, _⟩ := g4.obj; exact Heap.lt_size q
        · obtain ⟨_, q, _⟩ := g5.obj; exact Heap.lt_size q
      rw [upd_ne (Nat.ne_of_lt lt)]
      exact (hf c hcm).1
  done := by
    intro X hP hw hK hc i pins s σ H E I hf st hg
    subst hP hw hK
    obtain ⟨g1, g2, ⟨x0, y0, g3⟩, g4, g5⟩ := st
    obtain ⟨xs, ys, qx, qy, hend⟩ := hg
    obtain ⟨its, rv, p1⟩ := seqK I qx
    obtain ⟨its2, rv2, p2⟩ := seqK I qy
    have hd : X.A.in1.handled = none := I.ok.hd hc
    have l1 := rv.length
    have l2 := rv2.length
    exact wpAny_pyNext_zipD2_end D (drawsK (its := its.toArray) hd n1) (drawsK (its := its2.toArray) hd n2) g1 g2 g3 ⟨g4, p1⟩ ⟨g5, p2⟩ (by simp; omega) (by simp; omega) (by simp; omega) fun h' tk old => ⟨rfl, I.turnedL (ch := [z, TI, TO, i1, i2]) (fun c o nc q =>
      old c o (fun e => nc (by simp [e])) (fun e => nc (by simp [e])) (fun e => nc (by simp [e])) (fun e => nc (by simp [e])) q) hf⟩
  self := fun A i s Q E st h => wpAny_pyIter_zip st.1 h
section
variable {Γ : G} {W : WX} {X : Cx} {f : List Addr} {S : Store} {H : Hp} {e e2 : Expr} {p pos : Pos}
def iZp (K : PySem.W.Frag) (ta : TA) : TI := fun σ H Q => ta σ H fun vs H1 => ∃ κ μ a b xs ys, vs = [.ref a, .ref b] ∧ SqK κ K H1 a xs ∧ SqK μ K H1 b ys ∧ Q (ItZ κ μ K a b) H1
theorem pi_zipK {ta : TA} {tpos : Pos} {elts : List Expr} {kk : Nat} (hg : Gl X "zip") (hm : X.mg "zip" = none) (ha : PA X [e, e2] ta)
    (hs : starEach [e, e2] X.env = (false, eval e X.env) :: starEach [e2] X.env := by rfl) (hpl : (backTo pos (starEach [e2] X.env)).any (·.1) = false := by rfl) :
    PI X (.Tuple elts kk tpos) (.Call (.Name "zip" p) [e, e2] [] pos) (iZp X.K ta) := by
  refine ⟨fun pins s σ H Q I h => Call_ (ld_blt I hg hm PyProof.Rows.boot_zip (PyProof.Rows.callWith_type1 (thn (ha.run pos pins s σ H _ I h) fun us s1 ⟨vs, H1, I1, r1, q1⟩ => ?_) hs hpl))⟩
  obtain ⟨κ, μ, a, b, xs, ys, ev, qx, qy, q⟩ := q1
  subst ev
  cases r1 with
  | cons r rr =>
    cases rr with
    | cons r2 rr2 =>
      cases rr2
      cases r
      cases r2
      obtain ⟨its, rv, p1⟩ := seqK I1 qx
      obtain ⟨its2, rv2, p2⟩ := seqK I1 qy
      have la := ltK I1 qx
      have lb := ltK I1 qy
      refine zip_begins2 (beginsK (its := its.toArray)) (beginsK (its := its2.toArray)) p1 p2 fun h' gz g2 g3 gi1 gi2 _ old => wpAny_pyIter_zip gz ?_
      have I2 : Inv X pins σ H1 { s1 with heap := h' } := I1.kept (t' := s1.toks) old
      have D : ∀ N : Nat, a < N → b < N → ZipSep2 (N + 4) (N + 2) (N + 3) N (N + 1) [N, a] [N + 1, b] := fun N l1 l2 => by
        have e1 : ¬ N + 4 = a := fun z => Nat.not_lt.mpr (Nat.le_trans (Nat.le_add_right N 4) (Nat.le_of_eq z)) l1
        have e2 : ¬ N + 3 = a := fun z => Nat.not_lt.mpr (Nat.le_trans (Nat.le_add_right N 3) (Nat.le_of_eq z)) l1
        have e3 : ¬ N + 4 = b := fun z => Nat.not_lt.mpr (Nat.le_trans (Nat.le_add_right N 4) (Nat.le_of_eq z)) l2
        have e4 : ¬ N + 3 = b := fun z => Nat.not_lt.mpr (Nat.le_trans (Nat.le_add_right N 3) (Nat.le_of_eq z)) l2
        have e5 : ¬ N = b := fun z => Nat.not_lt.mpr (Nat.le_of_eq z) l2
        have e6 : ¬ N + 1 = a := fun z => Nat.not_lt.mpr (Nat.le_trans (Nat.le_add_right N 1) (Nat.le_of_eq z)) l1
        constructor <;> simp [e1, e2, e3, e4, e5, e6]
      refine ⟨s1.heap.objs.size + 4, _, _, _, H1, rfl, I2, turn_zipK (κ := κ) (μ := μ) (D _ la lb) (Nat.ne_of_lt la) (Nat.ne_of_lt (Nat.lt_succ_of_lt lb)), ⟨gz, g2, ⟨_, _, g3⟩, .start gi1, .start gi2⟩, fun c hc => ?_, q⟩
      have le : s1.heap.objs.size ≤ c := by
        have z : c = s1.heap.objs.size + 4 ∨ c = s1.heap.objs.size + 2 ∨ c = s1.heap.objs.size + 3 ∨ c = s1.heap.objs.size ∨ c = s1.heap.objs.size + 1 := by simpa using hc
        rcases z with z | z | z | z | z <;> (subst z; first | exact Nat.le_refl _ | exact Nat.le_add_right _ _)
      exact I1.fpOk le (I1.hok.fresh le)
/-- the two sources: their items, and when they stand -/
def seqOf (d : D) (S : Store) : Option (List D × (Store → Prop)) := match d with
  | .tup xs => some (xs, fun _ => True)
  | .rol xs => some (xs, fun _ => True)
  | .ref n => (match S[n]? with
    | some (.lst xs) => some (xs, fun S => S[n]? = some (.lst xs))
    | _ => none)
  | _ => none
def zipD (xs ys : List D) : List D := (xs.zip ys).map fun q => D.tup [q.1, q.2]
def srcZ (x y : D) (S : Store) : R Src := match seqOf x S, seqOf y S with
  | some (xs, g), some (ys, g') => .ok ⟨zipD xs ys, fun S => g S ∧ g' S⟩ S
  | _, _ => .bad
def iZip' (m n : ME) : MI := fun env S => (m env S).bind fun x S1 => (n env S1).bind fun y S2 => srcZ x y S2
/-- a value stands for a sequence whose items are these, as long as g holds -/
def SeqV (Γ : G) (f : List Addr) (H0 : Hp) (v : V) (xs : List D) (g : Store → Prop) : Prop := ∃ κ a, v = .ref a ∧ ∀ (f' : List Addr) (S : Store) (H : Hp), RelS Γ f' S H → g S → Up Γ f H0 f' H → ∃ vs, SqK κ Γ.K H a vs ∧ RpL Γ f' H xs vs
theorem seqV_of {d : D} {v : V} {xs : List D} {g : Store → Prop} (rs : RelS Γ f S H) (r : Rp Γ f H d v) (h : seqOf d S = some (xs, g)) : SeqV Γ f H v xs g ∧ g S := by
  cases d with
  | tup ds =>
    cases h
    obtain ⟨a, vs, ev, sq, rr⟩ := r.tup
    exact ⟨⟨true, a, ev, fun f' S' H' _ _ u => ⟨vs, u.keep.sqT sq, rr.up u⟩⟩, trivial⟩
  | rol ds =>
    cases h
    obtain ⟨a, vs, ev, sq, rr⟩ := r.rol
    exact ⟨⟨false, a, ev, fun f' S' H' _ _ u => ⟨vs, (u.keep.sqR sq).1, rr.up u⟩⟩, trivial⟩
  | ref n =>
    simp only [Rp] at r
    obtain ⟨a, ha, ev⟩ := r
    have h : (match S[n]? with
      | some (.lst xs) => some (xs, fun S : Store => S[n]? = some (Ob.lst xs))
      | _ => none) = some (xs, g) := h
    split at h
    · rename_i ys hn
      cases h
      refine ⟨⟨false, a, ev, fun f' S' H' rs' hg u => ?_⟩, hn⟩
      obtain ⟨b, hb, vs, hh, rr⟩ := rs'.ob n _ hg
      rw [u.at ha] at hb
      cases hb
      exact ⟨vs, SqL.of hh, rr⟩
    · cases h
  | _ => cases h
theorem sv_zip {κ μ : Bool} {a b : Addr} {xs ys : List D} {g g' : Store → Prop} (hx : ∀ (f' : List Addr) (S : Store) (H' : Hp), RelS Γ f' S H' → g S → Up Γ f H f' H' → ∃ vs, SqK κ Γ.K H' a vs ∧ RpL Γ f' H' xs vs)
    (hy : ∀ (f' : List Addr) (S : Store) (H' : Hp), RelS Γ f' S H' → g' S → Up Γ f H f' H' → ∃ vs, SqK μ Γ.K H' b vs ∧ RpL Γ f' H' ys vs) : Sv Γ f H ⟨zipD xs ys, fun S => g S ∧ g' S⟩ (ItZ κ μ Γ.K a b) where
  go := fun f1 S H1 i d rs ok e => by
    obtain ⟨vs, q1, r1⟩ := hx f1 S H1 rs ok.1.1 ok.2
    obtain ⟨us, q2, r2⟩ := hy f1 S H1 rs ok.1.2 ok.2
    have e : (zipD xs ys)[i]? = some d := e
    unfold zipD at e
    rw [List.getElem?_map] at e
    obtain ⟨⟨x, y⟩, ez, ed⟩ := Option.map_eq_some_iff.mp e
    obtain ⟨ex, ey⟩ := List.getElem?_zip_eq_some.mp ez
    subst ed
    obtain ⟨v, hv, rv⟩ := RpL.get r1 ex
    obtain ⟨u, hu, ru⟩ := RpL.get r2 ey
    refine ⟨⟨vs, us, v, u, q1, q2, hv, hu⟩, fun z H' hz => ?_⟩
    obtain ⟨T, v', u', ev, hT, eH, h1, h2⟩ := hz
    subst ev
    subst eH
    have a1 := h1 vs q1
    have a2 := h2 us q2
    rw [hv] at a1
    rw [hu] at a2
    cases a1
    cases a2
    refine ⟨.new hT, rs.newT hT, Rp.tupI (SqT.of upd_same) ?_⟩
    simp only [RpL]
    exact ⟨_, _, rfl, rv.up (.new hT), _, _, rfl, ru.up (.new hT), rfl⟩
  stop := fun f1 S H1 rs ok => by
    obtain ⟨vs, q1, r1⟩ := hx f1 S H1 rs ok.1.1 ok.2
    obtain ⟨us, q2, r2⟩ := hy f1 S H1 rs ok.1.2 ok.2
    exact ⟨vs, us, q1, q2, by rw [← r1.length, ← r2.length]; simp [zipD]⟩
theorem SeqV.up {f' : List Addr} {H' : Hp} {v : V} {xs : List D} {g : Store → Prop} (h : SeqV Γ f H v xs g) (u : Up Γ f H f' H') : SeqV Γ f' H' v xs g := by
  obtain ⟨κ, a, ev, k⟩ := h
  exact ⟨κ, a, ev, fun f2 S2 H2 rs hg u2 => k f2 S2 H2 rs hg (u.trans u2)⟩
theorem qi_zip {elts : List Expr} {kk : Nat} {tpos : Pos} {m n : ME} (hK : X.K = Γ.K) (hm : X.mg "zip" = none) (h : PE X e (tE Γ W m)) (h2 : PE X e2 (tE Γ W n)) (hg : Gl X "zip" := by rfl) (hs : starEach [e, e2] X.env = (false, eval e X.env) :: starEach [e2] X.env := by rfl)
    (hs2 : starEach [e2] X.env = (false, eval e2 X.env) :: starEach [] X.env := by rfl) (hpl : (backTo pos (starEach [e2] X.env)).any (·.1) = false := by rfl) :
    PI X (.Tuple elts kk tpos) (.Call (.Name "zip" p) [e, e2] [] pos) (tI Γ W (iZip' m n)) := PI.imp (pi_zipK hg hm (pa_cons h (pa_cons h2 pa_nil hs2) hs) hs hpl) fun σ H Q ⟨env, S, f, rs, re, h⟩ => by
  show tE Γ W m σ H _
  refine ⟨env, S, f, rs, re, Wp.bindL h fun x S1 f1 H1 v u1 rs1 r1 h1 => ?_⟩
  show tE Γ W n σ H1 _
  refine ⟨env, S1, f1, rs1, re.up u1, Wp.bindL h1 fun y S2 f2 H2 u u2 rs2 r2 h2 => ?_⟩
  unfold srcZ at h2
  split at h2
  · rename_i xs g ys g' hx hy
    obtain ⟨⟨κ, a, ev, k1⟩, g1⟩ := seqV_of rs2 (r1.up u2) hx
    obtain ⟨⟨μ, b, eu, k2⟩, g2⟩ := seqV_of rs2 r2 hy
    subst ev
    subst eu
    obtain ⟨vs, q1, _⟩ := k1 f2 S2 H2 rs2 g1 .refl
    obtain ⟨us, q2, _⟩ := k2 f2 S2 H2 rs2 g2 .refl
    refine ⟨κ, μ, a, b, vs, us, rfl, by rw [hK]; exact q1, by rw [hK]; exact q2, ?_⟩
    rw [hK]
    exact h2 f2 H2 _ .refl rs2 (sv_zip k1 k2)
  · exact h2.elim
end
end Lk

set_option Elab.async false
set_option linter.all false
set_option autoImplicit false
set_option maxRecDepth 100000
set_option maxHeartbeats 4000000
/-! more methods of lists: index, count, pop, extend -/
namespace Lk
open PySem PySem.Spec PyProof.Rows L2
section
variable {Γ : G} {W : WX} {X : Cx} {f : List Addr} {S : Store} {H : Hp} {o : Expr} {apos cpos : Pos} {mo : ME} {name : Str}
theorem roomU65 {k : Nat} {A : Around} (r : Room k A) : A.units + 65 < cLine := by have := r.un; omega
def gIndexD : D → List D → Store → R D
  | d, [y], S => (match pyD S 12 d, pyD S 12 y with
    | some (.list ds), some p => if SeqAt.shaped (.list ds) = true ∧ SeqAt.shaped p = true then (match ds.findIdx? fun z => PyData.eqv z p with
      | some j => .ok (.int (j : Nat)) S
      | none => .bad) else .bad
    | _, _ => .bad)
  | _, _, _ => .bad
theorem ok_indexD : MtOk Γ (rIndexD Γ.K) gIndexD := fun W σ f S H d v xs vs Q rs rv r h => by
  unfold gIndexD at h
  split at h
  · rename_i y
    obtain ⟨u, eu, ru⟩ := r.one
    subst eu
    split at h
    · rename_i ds p hd hp
      split at h
      · rename_i c
        split at h
        · rename_i j hj
          have h1 := pyD_ok rs _ _ _ _ hd rv
          have h2 := pyD_ok rs _ _ _ _ hp ru
          obtain ⟨hl, he, hn⟩ := List.findIdx?_eq_some_iff_getElem.mp hj
          obtain ⟨a, ev⟩ : ∃ a, v = .ref a := by
            cases h1 with
            | lst s _ => exact ⟨_, rfl⟩
          subst ev
          refine ⟨a, u, p, ds, j, ds[j], rfl, rfl, h1, h2, c.1, c.2, List.getElem?_eq_getElem hl, he, fun m z hm hz => ?_, h f H _ .refl rs Rp.ofInt⟩
          obtain ⟨hlm, ez⟩ := List.getElem?_eq_some_iff.mp hz
          rw [← ez]
          exact eq_false_of_ne_true (hn m hm)
        · exact h.elim
      · exact h.elim
    · exact h.elim
  · exact h.elim
def gCountI : D → List D → Store → R D
  | .ref n, [.int k], S => (match S[n]? with
    | some (.lst ds) => (match dInts ds with
      | some is => .ok (.int (is.count k : Nat)) S
      | none => .bad)
    | _ => .bad)
  | _, _, _ => .bad
theorem ok_countI : MtOk Γ (rCntI Γ.K) gCountI := fun W σ f S H d v xs vs Q rs rv r h => by
  unfold gCountI at h
  split at h
  · rename_i n k
    obtain ⟨u, eu, ru⟩ := r.one
    subst eu
    rw [ru.int]
    split at h
    · rename_i ds hn
      split at h
      · rename_i is hi
        obtain ⟨a, us, _, ev, hh, rr⟩ := rs.lst hn rv
        have e := dInts_ok hi rr
        subst e
        exact ⟨a, is, k, ev, rfl, SqL.of hh, h f H _ .refl rs Rp.ofInt⟩
      · exact h.elim
    · exact h.elim
  · exact h.elim
def gExtend : D → List D → Store → R D
  | .ref n, [.ref m], S => (match S[n]?, S[m]? with
    | some (.lst ds), some (.lst es) => if ds.length + es.length ≤ lim then .ok .non (S.set n (.lst (ds ++ es))) else .bad
    | _, _ => .bad)
  | _, _, _ => .bad
theorem ok_extend : MtOk Γ rExtend gExtend := fun W σ f S H d v xs vs Q rs rv r h => by
  unfold gExtend at h
  split at h
  · rename_i n m
    obtain ⟨u, eu, ru⟩ := r.one
    subst eu
    split at h
    · rename_i ds es hn hm
      split at h
      · rename_i hl
        obtain ⟨a, us, ha, ev, hh, r1⟩ := rs.lst hn rv
        obtain ⟨b, ws, _, eu, hb, r2⟩ := rs.lst hm ru
        have uc : Up Γ f H f (upd H a (.lst (us ++ ws))) := .chg hh trivial
        refine ⟨a, b, us, ws, ev, by rw [eu], hh, hb, by rw [← r1.length, ← r2.length, lim_eq]; exact hl, ?_⟩
        exact h f _ _ uc (rs.set ha (.chg hh trivial) ⟨_, upd_same, (r1.append r2).up uc⟩) Rp.ofNon
      · exact h.elim
    · exact h.elim
  · exact h.elim
/-! ### methods without arguments -/
def mBM0 (g : D → List D → Store → R D) (mo : ME) : ME := fun env S => (mo env S).bind fun d S1 => match d with
  | .ref n => (match S1[n]? with
    | some (.lst _) => g d [] S1
    | _ => .bad)
  | _ => .bad
theorem bm0_imp {r : V → List V → Hp → VK → Prop} {g : D → List D → Store → R D} (hK : X.K = Γ.K) (hg : MtOk Γ r g) {σ : L2.St} {Q : VK} (h : tE Γ W (mBM0 g mo) σ H Q) : tBM0 X.K "list" r (tE Γ W mo) σ H Q := by
  obtain ⟨env, S, f, rs, re, h⟩ := h
  refine ⟨env, S, f, rs, re, Wp.bindL h fun d S1 f1 H1 v u1 rs1 r1 h1 => ?_⟩
  revert h1
  split
  · rename_i n
    split
    · rename_i ds hn
      intro h1
      obtain ⟨a, us, _, ev, hh, ru⟩ := rs1.lst hn r1
      refine ⟨?_, hg W σ f1 S1 H1 _ v [] [] Q rs1 r1 (by simp only [RpL]) h1⟩
      rw [ev]
      exact .inl ⟨rfl, us, SqL.of hh⟩
    · exact fun h => h.elim
  · exact fun h => h.elim
theorem q_bm0 {id : String} {r : V → List V → Hp → VK → Prop} {g : D → List D → Store → R D} (hK : X.K = Γ.K) (hg : MtOk Γ r g) (pa : PlainAttrs "list") (slot : Slot "list" name id) (hty : typeOf (.builtin id) = pure (.type "method_descriptor")) (hm : MtR X id r) (ho : PE X o (tE Γ W mo))
    (hbase : attributeBase o name X.env (eval o X.env) = eval o X.env := by rfl) (hline : (apos.endLine == cpos.line) = true := by rfl) : PE X (.Call (.Attribute o name apos) [] [] cpos) (tE Γ W (mBM0 g mo)) := PE.imp (pe_bm0 pa slot hty hm ho hbase hline) fun σ H Q h => bm0_imp hK hg h
def gPop : D → List D → Store → R D
  | .ref n, [], S => (match S[n]? with
    | some (.lst ds) => (match ds[ds.length - 1]? with
      | some y => .ok y (S.set n (.lst ds.dropLast))
      | none => .bad)
    | _ => .bad)
  | _, _, _ => .bad
theorem ok_pop : MtOk Γ rPop gPop := fun W σ f S H d v xs vs Q rs rv r h => by
  unfold gPop at h
  split at h
  · rename_i n
    split at h
    · rename_i ds hn
      split at h
      · rename_i y hy
        obtain ⟨a, us, ha, ev, hh, r1⟩ := rs.lst hn rv
        obtain ⟨u, hu, ru⟩ := RpL.get r1 hy
        have ex : vs = [] := by simpa only [RpL] using r
        have uc : Up Γ f H f (upd H a (.lst us.dropLast)) := .chg hh trivial
        have r2 : RpL Γ f H ds.dropLast us.dropLast := by
          rw [List.dropLast_eq_take, List.dropLast_eq_take, r1.length]
          exact r1.take' _
        refine ⟨a, us, u, ev, ex, hh, by rw [← r1.length]; exact hu, ?_⟩
        exact h f _ _ uc (rs.set ha (.chg hh trivial) ⟨_, upd_same, r2.up uc⟩) (ru.up uc)
      · exact h.elim
    · exact h.elim
  · exact h.elim
end
end Lk

set_option Elab.async false
set_option linter.all false
set_option autoImplicit false
set_option maxRecDepth 100000
set_option maxHeartbeats 4000000
/-! + - * and the sign turned, by a class's own methods -/
namespace Lk
open PySem PySem.Spec PyProof.Rows L2
/-- a built-in of ints declines an instance -/
theorem int_declines {f : Int → Int → Sem PySem.Fin} {nm : String} {i : Int} {t : Tok} {x C dx : Addr} :
    GivesAt (fun s => s.heap.get? x = some (PySem.W.instObj C dx)) (Builtin.Int.intBinary nm f false ⟨[.int i t, .ref x], []⟩) (.val .notImplemented) := by
  intro prog w A R s ho hq
  obtain ⟨hp, g, d, tk, os⟩ := s
  unfold Builtin.Int.intBinary
  wp_walk
  exact hq
section
variable {prog : Program} {w : World} {A : Around} {E : Value → Shared → Prop} {s : Shared} {K : PySem.W.Frag} {x C L f f0 dx : Addr} {h₀ : Heap} {m : Str → Option Value} {od : Option Obj}
open PySem.W in
/-- an int on the left, an instance of an own class on the right -/
theorem binop_refl {op : Operator} {i : Int} {t : Tok} {idl : String} {B : Builtin} {Q : Value → Shared → Prop} (F : Fr h₀ L s.heap m) (X₀ : K.In h₀) (I : InstAt s.heap x (instObj C dx) C od) (hc : selfFirst K C = true)
    (hs : findIn K (.ref C) (PySem.dunder op.info.2) = some (some (.ref f0))) (hr : findIn K (.ref C) (dunderR op.info.2) = some (some (.ref f))) (hf : isFn K (.ref f) = true) (hsub : subIn K (.ref C) (.type "int") = some false)
    (fills : fillsNumberSlot (.type "int") op.info.2 = pure true) (slot : Slot "int" (PySem.dunder op.info.2) idl) (entry : entryFor table idl = some B) (args : ∀ b : Value, argsOk idl ⟨[.int i t, b], []⟩)
    (decl : ∀ y C dx : Addr, GivesAt (fun s => s.heap.get? y = some (instObj C dx)) (B ⟨[.int i t, .ref y], []⟩) (.val .notImplemented))
    (h : wpAny (model prog w) A (call (.ref f) [.ref x, .int i t]) (PySem.W.CmpBack Q) E s) : wpAny (model prog w) A (binaryOp op (.int i t) (.ref x)) Q E s := by
  have X := X₀.keeps F.keep
  obtain ⟨cd, rest, hcd, hm⟩ := ksp_first hc
  rcases hi : op.info with ⟨sym, nm'⟩
  rw [hi] at hs hr fills slot
  dsimp only at hs hr fills slot
  have two := ksp_try X I hr hf h
  have ho : s.heap.get? x = some (instObj C dx) := I.at_
  have one : wpAny (model prog w) A (call (.builtin idl) [.int i t, .ref x]) (fun v s' => v = .notImplemented ∧ s' = s) E s := call_givesAt slot (typeIs_int s i t) entry (args _) (decl x C dx) ho ⟨rfl, rfl⟩
  have hT : s.TypeIs (.int i t) "int" := typeIs_int s i t
  have hne : (Value.type "int" == Value.ref C) = false := Bool.eq_false_iff.mpr fun q => by cases beq_iff_eq.mp q
  have L1 : Looks (model prog w) s.heap (typeOf (.ref x)) (.ref C) := I.type
  have L3 : Looks (model prog w) s.heap (fillsNumberSlot (.ref C) nm') true := fills_K X hcd hm hs
  have L5 : Looks (model prog w) s.heap (isSubtype (.ref C) (.type "int")) false := looks_subIn X hsub
  have hpy : numberSlotInPython (.type "int") nm' = pure false := rfl
  simp only [binaryOp, hi]
  refine wpAny_holding (wpAny_bind ?_)
  unfold binaryOp1
  refine wpAny_bind (wpAny_typeOf hT (wpAny_bind (L1.here (wpAny_bind (wpAny_of_eq fills ?_)))))
  simp only [hne, Bool.false_eq_true, if_false]
  refine wpAny_bind (L3.here ?_)
  simp only [Bool.and_self, if_true]
  refine wpAny_bind (L5.here ?_)
  simp only [Bool.false_eq_true, if_false, pure_bind, Bool.not_false, Bool.and_self, if_true, hpy]
  refine wpAny_bind (wpAny_tryMethod_declines hT slot (wpAny_mono one (fun v s' q => ?_) fun _ _ e => e))
  obtain ⟨rfl, rfl⟩ := q
  refine ⟨rfl, ?_⟩
  dsimp only
  refine wpAny_bind (wpAny_mono two (fun r s' hr' => ?_) fun _ _ e => e)
  obtain ⟨v, rfl, hq⟩ := hr'
  exact wpAny_bind (wpAny_rule (wpAny_pure (wpAny_pure hq)))
end
/-! ### the operators of own classes -/
abbrev OTab := Str → Option (List D → Store → R D)
def insR (o : Option (List D → Store → R D)) (l : List D) (S : Store) : R D := match o with
  | some m => (match m l S with
    | .ok d S' => .ok d S'
    | _ => .bad)
  | none => .bad
def gBinX (ot rt : OTab) (g : D → D → Store → R D) (x y : D) (S : Store) : R D := match x, y with
  | .ins C xs, .ins C' ys => if C = C' then insR (ot C) [.ins C xs, .ins C' ys] S else .bad
  | .ins C xs, .int i => insR (ot C) [.ins C xs, .int i] S
  | .int i, .ins C ys => insR (rt C) [.ins C ys, .int i] S
  | x, y => g x y S
def gUnX (nt : OTab) (g : D → Store → R D) (x : D) (S : Store) : R D := match x with
  | .ins C xs => insR (nt C) [.ins C xs] S
  | x => g x S
/-- what the text says of a class with an own operator nm -/
def opB (Γ : G) (C : Str) (nm : String) : Bool := PySem.W.selfFirst Γ.K (Γ.c C) && ((match PySem.W.findIn Γ.K (.ref (Γ.c C)) (PySem.dunder nm) with
    | some (some (.ref _)) => true
    | _ => false) && ((match PySem.W.findIn Γ.K (.ref (Γ.c C)) (dunderR nm) with
    | some none => true
    | some (some (.ref _)) => true
    | _ => false) && ((PySem.W.findIn Γ.K (.type "int") (PySem.dunder nm)).isSome && ((PySem.W.findIn Γ.K (.type "int") (dunderR nm)).isSome &&
    (decide (PySem.W.subIn Γ.K (.type "int") (.ref (Γ.c C)) = some false) && decide (PySem.W.subIn Γ.K (.ref (Γ.c C)) (.type "int") = some false))))))
structure MeC (Γ : G) (P : Program) (w : World) (mg : Str → Option Value) (base : Heap) (k n : Nat) (C nm : Str) (m : List D → Store → R D) : Prop where
  me : ∃ g fd ps, PySem.W.findIn Γ.K (.ref (Γ.c C)) nm = some (some (.ref g)) ∧ PySem.W.isFn Γ.K (.ref g) = true ∧ FnOk P w Γ.K mg base (L2.CX P w) k g fd ps (spOf Γ n m) ∧ Binds Γ.K fd ps []
/-- the tables of an operator: forth, reflected -/
structure OpsC (Γ : G) (P : Program) (w : World) (mg : Str → Option Value) (base : Heap) (k : Nat) (nm : String) (ot rt : OTab) : Prop where
  fw : ∀ C m, ot C = some m → MeC Γ P w mg base k 2 C (PySem.dunder nm) m ∧ opB Γ C nm = true
  rf : ∀ C m, rt C = some m → MeC Γ P w mg base k 2 C (dunderR nm) m ∧ opB Γ C nm = true
def NegC (Γ : G) (P : Program) (w : World) (mg : Str → Option Value) (base : Heap) (k : Nat) (nt : OTab) : Prop := ∀ C m, nt C = some m → MeC Γ P w mg base k 1 C "__neg__" m
section
variable {Γ : G} {W : WX} {X : Cx} {f : List Addr} {H : Hp} {S : Store}
/-- a call of such a method, of right values -/
def rMe (Γ : G) (n : Nat) (o : Option (List D → Store → R D)) (l : List V) (H : Hp) (Q : VK) : Prop := ∃ m, o = some m ∧ spOf Γ n m l H Q (fun _ _ _ => False)
def rBinX (Γ : G) (ot rt : OTab) (r : R2) : R2 := fun x y H Q =>
  (∃ C a dx fs b dy gs, x = .ref a ∧ H a = some (.ins (Γ.c C) dx fs) ∧ y = .ref b ∧ H b = some (.ins (Γ.c C) dy gs) ∧ rMe Γ 2 (ot C) [x, y] H Q) ∨
  ((∃ C a dx fs i, x = .ref a ∧ H a = some (.ins (Γ.c C) dx fs) ∧ y = .int i ∧ rMe Γ 2 (ot C) [x, y] H Q) ∨
  ((∃ C a dx fs i, y = .ref a ∧ H a = some (.ins (Γ.c C) dx fs) ∧ x = .int i ∧ rMe Γ 2 (rt C) [y, x] H Q) ∨ r x y H Q))
def rUnX (Γ : G) (nt : OTab) (r : V → Hp → VK → Prop) : V → Hp → VK → Prop := fun x H Q => (∃ C a dx fs, x = .ref a ∧ H a = some (.ins (Γ.c C) dx fs) ∧ rMe Γ 1 (nt C) [x] H Q) ∨ r x H Q
theorem back_of {pins : List (Addr × Obj)} {σ : L2.St} {Q : VK} {v : Value} {s : Shared} (h : EP X pins σ Q v s) : PySem.W.CmpBack (EP X pins σ Q) v s := by
  have h0 := h
  obtain ⟨z, H', I', rz, qz⟩ := h
  cases v <;> first | exact h0 | (exfalso; revert rz; cases z <;> (intro rz; first | (cases rz; done) | (obtain ⟨_, e⟩ := rz; cases e)))
theorem op_of {C : Str} {nm : String} (h : opB Γ C nm = true) : PySem.W.selfFirst Γ.K (Γ.c C) = true ∧ (∃ g, PySem.W.findIn Γ.K (.ref (Γ.c C)) (PySem.dunder nm) = some (some (.ref g))) ∧ (∃ rc, PySem.W.findIn Γ.K (.ref (Γ.c C)) (dunderR nm) = some rc ∧ (rc = none ∨ ∃ g : Addr, rc = some (.ref g))) ∧
    (∃ fo, PySem.W.findIn Γ.K (.type "int") (PySem.dunder nm) = some fo) ∧ (∃ fo, PySem.W.findIn Γ.K (.type "int") (dunderR nm) = some fo) ∧ PySem.W.subIn Γ.K (.type "int") (.ref (Γ.c C)) = some false ∧ PySem.W.subIn Γ.K (.ref (Γ.c C)) (.type "int") = some false := by
  unfold opB at h
  simp only [Bool.and_eq_true] at h
  obtain ⟨h1, h2, h3, h4, h5, h6, h7⟩ := h
  refine ⟨h1, ?_, ?_, Option.isSome_iff_exists.mp h4, Option.isSome_iff_exists.mp h5, of_decide_eq_true h6, of_decide_eq_true h7⟩
  · split at h2
    · rename_i g e
      exact ⟨g, e⟩
    · cases h2
  · split at h3
    · rename_i e
      exact ⟨none, e, .inl rfl⟩
    · rename_i g e
      exact ⟨some (.ref g), e, .inr ⟨g, rfl⟩⟩
    · cases h3
/-- what int says of an operator -/
structure IntOp (op : Operator) : Prop where
  fills : fillsNumberSlot (.type "int") op.info.2 = pure true
  in_ : ∃ idl B, Slot "int" (PySem.dunder op.info.2) idl ∧ entryFor table idl = some B ∧ (∀ a b : Value, argsOk idl ⟨[a, b], []⟩) ∧ ∀ (i : Int) (t : Tok) (y C dx : Addr), GivesAt (fun s => s.heap.get? y = some (PySem.W.instObj C dx)) (B ⟨[.int i t, .ref y], []⟩) (.val .notImplemented)
theorem int_add : IntOp .Add := ⟨F.fills_int_add, _, _, F.slot_int_add, F.entry_int_add, fun a b => F.args_int_add_2 a b, fun _ _ _ _ _ => int_declines⟩
theorem int_sub : IntOp .Sub := ⟨F.fills_int_sub, _, _, F.slot_int_sub, F.entry_int_sub, fun a b => F.args_int_sub_2 a b, fun _ _ _ _ _ => int_declines⟩
theorem int_mul : IntOp .Mult := ⟨F.fills_int_mul, _, _, F.slot_int_mul, F.entry_int_mul, fun a b => F.args_int_mul_2 a b, fun _ _ _ _ _ => int_declines⟩
theorem or_bin {op : Operator} {k : Nat} {ot rt : OTab} {r : R2} (hK : X.K = Γ.K) (hr : Room k X.A) (hi : IntOp op) (ho : OpsC Γ X.prog X.w X.mg X.base k op.info.2 ot rt) (hb : OpR X (binaryOp op) r) : OpR X (binaryOp op) (rBinX Γ ot rt r) := by
  intro pins s σ H x y v u Q I rx ry h
  have noX : PassesAt (L2.CX X.prog X.w) X σ (fun _ _ _ => False) := fun _ _ _ _ _ _ c => by
    obtain ⟨_, _, _, _, _, _, _, _, _, _, _, _, z⟩ := c
    exact z.elim
  have go : ∀ {C nm : Str} {n : Nat} {m : List D → Store → R D} {us : List Value} {vs : List V} {g : Addr}, PySem.W.findIn Γ.K (.ref (Γ.c C)) nm = some (some (.ref g)) → MeC Γ X.prog X.w X.mg X.base k n C nm m → Vals vs us → spOf Γ n m vs H Q (fun _ _ _ => False) → PySem.W.isFn Γ.K (.ref g) = true ∧ wpAny (model X.prog X.w) X.A (call (.ref g) us) (PySem.W.CmpBack (EP X pins σ Q)) X.xe s := by
    intro C nm n m us vs g e me rv hsp
    obtain ⟨g', fd, ps, e1, e2, F, hb⟩ := me.me
    rw [e1] at e
    cases e
    exact ⟨e2, wpAny_mono (run_fnS (us := us) (vs := vs) (E := fun _ _ _ _ => False) (σ := σ) (Q := Q) (by rw [hK]; exact F) hr (by rw [hK]; exact hb) noX I rv hsp) (fun _ _ q => back_of q) fun _ _ z => z⟩
  obtain ⟨mm, hF⟩ := I.fr
  rcases h with ⟨C, a, dx, fs, b, dy, gs, ex, hh, ey, hh2, m, em, hsp⟩ | ⟨C, a, dx, fs, i, ex, hh, ey, m, em, hsp⟩ | ⟨C, a, dx, fs, i, ey, hh, ex, m, em, hsp⟩ | h
  · subst ex
    subst ey
    obtain rfl : v = Value.ref a := rx
    obtain rfl : u = Value.ref b := ry
    obtain ⟨me, q⟩ := ho.fw C m em
    obtain ⟨q1, ⟨g, q2⟩, q3, q4, q5, q6, q7⟩ := op_of q
    obtain ⟨mA, J, _⟩ := ins_get I.hok hh
    obtain ⟨od, J, _⟩ := J.look
    obtain ⟨mB', J2, _⟩ := ins_get I.hok hh2
    obtain ⟨od2, J2, _⟩ := J2.look
    obtain ⟨e2, w⟩ := go q2 me (show Vals [V.ref a, V.ref b] [Value.ref a, Value.ref b] from .cons rfl (.cons rfl .nil)) hsp
    exact PySem.W.binop_K hF I.ok.mod.kin J J2.type (by rw [hK]; exact q1) (by rw [hK]; exact q2) (by rw [hK]; exact e2) w
  · subst ex
    subst ey
    obtain rfl : v = Value.ref a := rx
    obtain ⟨t, rfl⟩ := (show ∃ t, u = Value.int i t from ry)
    obtain ⟨me, q⟩ := ho.fw C m em
    obtain ⟨q1, ⟨g, q2⟩, ⟨rc, q3, q3'⟩, ⟨fo, q4⟩, ⟨ro, q5⟩, q6, q7⟩ := op_of q
    obtain ⟨mA, J, _⟩ := ins_get I.hok hh
    obtain ⟨od, J, _⟩ := J.look
    obtain ⟨e2, w⟩ := go q2 me (show Vals [V.ref a, V.int i] [Value.ref a, Value.int i t] from .cons rfl (.cons ⟨t, rfl⟩ .nil)) hsp
    exact PySem.W.ksp_binT (T := "int") hF I.ok.mod.kin J rfl (by rw [hK]; exact q1) (by rw [hK]; exact q2) (by rw [hK]; exact e2) (by rw [hK]; exact q3) q3' (by rw [hK]; exact q4) (by rw [hK]; exact q5) (by rw [hK]; exact q6) w
  · subst ex
    subst ey
    obtain rfl : u = Value.ref a := ry
    obtain ⟨t, rfl⟩ := (show ∃ t, v = Value.int i t from rx)
    obtain ⟨me, q⟩ := ho.rf C m em
    obtain ⟨q1, ⟨g0, q2⟩, _, _, _, q6, q7⟩ := op_of q
    obtain ⟨g, fd, ps, e1, _⟩ := me.me
    obtain ⟨mA, J, _⟩ := ins_get I.hok hh
    obtain ⟨od, J, _⟩ := J.look
    obtain ⟨e2, w⟩ := go e1 me (show Vals [V.ref a, V.int i] [Value.ref a, Value.int i t] from .cons rfl (.cons ⟨t, rfl⟩ .nil)) hsp
    obtain ⟨idl, B, n1, n2, n3, n4⟩ := hi.in_
    exact binop_refl hF I.ok.mod.kin J (by rw [hK]; exact q1) (by rw [hK]; exact q2) (by rw [hK]; exact e1) (by rw [hK]; exact e2) (by rw [hK]; exact q7) hi.fills n1 n2 (fun b => n3 _ b) (fun y C dx => n4 _ _ y C dx) w
  · exact hb pins s σ H x y v u Q I rx ry h
theorem ur_neg {k : Nat} {nt : OTab} {r : V → Hp → VK → Prop} (hK : X.K = Γ.K) (hr : Room k X.A) (ho : NegC Γ X.prog X.w X.mg X.base k nt) (hb : UnR X (unaryOp .USub) r) : UnR X (unaryOp .USub) (rUnX Γ nt r) := by
  intro pins s σ H x v Q I rx h
  have noX : PassesAt (L2.CX X.prog X.w) X σ (fun _ _ _ => False) := fun _ _ _ _ _ _ c => by
    obtain ⟨_, _, _, _, _, _, _, _, _, _, _, _, z⟩ := c
    exact z.elim
  obtain ⟨mm, hF⟩ := I.fr
  rcases h with ⟨C, a, dx, fs, ex, hh, m, em, hsp⟩ | h
  · subst ex
    obtain rfl : v = Value.ref a := rx
    obtain ⟨g, fd, ps, e1, e2, F, hb2⟩ := (ho C m em).me
    obtain ⟨mA, J, _⟩ := ins_get I.hok hh
    obtain ⟨od, J, _⟩ := J.look
    exact PySem.W.ksp_neg hF I.ok.mod.kin J (by rw [hK]; exact e1) (by rw [hK]; exact e2) (run_fnS (us := [Value.ref a]) (vs := [V.ref a]) (E := fun _ _ _ _ => False) (σ := σ) (Q := Q) (by rw [hK]; exact F) hr (by rw [hK]; exact hb2) noX I (.cons rfl .nil) hsp)
  · exact hb pins s σ H x v Q I rx h
theorem insR_ok {n : Nat} {o : Option (List D → Store → R D)} {l : List D} {vs : List V} {σ : L2.St} {Q : VK} (rs : RelS Γ f S H) (rl : RpL Γ f H l vs) (hn : vs.length = n) (h : Wp Γ W σ f H (Rp Γ) Q (insR o l S)) : rMe Γ n o vs H Q := by
  unfold insR at h
  split at h
  · rename_i m
    refine ⟨m, rfl, hn, f, S, l, rs, rl, ?_⟩
    revert h
    cases m l S with
    | ok d S' => exact fun h => h
    | _ => exact fun h => h.elim
  · exact h.elim
theorem insAt {C : Str} {xs : List D} {v : V} (r : Rp Γ f H (.ins C xs) v) : ∃ a dx fvs, v = .ref a ∧ H a = some (.ins (Γ.c C) dx fvs) := by
  simp only [Rp] at r
  obtain ⟨a, dx, fvs, e, hh, _⟩ := r
  exact ⟨a, dx, fvs, e, hh⟩
theorem two_rp {x y : D} {v u : V} (rx : Rp Γ f H x v) (ry : Rp Γ f H y u) : RpL Γ f H [x, y] [v, u] := by
  simp only [RpL]
  exact ⟨v, [u], rfl, rx, u, [], rfl, ry, rfl⟩
theorem one_rp {x : D} {v : V} (rx : Rp Γ f H x v) : RpL Γ f H [x] [v] := by
  simp only [RpL]
  exact ⟨v, [], rfl, rx, rfl⟩
theorem ok_bin {ot rt : OTab} {r : R2} {g : D → D → Store → R D} (hg : OpOk Γ r g) : OpOk Γ (rBinX Γ ot rt r) (gBinX ot rt g) := fun W σ f S H x y v u Q rs rx ry h => by
  have base : Wp Γ W σ f H (Rp Γ) Q (g x y S) → rBinX Γ ot rt r v u H Q := fun h => .inr (.inr (.inr (hg W σ f S H x y v u Q rs rx ry h)))
  unfold gBinX at h
  split at h
  · rename_i C xs C' ys
    split at h
    · rename_i e
      subst e
      obtain ⟨a, dx, fs, e1, h1⟩ := insAt rx
      obtain ⟨b, dy, gs, e2, h2⟩ := insAt ry
      exact .inl ⟨C, a, dx, fs, b, dy, gs, e1, h1, e2, h2, insR_ok rs (two_rp rx ry) rfl h⟩
    · exact h.elim
  · rename_i C xs i
    obtain ⟨a, dx, fs, e1, h1⟩ := insAt rx
    exact .inr (.inl ⟨C, a, dx, fs, i, e1, h1, ry.int, insR_ok rs (two_rp rx ry) rfl h⟩)
  · rename_i i C ys
    obtain ⟨a, dx, fs, e1, h1⟩ := insAt ry
    exact .inr (.inr (.inl ⟨C, a, dx, fs, i, e1, h1, rx.int, insR_ok rs (two_rp ry rx) rfl h⟩))
  · exact base h
theorem ok_un {nt : OTab} {r : V → Hp → VK → Prop} {g : D → Store → R D} (hg : UnOk Γ r g) : UnOk Γ (rUnX Γ nt r) (gUnX nt g) := fun W σ f S H x v Q rs rx h => by
  unfold gUnX at h
  split at h
  · rename_i C xs
    obtain ⟨a, dx, fs, e1, h1⟩ := insAt rx
    exact .inl ⟨C, a, dx, fs, e1, h1, insR_ok rs (one_rp rx) rfl h⟩
  · exact .inr (hg W σ f S H _ v Q rs rx h)
/-- a row that is never come to -/
def mBadS : MS := fun _ _ => .bad
theorem qs_bad {st : Stmt} : PS X st (tS Γ W mBadS) := ⟨fun pins s σ H D I q => by
  obtain ⟨env, S, f, rs, re, h⟩ := q
  exact h.elim⟩
theorem dun_add : PySem.dunder "add" = ("__add__" : Str) := by decide +kernel
theorem dun_sub : PySem.dunder "sub" = ("__sub__" : Str) := by decide +kernel
theorem dun_mul : PySem.dunder "mul" = ("__mul__" : Str) := by decide +kernel
theorem dur_add : dunderR "add" = ("__radd__" : Str) := by decide +kernel
theorem dur_sub : dunderR "sub" = ("__rsub__" : Str) := by decide +kernel
theorem dur_mul : dunderR "mul" = ("__rmul__" : Str) := by decide +kernel
end
end Lk

set_option Elab.async false
set_option linter.all false
set_option autoImplicit false
set_option maxRecDepth 100000
set_option maxHeartbeats 4000000
/-! facts about mirrors alone, for every law -/
namespace Lk
open PySem L2
theorem lcGo_n {g : Tg} {mt : MT} {me : ME} {env : Lk.Env} {p : Nat} {S : Store} : lcGo (fun _ => True) g mt me env p [] S = .ok (.ref p) S := by unfold lcGo; exact if_pos trivial
/-- a comprehension whose element is a plain function of the item -/
theorem lc_map {i : Nat} {me : ME} {env : Lk.Env} {S : Store} (h : D → D) : ∀ (ds acc : List D), acc.length + ds.length ≤ lim → (∀ d ∈ ds, ∀ a : List D, me (env.set i (some d)) (S ++ [.lst a]) = .ok (h d) (S ++ [.lst a])) →
    lcGo (fun _ => True) (.nm i) mYes me env S.length ds (S ++ [.lst acc]) = .ok (.ref S.length) (S ++ [.lst (acc ++ ds.map h)])
  | [], acc, hl, hm => by rw [lcGo_n]; simp
  | d :: ds, acc, hl, hm => by
    have hl' : acc.length + (ds.length + 1) ≤ lim := by simpa using hl
    rw [lcGo, if_pos trivial]
    simp only [Tg.put, mYes]
    rw [hm d List.mem_cons_self acc]
    have g : (S ++ [Ob.lst acc])[S.length]? = some (.lst acc) := by simp
    have s : (S ++ [Ob.lst acc]).set S.length (.lst (acc ++ [h d])) = S ++ [.lst (acc ++ [h d])] := by simp
    simp only [g]
    rw [if_pos (by omega), s, lc_map h ds (acc ++ [h d]) (by simp; omega) fun d' hd a => hm d' (List.mem_cons_of_mem _ hd) a]
    simp
/-- .. with a test -/
theorem lc_filter {i : Nat} {mt : MT} {me : ME} {env : Lk.Env} {S : Store} (t : D → Bool) (h : D → D) : ∀ (ds acc : List D), acc.length + ds.length ≤ lim → (∀ d ∈ ds, ∀ a : List D, mt (env.set i (some d)) (S ++ [.lst a]) = .ok (t d) (S ++ [.lst a])) →
    (∀ d ∈ ds, t d = true → ∀ a : List D, me (env.set i (some d)) (S ++ [.lst a]) = .ok (h d) (S ++ [.lst a])) →
    lcGo (fun _ => True) (.nm i) mt me env S.length ds (S ++ [.lst acc]) = .ok (.ref S.length) (S ++ [.lst (acc ++ (ds.filter t).map h)])
  | [], acc, hl, ht, hm => by rw [lcGo_n]; simp
  | d :: ds, acc, hl, ht, hm => by
    have hl' : acc.length + (ds.length + 1) ≤ lim := by simpa using hl
    rw [lcGo, if_pos trivial]
    simp only [Tg.put]
    rw [ht d List.mem_cons_self acc]
    cases q : t d with
    | true =>
      dsimp only
      rw [hm d List.mem_cons_self q acc]
      have g : (S ++ [Ob.lst acc])[S.length]? = some (.lst acc) := by simp
      have s : (S ++ [Ob.lst acc]).set S.length (.lst (acc ++ [h d])) = S ++ [.lst (acc ++ [h d])] := by simp
      simp only [g]
      rw [if_pos (by omega), s, lc_filter t h ds (acc ++ [h d]) (by simp; omega) (fun d' hd a => ht d' (List.mem_cons_of_mem _ hd) a) fun d' hd e a => hm d' (List.mem_cons_of_mem _ hd) e a]
      simp [q]
    | false =>
      dsimp only
      rw [lc_filter t h ds acc (by omega) (fun d' hd a => ht d' (List.mem_cons_of_mem _ hd) a) fun d' hd e a => hm d' (List.mem_cons_of_mem _ hd) e a]
      simp [q]
/-- a loop over plain values with an invariant -/
theorem for_inv {g : MG} {mb : MS} {I : List D → Lk.Env → Store → Prop} {Fin : RS → Prop} :
    ∀ (ds : List D) (env : Lk.Env) (S : Store), I ds env S → (∀ env S, I [] env S → Fin (.nx env S)) →
    (∀ d ds env S, I (d :: ds) env S → ∃ e1 S1, g d env S = .ok e1 S1 ∧ match mb e1 S1 with
      | .nx e2 S2 => I ds e2 S2
      | .ct e2 S2 => I ds e2 S2
      | .bk e2 S2 => Fin (.nx e2 S2)
      | r => Fin r) →
    Fin (forGo (fun _ => True) g mb ds env S)
  | [], env, S, h, h0, hs => by
    rw [forGo, if_pos trivial]
    exact h0 _ _ h
  | d :: ds, env, S, h, h0, hs => by
    obtain ⟨e1, S1, eg, k⟩ := hs d ds env S h
    rw [forGo, if_pos trivial, eg]
    dsimp only
    cases q : mb e1 S1 with
    | nx e2 S2 => rw [q] at k; exact for_inv ds e2 S2 k h0 hs
    | ct e2 S2 => rw [q] at k; exact for_inv ds e2 S2 k h0 hs
    | bk e2 S2 => rw [q] at k; exact k
    | rt d' S2 => rw [q] at k; exact k
    | ex C xs e2 S2 => rw [q] at k; exact k
    | bad => rw [q] at k; exact k
end Lk

set_option Elab.async false
set_option linter.all false
set_option autoImplicit false
set_option maxRecDepth 100000
set_option maxHeartbeats 4000000
/-! a comprehension with a test, over any source -/
namespace Lk
open PySem L2
theorem lc_filterG {gd : Store → Prop} {i : Nat} {mt : MT} {me : ME} {env : Lk.Env} {S : Store} (t : D → Bool) (h : D → D) (hgd : ∀ T, gd (S ++ T)) : ∀ (ds acc : List D), acc.length + ds.length ≤ lim → (∀ d ∈ ds, ∀ a : List D, mt (env.set i (some d)) (S ++ [.lst a]) = .ok (t d) (S ++ [.lst a])) →
    (∀ d ∈ ds, t d = true → ∀ a : List D, me (env.set i (some d)) (S ++ [.lst a]) = .ok (h d) (S ++ [.lst a])) →
    lcGo gd (.nm i) mt me env S.length ds (S ++ [.lst acc]) = .ok (.ref S.length) (S ++ [.lst (acc ++ (ds.filter t).map h)])
  | [], acc, hl, ht, hm => by
    rw [lcGo, if_pos (hgd _)]
    simp
  | d :: ds, acc, hl, ht, hm => by
    have hl' : acc.length + (ds.length + 1) ≤ lim := by simpa using hl
    rw [lcGo, if_pos (hgd _)]
    simp only [Tg.put]
    rw [ht d List.mem_cons_self acc]
    cases q : t d with
    | true =>
      dsimp only
      rw [hm d List.mem_cons_self q acc]
      have g : (S ++ [Ob.lst acc])[S.length]? = some (.lst acc) := by simp
      have s : (S ++ [Ob.lst acc]).set S.length (.lst (acc ++ [h d])) = S ++ [.lst (acc ++ [h d])] := by simp
      simp only [g]
      rw [if_pos (by omega), s, lc_filterG t h hgd ds (acc ++ [h d]) (by simp; omega) (fun d' hd a => ht d' (List.mem_cons_of_mem _ hd) a) fun d' hd e a => hm d' (List.mem_cons_of_mem _ hd) e a]
      simp [q]
    | false =>
      dsimp only
      rw [lc_filterG t h hgd ds acc (by omega) (fun d' hd a => ht d' (List.mem_cons_of_mem _ hd) a) fun d' hd e a => hm d' (List.mem_cons_of_mem _ hd) e a]
      simp [q]
end Lk

/-! The mirror of law_k02_nets_made, by gen.py. -/
set_option linter.all false
set_option autoImplicit false
set_option maxRecDepth 1000000
set_option maxHeartbeats 40000000
set_option Elab.async false
namespace Mi_k02
open PySem PySem.Spec PyProof.Rows L2 Lk
def top (i : Nat) : Stmt := PySem.Challenge.pw_likespans_k02_nets_made.main.body.getD i (.Pass ⟨0, 0, 0, 0⟩)
def flds : Str → List Str := fun C => if C = "Ratio" then ["top", "bottom"] else if C = "Net" then ["beat", "events", "spans"] else []
def xfl : Str → List Str := fun C => if C = "BadBeat" then ["beat"] else if C = "BadEvents" then ["events"] else if C = "BadSpan" then ["index"] else if C = "BadNumber" then ["value"] else []
def af : List Str := ["beat", "bottom", "events", "spans", "top"]
def cs : List Str := ["Ratio", "Net"]
abbrev Gm (K : PySem.W.Frag) : G := { K := K, c := He.ga K, flds := flds, af := af, xfl := xfl }
def sb (h : Str) : Str → Option Bool := tabS [("BadBeat", "SpansError", true), ("BadEvents", "SpansError", true), ("BadSpan", "SpansError", true), ("BadNumber", "SpansError", true)] h
def xk : Str → CK → Option Bool := tabX [("BadBeat", .own "BadBeat", true), ("BadBeat", .own "BadEvents", false), ("BadBeat", .own "BadSpan", false), ("BadEvents", .own "BadBeat", false), ("BadEvents", .own "BadEvents", true), ("BadEvents", .own "BadSpan", false), ("BadSpan", .own "BadBeat", false), ("BadSpan", .own "BadEvents", false), ("BadSpan", .own "BadSpan", true), ("BadNumber", .own "BadBeat", false), ("BadNumber", .own "BadEvents", false), ("BadNumber", .own "BadSpan", false)]
abbrev oe0 : Str → Option (List D → Store → R D) := fun _ => none
theorem oe0_no {Γ : G} {P : Program} {w : World} {mg : Str → Option Value} {base : Heap} {cs : List Str} {k : Nat} : ∀ C m, oe0 C = some m → EqC Γ P w mg base cs k C m := fun _ _ h => by cases h
noncomputable def b__law_source : MS := (mSeq (mIfS (mTest (m2 (gCmp fun i j => decide (i < j)) (mVar 1) (mB gLen (mCons (mVar 0) mNil)))) (mRet (mLst (mCons (m2 gIx (mVar 0) (mVar 1)) (mCons (mB gInt (mCons (m2 (gCmp fun i j => decide (j ≤ i)) (m2 gIx (mVar 0) (mVar 1)) (m2 Lk.gPow (mC (.int 10)) (mC (.int 18)))) mNil)) (mCons (mC (.int 0)) (mCons (m2 Lk.gMod (mB gInt (mCons (m2 gIx (mVar 0) (mVar 1)) mNil)) (mC (.int 2147483629))) mNil)))))) mNext)
  (mSeq (mSet 2 (mC (.int 0)))
  (mSeq (mIfS (mTest (m2 (gCmp fun i j => decide (j < i)) (mB gLen (mCons (mVar 0) mNil)) (mC (.int 0)))) (mSet 2 (m2 Lk.gMod (mB gInt (mCons (m2 gIx (mVar 0) (mC (.int 0))) mNil)) (mC (.int 2147483629)))) mNext)
  (mRet (mLst (mCons (mC (.int 0)) (mCons (mC (.int 0)) (mCons (mC (.int 0)) (mCons (m2 Lk.gAdd (m2 Lk.gAdd (mVar 2) (m2 Lk.gMul (mC (.int 104729)) (mVar 1))) (mB gLen (mCons (mVar 0) mNil))) mNil)))))))))
noncomputable def f__law_source : List D → Store → R D := mDef 3 b__law_source
noncomputable def b_is_integer : MS := (mRet (mAnd (m1 (gIsi cs [(.bi "int")]) (mVar 0)) (mNot (m1 (gIsi cs [(.bi "bool")]) (mVar 0)))))
noncomputable def f_is_integer : List D → Store → R D := mDef 1 b_is_integer
noncomputable def b_is_number : MS := (mRet (mOr (mCall 1 f_is_integer (mCons (mVar 0) mNil)) (m1 (gIsi cs [(.own "Ratio")]) (mVar 0))))
noncomputable def f_is_number : List D → Store → R D := mDef 1 b_is_number
noncomputable def b_top_of : MS := (mRet (mIf (mTest (m1 (gIsi cs [(.own "Ratio")]) (mVar 0))) (mFld flds "top" (mVar 0)) (mVar 0)))
noncomputable def f_top_of : List D → Store → R D := mDef 1 b_top_of
noncomputable def b_bottom_of : MS := (mRet (mIf (mTest (m1 (gIsi cs [(.own "Ratio")]) (mVar 0))) (mFld flds "bottom" (mVar 0)) (mC (.int 1))))
noncomputable def f_bottom_of : List D → Store → R D := mDef 1 b_bottom_of
noncomputable def b_Ratio___eq__ : MS := (mSeq (mIfS (mNotT (mTest (mCall 1 f_is_number (mCons (mVar 1) mNil)))) (mRet (mC (.bl false))) mNext)
  (mRet (mAnd (m2 (gEqX cs oe0) (mFld flds "top" (mVar 0)) (mCall 1 f_top_of (mCons (mVar 1) mNil))) (m2 (gEqX cs oe0) (mFld flds "bottom" (mVar 0)) (mCall 1 f_bottom_of (mCons (mVar 1) mNil))))))
noncomputable def f_Ratio___eq__ : List D → Store → R D := mDef 2 b_Ratio___eq__
noncomputable def b_Net___eq__ : MS := (mSeq (mIfS (mNotT (mTest (m1 (gIsi cs [(.own "Net")]) (mVar 1)))) (mRet (mC (.bl false))) mNext)
  (mRet (mAnd (m2 (gEqX cs oe0) (mFld flds "beat" (mVar 0)) (mFld flds "beat" (mVar 1))) (mAnd (m2 (gEqX cs oe0) (mFld flds "events" (mVar 0)) (mFld flds "events" (mVar 1))) (m2 (gEqX cs oe0) (mFld flds "spans" (mVar 0)) (mFld flds "spans" (mVar 1)))))))
noncomputable def f_Net___eq__ : List D → Store → R D := mDef 2 b_Net___eq__
noncomputable def oe : Str → Option (List D → Store → R D) := fun C => if C = "Ratio" then some f_Ratio___eq__ else if C = "Net" then some f_Net___eq__ else none
noncomputable def b__law_draw : MS := (mSeq (mSet 2 (m2 gIx (mVar 0) (mC (.int 0))))
  (mSeq (mIfS (mAndT (mTest (m2 (gEqZ cs oe) (m2 gIx (mVar 0) (mC (.int 1))) (mC (.int 1)))) (mTest (m2 (gCmp fun i j => decide (j < i)) (mVar 2) (mC (.int 0))))) (mSeq (mAsg (m2 Lk.gDiv (mVar 2) (mVar 1)) (gSub' (mVar 0) (mC (.int 0))))
  (mRet (m2 Lk.gMod (mB gInt (mCons (mVar 2) mNil)) (mVar 1)))) mNext)
  (mSeq (mAsg (m2 Lk.gAdd (m2 gIx (mVar 0) (mC (.int 2))) (mC (.int 1))) (gSub' (mVar 0) (mC (.int 2))))
  (mSeq (mSet 3 (m2 Lk.gMod (mB gInt (mCons (m2 Lk.gMul (m2 Lk.gAdd (m2 Lk.gAdd (m2 gIx (mVar 0) (mC (.int 3))) (m2 Lk.gMul (mC (.int 7919)) (m2 gIx (mVar 0) (mC (.int 2))))) (mC (.int 1))) (mC (.int 48271))) mNil)) (mC (.int 2147483647))))
  (mSeq (mSet 3 (m2 Lk.gMod (mB gInt (mCons (m2 Lk.gMul (mVar 3) (m2 Lk.gAdd (m2 Lk.gDiv (mVar 3) (mC (.int 1009))) (mC (.int 69621)))) mNil)) (mC (.int 2147483647))))
  (mSeq (mSet 3 (m2 Lk.gMod (mB gInt (mCons (m2 Lk.gMul (mVar 3) (m2 Lk.gAdd (m2 Lk.gDiv (mVar 3) (mC (.int 2003))) (mC (.int 40692)))) mNil)) (mC (.int 2147483399))))
  (mRet (m2 Lk.gMod (mB gInt (mCons (mVar 3) mNil)) (mVar 1)))))))))
noncomputable def f__law_draw : List D → Store → R D := mDef 4 b__law_draw
noncomputable def b__law_rows : MS := (mSeq (mSet 4 (mLst mNil))
  (mSeq (mFor (iRng1' (mCons (mVar 3) mNil)) (gSet 5) (mSeq (mSet 6 (mCall 2 f__law_draw (mCons (mVar 0) (mCons (mVar 2) mNil))))
  (mSeq (mSet 7 (m2 Lk.gMod (mB gInt (mCons (m2 Lk.gAdd (m2 Lk.gAdd (mVar 6) (mC (.int 1))) (mCall 2 f__law_draw (mCons (mVar 0) (mCons (mB gMax2 (mCons (mC (.int 1)) (mCons (m2 Lk.gSub (mVar 2) (mC (.int 1))) mNil))) mNil)))) mNil)) (mVar 2)))
  (mSeq (mSet 8 (mCall 2 f__law_draw (mCons (mVar 0) (mCons (m2 Lk.gMul (mC (.int 2)) (mVar 1)) mNil))))
  (mSeq (mSet 9 (mB gMin2 (mCons (mC (.int 2880)) (mCons (m2 Lk.gAdd (mVar 8) (mCall 2 f__law_draw (mCons (mVar 0) (mCons (m2 Lk.gSub (mVar 1) (mC (.int 1))) mNil)))) mNil))))
  (mSeq (mSet 10 (mTup (mCons (mVar 6) (mCons (mVar 7) (mCons (mB gMin2 (mCons (mVar 8) (mCons (mVar 9) mNil))) (mCons (mVar 9) mNil))))))
  (mIfS (mAndT (mTest (m2 (gNeX oe) (mVar 6) (mVar 7))) (mTest (m2 (gInZ true) (mVar 10) (mVar 4)))) (mDrop (mBM gAppend (mVar 4) (mCons (mVar 10) mNil))) mNext)))))))
  (mRet (mVar 4))))
noncomputable def f__law_rows : List D → Store → R D := mDef 11 b__law_rows
noncomputable def b__law_integer : MS := (mRet (mAnd (m1 (gIsi cs [(.bi "int")]) (mVar 0)) (mNot (m1 (gIsi cs [(.bi "bool")]) (mVar 0)))))
noncomputable def f__law_integer : List D → Store → R D := mDef 1 b__law_integer
noncomputable def b__law_is_span : MS := (mSeq (mIfS (mOrT (mNotT (mTest (m1 (gIsi cs [(.bi "tuple")]) (mVar 0)))) (mTest (m2 (gNeX oe) (mB gLen (mCons (mVar 0) mNil)) (mC (.int 4))))) (mRet (mC (.bl false))) mNext)
  (mSeq (mIfS (mNotT (mTest (mB gAll (mCons (mLc (iSeq (mVar 0)) (.nm 3) mYes (mCall 1 f__law_integer (mCons (mVar 3) mNil)) [3]) mNil)))) (mRet (mC (.bl false))) mNext)
  (mSeq (mAsg (mVar 0) (gUnpack 4 (gCons' (gSet 4) (gCons' (gSet 5) (gCons' (gSet 6) (gCons' (gSet 7) gNil'))))))
  (mSeq (mIfS (mOrT (mTest (m2 (gCmp fun i j => decide (i < j)) (mVar 4) (mC (.int 0)))) (mOrT (mTest (m2 (gCmp fun i j => decide (i < j)) (mVar 5) (mC (.int 0)))) (mOrT (mTest (m2 (gCmp fun i j => decide (j ≤ i)) (mVar 4) (mVar 2))) (mOrT (mTest (m2 (gCmp fun i j => decide (j ≤ i)) (mVar 5) (mVar 2))) (mTest (m2 (gEqZ cs oe) (mVar 4) (mVar 5))))))) (mRet (mC (.bl false))) mNext)
  (mRet (mAnd (m2 (gCmp fun i j => decide (i ≤ j)) (mC (.int 0)) (mVar 6)) (mAnd (m2 (gCmp fun i j => decide (i ≤ j)) (mVar 6) (mVar 7)) (mAnd (m2 (gCmp fun i j => decide (i ≤ j)) (mVar 7) (mC (.int 2880))) (m2 (gCmp fun i j => decide (i ≤ j)) (m2 Lk.gSub (mVar 7) (mVar 6)) (m2 Lk.gSub (mVar 1) (mC (.int 2))))))))))))
noncomputable def f__law_is_span : List D → Store → R D := mDef 8 b__law_is_span
noncomputable def b__law_due : MS := (mSeq (mIfS (mOrT (mNotT (mTest (mCall 1 f__law_integer (mCons (mVar 0) mNil)))) (mOrT (mTest (m2 (gCmp fun i j => decide (i < j)) (mVar 0) (mC (.int 3)))) (mTest (m2 (gCmp fun i j => decide (j < i)) (mVar 0) (mC (.int 1440)))))) (mRet (mTup (mCons (mTup (mCons (mC (.bl true)) (mCons (mC (.bl false)) (mCons (mC (.bl false)) mNil)))) (mCons (mVar 0) mNil)))) mNext)
  (mSeq (mIfS (mOrT (mNotT (mTest (mCall 1 f__law_integer (mCons (mVar 1) mNil)))) (mOrT (mTest (m2 (gCmp fun i j => decide (i < j)) (mVar 1) (mC (.int 1)))) (mTest (m2 (gCmp fun i j => decide (j < i)) (mVar 1) (mC (.int 24)))))) (mRet (mTup (mCons (mTup (mCons (mC (.bl false)) (mCons (mC (.bl true)) (mCons (mC (.bl false)) mNil)))) (mCons (mVar 1) mNil)))) mNext)
  (mSeq (mIfS (mOrT (mNotT (mTest (m1 (gIsi cs [(.bi "list"), (.bi "tuple")]) (mVar 2)))) (mTest (m2 (gCmp fun i j => decide (j < i)) (mB gLen (mCons (mVar 2) mNil)) (mC (.int 60))))) (mRet (mTup (mCons (mTup (mCons (mC (.bl false)) (mCons (mC (.bl false)) (mCons (mC (.bl true)) mNil)))) (mCons (m1 gNeg (mC (.int 1))) mNil)))) mNext)
  (mSeq (mSet 3 (mLst mNil))
  (mSeq (mFor (iRng1' (mCons (mB gLen (mCons (mVar 2) mNil)) mNil)) (gSet 4) (mSeq (mIfS (mOrT (mNotT (mTest (mCall 3 f__law_is_span (mCons (m2 gIx (mVar 2) (mVar 4)) (mCons (mVar 0) (mCons (mVar 1) mNil)))))) (mTest (m2 (gInZ false) (m2 gIx (mVar 2) (mVar 4)) (mVar 3)))) (mRet (mTup (mCons (mTup (mCons (mC (.bl false)) (mCons (mC (.bl false)) (mCons (mC (.bl true)) mNil)))) (mCons (mVar 4) mNil)))) mNext)
  (mDrop (mBM gAppend (mVar 3) (mCons (m2 gIx (mVar 2) (mVar 4)) mNil)))))
  (mRet (mC .non)))))))
noncomputable def f__law_due : List D → Store → R D := mDef 5 b__law_due
noncomputable def b_is_below : MS := (mRet (mAnd (mCall 1 f_is_integer (mCons (mVar 1) mNil)) (mCh2 (gCmp (fun i j => decide (i ≤ j))) (gCmp (fun i j => decide (i < j))) (mC (.int 0)) (mVar 1) (mVar 0))))
noncomputable def f_is_below : List D → Store → R D := mDef 2 b_is_below
noncomputable def b_is_span : MS := (mSeq (mIfS (mOrT (mNotT (mTest (m1 (gIsi cs [(.bi "tuple")]) (mVar 2)))) (mTest (m2 (gNeX oe) (mB gLen (mCons (mVar 2) mNil)) (mC (.int 4))))) (mRet (mC (.bl false))) mNext)
  (mSeq (mIfS (mNotT (mTest (mB gAll (mCons (mLc (iSeq (mVar 2)) (.nm 3) mYes (mCall 1 f_is_integer (mCons (mVar 3) mNil)) [3]) mNil)))) (mRet (mC (.bl false))) mNext)
  (mSeq (mAsg (mVar 2) (gUnpack 4 (gCons' (gSet 4) (gCons' (gSet 5) (gCons' (gSet 6) (gCons' (gSet 7) gNil'))))))
  (mSeq (mIfS (mOrT (mNotT (mTest (mCall 2 f_is_below (mCons (mVar 1) (mCons (mVar 4) mNil))))) (mOrT (mNotT (mTest (mCall 2 f_is_below (mCons (mVar 1) (mCons (mVar 5) mNil))))) (mTest (m2 (gEqZ cs oe) (mVar 4) (mVar 5))))) (mRet (mC (.bl false))) mNext)
  (mRet (mAnd (mCh3 (gCmp (fun i j => decide (i ≤ j))) (gCmp (fun i j => decide (i ≤ j))) (gCmp (fun i j => decide (i ≤ j))) (mC (.int 0)) (mVar 6) (mVar 7) (mC (.int 2880))) (m2 (gCmp fun i j => decide (i ≤ j)) (m2 Lk.gSub (mVar 7) (mVar 6)) (m2 Lk.gSub (mVar 0) (mC (.int 2))))))))))
noncomputable def f_is_span : List D → Store → R D := mDef 8 b_is_span
noncomputable def b_spans_fault : MS := (mSeq (mIfS (mOrT (mNotT (mTest (m1 (gIsi cs [(.bi "list"), (.bi "tuple")]) (mVar 2)))) (mTest (m2 (gCmp fun i j => decide (j < i)) (mB gLen (mCons (mVar 2) mNil)) (mC (.int 60))))) (mRet (m1 gNeg (mC (.int 1)))) mNext)
  (mSeq (mFor (iEnuZ (mVar 2)) (gUnpack 2 (gCons' (gSet 3) (gCons' (gSet 4) gNil'))) (mIfS (mOrT (mNotT (mTest (mCall 3 f_is_span (mCons (mVar 0) (mCons (mVar 1) (mCons (mVar 4) mNil)))))) (mTest (m2 (gInZ false) (mVar 4) (mSl (mVar 2) none (some (mVar 3)))))) (mRet (mVar 3)) mNext))
  (mRet (mC .non))))
noncomputable def f_spans_fault : List D → Store → R D := mDef 5 b_spans_fault
noncomputable def b_are_events : MS := (mRet (mAnd (mCall 1 f_is_integer (mCons (mVar 0) mNil)) (mCh2 (gCmp (fun i j => decide (i ≤ j))) (gCmp (fun i j => decide (i ≤ j))) (mC (.int 1)) (mVar 0) (mC (.int 24)))))
noncomputable def f_are_events : List D → Store → R D := mDef 1 b_are_events
noncomputable def b_Net___init__ : MS := (mSeq (mIfS (mOrT (mNotT (mTest (mCall 1 f_is_integer (mCons (mVar 1) mNil)))) (mNotT (mTest (mCh2 (gCmp (fun i j => decide (i ≤ j))) (gCmp (fun i j => decide (i ≤ j))) (mC (.int 3)) (mVar 1) (mC (.int 1440)))))) (mRaise1 "BadBeat" (mVar 1)) mNext)
  (mSeq (mIfS (mNotT (mTest (mCall 1 f_are_events (mCons (mVar 2) mNil)))) (mRaise1 "BadEvents" (mVar 2)) mNext)
  (mSeq (mSet 4 (mCall 3 f_spans_fault (mCons (mVar 1) (mCons (mVar 2) (mCons (mVar 3) mNil)))))
  (mSeq (mIfS (mTest (m2 gNotN (mVar 4) (mC .non))) (mRaise1 "BadSpan" (mVar 4)) mNext)
  (mSeq (mSetF flds 0 "beat" (mVar 1))
  (mSeq (mSetF flds 0 "events" (mVar 2))
  (mSetF flds 0 "spans" (mB gTuple (mCons (mVar 3) mNil)))))))))
noncomputable def f_Net___init__ : List D → Store → R D := mDef 5 b_Net___init__
noncomputable def b__law_told : MS := (mSeq (mTryAs (sb "SpansError") 4 (mSet 3 (mMake "Net" 4 f_Net___init__ (mCons (mVar 0) (mCons (mVar 1) (mCons (mVar 2) mNil))))) (fun E xs => (mSeq (mSet 5 (mTup (mCons (mXis xk 4 E (.own "BadBeat")) (mCons (mXis xk 4 E (.own "BadEvents")) (mCons (mXis xk 4 E (.own "BadSpan")) mNil)))))
  (mSeq (mSet 6 (mC .non))
  (mSeq (mIfS (mTest (m2 gEqD (mVar 5) (mTup (mCons (mC (.bl true)) (mCons (mC (.bl false)) (mCons (mC (.bl false)) mNil)))))) (mSet 6 (mXfld xfl 4 E xs "beat")) mNext)
  (mSeq (mIfS (mTest (m2 gEqD (mVar 5) (mTup (mCons (mC (.bl false)) (mCons (mC (.bl true)) (mCons (mC (.bl false)) mNil)))))) (mSet 6 (mXfld xfl 4 E xs "events")) mNext)
  (mSeq (mIfS (mTest (m2 gEqD (mVar 5) (mTup (mCons (mC (.bl false)) (mCons (mC (.bl false)) (mCons (mC (.bl true)) mNil)))))) (mSet 6 (mXfld xfl 4 E xs "index")) mNext)
  (mRet (mTup (mCons (mC (.str (Str.ofString "refused"))) (mCons (mVar 5) (mCons (mVar 6) mNil))))))))))))
  (mRet (mTup (mCons (mC (.str (Str.ofString "made"))) (mCons (mVar 3) (mCons (mC .non) mNil))))))
noncomputable def f__law_told : List D → Store → R D := mDef 7 b__law_told
noncomputable def b_Ratio___init__ : MS := (mSeq (mFor (iSeq (mTup (mCons (mVar 1) (mCons (mVar 2) mNil)))) (gSet 3) (mIfS (mNotT (mTest (mCall 1 f_is_integer (mCons (mVar 3) mNil)))) (mRaise1 "BadNumber" (mVar 3)) mNext))
  (mSeq (mIfS (mTest (m2 (gEqZ cs oe) (mVar 2) (mC (.int 0)))) (mRaise1 "BadNumber" (mVar 2)) mNext)
  (mSeq (mSet 4 (mIf (mTest (m2 (gCmp fun i j => decide (j < i)) (mVar 2) (mC (.int 0)))) (mB gGcd (mCons (mVar 1) (mCons (mVar 2) mNil))) (m1 gNeg (mB gGcd (mCons (mVar 1) (mCons (mVar 2) mNil))))))
  (mSeq (mSetF flds 0 "top" (m2 Lk.gDiv (mVar 1) (mVar 4)))
  (mSetF flds 0 "bottom" (m2 Lk.gDiv (mVar 2) (mVar 4)))))))
noncomputable def f_Ratio___init__ : List D → Store → R D := mDef 5 b_Ratio___init__
noncomputable def b__law_odd : MS := (mSeq (mSet 1 (mLst (mCons (mC .non) (mCons (mC (.bl true)) (mCons (mC (.bl false)) (mCons (mC (.str (Str.ofString "7"))) (mCons (mC (.str (Str.ofString ""))) (mCons (mTup mNil) (mCons (mTup (mCons (mC (.int 3)) mNil)) (mCons (mLst mNil) (mCons (mLst (mCons (mC (.int 5)) mNil)) (mCons mDict0 (mCons (mDict1 (mC (.int 1)) (mC (.int 2))) (mCons (mC (.str (Str.ofString "ab"))) (mCons (mMake "Ratio" 3 f_Ratio___init__ (mCons (mC (.int 1)) (mCons (mC (.int 1)) mNil))) (mCons (mMake "Ratio" 3 f_Ratio___init__ (mCons (mC (.int 5)) (mCons (mC (.int 1)) mNil))) mNil))))))))))))))))
  (mRet (m2 gIx (mVar 1) (mCall 2 f__law_draw (mCons (mVar 0) (mCons (mC (.int 14)) mNil))))))
noncomputable def f__law_odd : List D → Store → R D := mDef 2 b__law_odd
noncomputable def b__law_net_right : MS := (mSeq (mIfS (mOrT (mNotT (mTest (m1 (gIsi cs [(.own "Net")]) (mVar 0)))) (mOrT (mNotT (mTest (mCall 1 f__law_integer (mCons (mFld flds "beat" (mVar 0)) mNil)))) (mNotT (mTest (mCall 1 f__law_integer (mCons (mFld flds "events" (mVar 0)) mNil)))))) (mRet (mC (.bl false))) mNext)
  (mRet (mAnd (m2 (gEqZ cs oe) (mFld flds "beat" (mVar 0)) (mVar 1)) (mAnd (m2 (gEqZ cs oe) (mFld flds "events" (mVar 0)) (mVar 2)) (mAnd (m1 (gIsi cs [(.bi "tuple")]) (mFld flds "spans" (mVar 0))) (m2 (gEqZ cs oe) (mFld flds "spans" (mVar 0)) (mB gTuple (mCons (mVar 3) mNil))))))))
noncomputable def f__law_net_right : List D → Store → R D := mDef 4 b__law_net_right
noncomputable def b__law_equal_right : MS := (mSeq (mIfS (mOrT (mNotT (mTest (m2 (gEqZ cs oe) (mVar 0) (mMake "Net" 4 f_Net___init__ (mCons (mVar 1) (mCons (mVar 2) (mCons (mB gTuple (mCons (mVar 3) mNil)) mNil))))))) (mTest (m2 (gNeX oe) (mVar 0) (mMake "Net" 4 f_Net___init__ (mCons (mVar 1) (mCons (mVar 2) (mCons (mB gList (mCons (mVar 3) mNil)) mNil))))))) (mRet (mC (.bl false))) mNext)
  (mSeq (mIfS (mOrT (mAndT (mTest (m2 (gCmp fun i j => decide (i < j)) (mVar 1) (mC (.int 1440)))) (mTest (m2 (gEqZ cs oe) (mVar 0) (mMake "Net" 4 f_Net___init__ (mCons (m2 Lk.gAdd (mVar 1) (mC (.int 1))) (mCons (mVar 2) (mCons (mVar 3) mNil))))))) (mAndT (mTest (m2 (gCmp fun i j => decide (i < j)) (mVar 2) (mC (.int 24)))) (mTest (m2 (gEqZ cs oe) (mVar 0) (mMake "Net" 4 f_Net___init__ (mCons (mVar 1) (mCons (m2 Lk.gAdd (mVar 2) (mC (.int 1))) (mCons (mVar 3) mNil)))))))) (mRet (mC (.bl false))) mNext)
  (mSeq (mIfS (mAndT (mTest (m2 (gCmp fun i j => decide (j < i)) (mB gLen (mCons (mVar 3) mNil)) (mC (.int 0)))) (mTest (m2 (gEqZ cs oe) (mVar 0) (mMake "Net" 4 f_Net___init__ (mCons (mVar 1) (mCons (mVar 2) (mCons (mSl (mVar 3) (some (mC (.int 1))) none) mNil))))))) (mRet (mC (.bl false))) mNext)
  (mSeq (mIfS (mAndT (mTest (m2 (gCmp fun i j => decide (j < i)) (mB gLen (mCons (mVar 3) mNil)) (mC (.int 1)))) (mTest (m2 (gEqZ cs oe) (mVar 0) (mMake "Net" 4 f_Net___init__ (mCons (mVar 1) (mCons (mVar 2) (mCons (m2 Lk.gAdd (mSl (mVar 3) (some (mC (.int 1))) none) (mSl (mVar 3) none (some (mC (.int 1))))) mNil))))))) (mRet (mC (.bl false))) mNext)
  (mSeq (mIfS (mTest (m2 (gCmp fun i j => decide (j < i)) (mB gLen (mCons (mVar 3) mNil)) (mC (.int 0)))) (mSeq (mSet 4 (m2 Lk.gAdd (mSl (m2 gIx (mVar 3) (m1 gNeg (mC (.int 1)))) none (some (mC (.int 3)))) (mTup (mCons (m2 gIx (m2 gIx (mVar 3) (m1 gNeg (mC (.int 1)))) (mC (.int 2))) mNil))))
  (mIfS (mAndT (mTest (m2 (gInZ true) (mVar 4) (mVar 3))) (mTest (m2 (gEqZ cs oe) (mVar 0) (mMake "Net" 4 f_Net___init__ (mCons (mVar 1) (mCons (mVar 2) (mCons (m2 Lk.gAdd (mSl (mVar 3) none (some (m1 gNeg (mC (.int 1))))) (mLst (mCons (mVar 4) mNil))) mNil))))))) (mRet (mC (.bl false))) mNext)) mNext)
  (mRet (mNot (mOr (m2 (gEqZ cs oe) (mVar 0) (mTup (mCons (mVar 1) (mCons (mVar 2) (mCons (mB gTuple (mCons (mVar 3) mNil)) mNil))))) (mOr (m2 (gEqZ cs oe) (mVar 0) (mVar 1)) (m2 gIsN (mVar 0) (mC .non)))))))))))
noncomputable def f__law_equal_right : List D → Store → R D := mDef 5 b__law_equal_right
noncomputable def b__law_alike : MS := (mSeq (mIfS (mOrT (mTest (m1 (gIsi cs [(.bi "bool")]) (mVar 0))) (mTest (m1 (gIsi cs [(.bi "bool")]) (mVar 1)))) (mRet (mAnd (m1 (gIsi cs [(.bi "bool")]) (mVar 0)) (mAnd (m1 (gIsi cs [(.bi "bool")]) (mVar 1)) (m2 (gEqZ cs oe) (mVar 0) (mVar 1))))) mNext)
  (mRet (m2 (gEqZ cs oe) (mVar 0) (mVar 1))))
noncomputable def f__law_alike : List D → Store → R D := mDef 2 b__law_alike
noncomputable def b__law_changed : MS := (mSeq (mSet 5 (mCall 2 f__law_draw (mCons (mVar 0) (mCons (mC (.int 14)) mNil))))
  (mSeq (mAsg (mVar 1) (gUnpack 4 (gCons' (gSet 6) (gCons' (gSet 7) (gCons' (gSet 8) (gCons' (gSet 9) gNil'))))))
  (mSeq (mIfS (mTest (m2 (gEqZ cs oe) (mVar 5) (mC (.int 0)))) (mRet (m2 gIx (mVar 4) (mCall 2 f__law_draw (mCons (mVar 0) (mCons (mB gLen (mCons (mVar 4) mNil)) mNil))))) mNext)
  (mSeq (mIfS (mTest (m2 (gCmp fun i j => decide (i < j)) (mVar 5) (mC (.int 4)))) (mRet (m2 gIx (mLst (mCons (mTup (mCons (mVar 6) (mCons (mVar 6) (mCons (mVar 8) (mCons (mVar 9) mNil))))) (mCons (mTup (mCons (mVar 6) (mCons (mVar 3) (mCons (mVar 8) (mCons (mVar 9) mNil))))) (mCons (mTup (mCons (m1 gNeg (mC (.int 1))) (mCons (mVar 7) (mCons (mVar 8) (mCons (mVar 9) mNil))))) mNil)))) (m2 Lk.gSub (mVar 5) (mC (.int 1))))) mNext)
  (mSeq (mIfS (mTest (m2 (gCmp fun i j => decide (i < j)) (mVar 5) (mC (.int 8)))) (mRet (m2 gIx (mLst (mCons (mTup (mCons (mVar 6) (mCons (mVar 7) (mCons (m2 Lk.gAdd (mVar 9) (mC (.int 1))) (mCons (mVar 9) mNil))))) (mCons (mTup (mCons (mVar 6) (mCons (mVar 7) (mCons (mVar 8) (mCons (mC (.int 2881)) mNil))))) (mCons (mTup (mCons (mVar 6) (mCons (mVar 7) (mCons (m1 gNeg (mC (.int 1))) (mCons (mVar 8) mNil))))) (mCons (mTup (mCons (mVar 6) (mCons (mVar 7) (mCons (mC (.int 0)) (mCons (m2 Lk.gSub (mVar 2) (mC (.int 1))) mNil))))) mNil))))) (m2 Lk.gSub (mVar 5) (mC (.int 4))))) mNext)
  (mSeq (mIfS (mTest (m2 (gCmp fun i j => decide (i < j)) (mVar 5) (mC (.int 11)))) (mRet (m2 gIx (mLst (mCons (mTup (mCons (mVar 6) (mCons (mVar 7) (mCons (mVar 8) mNil)))) (mCons (mTup (mCons (mVar 6) (mCons (mVar 7) (mCons (mVar 8) (mCons (mVar 9) (mCons (mC (.int 0)) mNil)))))) (mCons (mLst (mCons (mVar 6) (mCons (mVar 7) (mCons (mVar 8) (mCons (mVar 9) mNil))))) mNil)))) (m2 Lk.gSub (mVar 5) (mC (.int 8))))) mNext)
  (mSeq (mIfS (mTest (m2 (gEqZ cs oe) (mVar 5) (mC (.int 11)))) (mRet (mCall 1 f__law_odd (mCons (mVar 0) mNil))) mNext)
  (mSeq (mSet 10 (mB gList (mCons (mVar 1) mNil)))
  (mSeq (mAsg (mCall 1 f__law_odd (mCons (mVar 0) mNil)) (gSub' (mVar 10) (mCall 2 f__law_draw (mCons (mVar 0) (mCons (mC (.int 4)) mNil)))))
  (mRet (mB gTuple (mCons (mVar 10) mNil))))))))))))
noncomputable def f__law_changed : List D → Store → R D := mDef 11 b__law_changed
noncomputable def b_law_t20 : MS := (mRet (mAnd (mCall 4 f__law_net_right (mCons (m2 gIx (mVar 17) (mC (.int 1))) (mCons (mVar 2) (mCons (mVar 3) (mCons (mVar 18) mNil))))) (mCall 4 f__law_equal_right (mCons (m2 gIx (mVar 17) (mC (.int 1))) (mCons (mVar 2) (mCons (mVar 3) (mCons (mVar 18) mNil)))))))
noncomputable def b_law_t19 : MS := (mSeq (mIfS (mTest (m1 (gIsi cs [(.bi "list")]) (mVar 15))) (mDrop (mBM gAppend (mVar 15) (mCons (mTup (mCons (mC (.int 0)) (mCons (mC (.int 0)) (mCons (mC (.int 0)) (mCons (mC (.int 0)) mNil))))) mNil))) mNext) b_law_t20)
noncomputable def b_law_t18 : MS := (mSeq (mSet 18 (mB gList (mCons (mVar 15) mNil))) b_law_t19)
noncomputable def b_law_t17 : MS := (mSeq (mIfS (mOrT (mTest (m2 (gNeX oe) (m2 gIx (mVar 17) (mC (.int 0))) (mC (.str (Str.ofString "made"))))) (mNotT (mTest (mCall 4 f__law_net_right (mCons (m2 gIx (mVar 17) (mC (.int 1))) (mCons (mVar 13) (mCons (mVar 14) (mCons (mVar 15) mNil)))))))) (mRet (mC (.bl false))) mNext) b_law_t18)
noncomputable def b_law_t16 : MS := (mSeq (mIfS (mTest (m2 gNotN (mVar 16) (mC .non))) (mRet (mAnd (m2 (gEqZ cs oe) (m2 gIx (mVar 17) (mC (.int 0))) (mC (.str (Str.ofString "refused")))) (mAnd (m2 (gEqZ cs oe) (m2 gIx (mVar 17) (mC (.int 1))) (m2 gIx (mVar 16) (mC (.int 0)))) (mCall 2 f__law_alike (mCons (m2 gIx (mVar 17) (mC (.int 2))) (mCons (m2 gIx (mVar 16) (mC (.int 1))) mNil)))))) mNext) b_law_t17)
noncomputable def b_law_t15 : MS := (mSeq (mSet 17 (mCall 3 f__law_told (mCons (mVar 13) (mCons (mVar 14) (mCons (mVar 15) mNil))))) b_law_t16)
noncomputable def b_law_t14 : MS := (mSeq (mSet 16 (mCall 3 f__law_due (mCons (mVar 13) (mCons (mVar 14) (mCons (mVar 15) mNil))))) b_law_t15)
noncomputable def b_law_t13 : MS := (mSeq (mIfS (mTest (m2 (gCmp fun i j => decide (j < i)) (mVar 10) (mC (.int 8)))) (mSet 15 (mB gTuple (mCons (mVar 4) mNil))) mNext) b_law_t14)
noncomputable def b_law_t12 : MS := (mSeq (mSet 15 (mIf (mTest (m2 (gEqZ cs oe) (mVar 10) (mC (.int 3)))) (mCall 1 f__law_odd (mCons (mCall 2 f__law_source (mCons (mVar 0) (mCons (mC (.int 6)) mNil))) mNil)) (mB gList (mCons (mVar 4) mNil)))) b_law_t13)
noncomputable def b_law_t11 : MS := (mSeq (mSet 14 (mIf (mTest (m2 (gInZ false) (mVar 10) (mTup (mCons (mC (.int 1)) (mCons (mC (.int 2)) mNil))))) (mVar 12) (mVar 3))) b_law_t12)
noncomputable def b_law_t10 : MS := (mSeq (mSet 13 (mIf (mTest (m2 (gInZ false) (mVar 10) (mTup (mCons (mC (.int 0)) (mCons (mC (.int 1)) mNil))))) (mVar 11) (mVar 2))) b_law_t11)
noncomputable def b_law_t9 : MS := (mSeq (mSet 12 (m2 gIx (mLst (mCons (mC (.int 0)) (mCons (mC (.int 25)) (mCons (m1 gNeg (mC (.int 1))) (mCons (mCall 1 f__law_odd (mCons (mCall 2 f__law_source (mCons (mVar 0) (mCons (mC (.int 5)) mNil))) mNil)) mNil))))) (mCall 2 f__law_draw (mCons (mVar 1) (mCons (mC (.int 4)) mNil))))) b_law_t10)
noncomputable def b_law_t8 : MS := (mSeq (mSet 11 (m2 gIx (mLst (mCons (mC (.int 2)) (mCons (mC (.int 1441)) (mCons (mC (.int 0)) (mCons (m1 gNeg (mC (.int 3))) (mCons (mCall 1 f__law_odd (mCons (mCall 2 f__law_source (mCons (mVar 0) (mCons (mC (.int 4)) mNil))) mNil)) mNil)))))) (mCall 2 f__law_draw (mCons (mVar 1) (mCons (mC (.int 5)) mNil))))) b_law_t9)
noncomputable def b_law_t7 : MS := (mSeq (mSet 10 (mCall 2 f__law_draw (mCons (mVar 1) (mCons (mC (.int 12)) mNil)))) b_law_t8)
noncomputable def b_law_t6 : MS := (mSeq (mFor (iRng1' (mCons (mVar 6) mNil)) (gSet 5) (mIfS (mTest (m2 (gCmp fun i j => decide (j < i)) (mB gLen (mCons (mVar 4) mNil)) (mC (.int 0)))) (mSeq (mSet 7 (mCall 2 f__law_draw (mCons (mVar 1) (mCons (mB gLen (mCons (mVar 4) mNil)) mNil))))
  (mSeq (mSet 8 (mLc (iSeq (mVar 4)) (.nm 9) (mTest (mCall 3 f__law_is_span (mCons (mVar 9) (mCons (mVar 2) (mCons (mVar 3) mNil))))) (mVar 9) [9]))
  (mIfS (mTest (m2 (gCmp fun i j => decide (j < i)) (mB gLen (mCons (mVar 8) mNil)) (mC (.int 0)))) (mAsg (mCall 5 f__law_changed (mCons (mCall 2 f__law_source (mCons (mVar 0) (mCons (m2 Lk.gAdd (mC (.int 2)) (mVar 5)) mNil))) (mCons (m2 gIx (mVar 8) (mC (.int 0))) (mCons (mVar 2) (mCons (mVar 3) (mCons (mVar 8) mNil)))))) (gSub' (mVar 4) (mVar 7))) mNext))) mNext)) b_law_t7)
noncomputable def b_law_t5 : MS := (mSeq (mSet 6 (mCall 2 f__law_draw (mCons (mVar 1) (mCons (mC (.int 3)) mNil)))) b_law_t6)
noncomputable def b_law_t4 : MS := (mSeq (mIfS (mAndT (mTest (m2 (gEqZ cs oe) (mCall 2 f__law_draw (mCons (mVar 1) (mCons (mC (.int 8)) mNil))) (mC (.int 0)))) (mTest (m2 (gCmp fun i j => decide (j < i)) (mVar 3) (mC (.int 1))))) (mSet 4 (mLc (iRng1' (mCons (m2 Lk.gAdd (mC (.int 59)) (mCall 2 f__law_draw (mCons (mVar 1) (mCons (mC (.int 4)) mNil)))) mNil)) (.nm 5) mYes (mTup (mCons (mC (.int 0)) (mCons (mC (.int 1)) (mCons (mVar 5) (mCons (mVar 5) mNil))))) [5])) mNext) b_law_t5)
noncomputable def b_law_t3 : MS := (mSeq (mSet 4 (mCall 4 f__law_rows (mCons (mCall 2 f__law_source (mCons (mVar 0) (mCons (mC (.int 1)) mNil))) (mCons (mVar 2) (mCons (mVar 3) (mCons (mCall 2 f__law_draw (mCons (mVar 1) (mCons (mC (.int 64)) mNil))) mNil)))))) b_law_t4)
noncomputable def b_law_t2 : MS := (mSeq (mSet 3 (m2 gIx (mLst (mCons (m2 Lk.gAdd (mC (.int 1)) (mCall 2 f__law_draw (mCons (mVar 1) (mCons (mC (.int 24)) mNil)))) (mCons (mC (.int 1)) (mCons (mC (.int 2)) (mCons (mC (.int 24)) mNil))))) (mCall 2 f__law_draw (mCons (mVar 1) (mCons (mC (.int 4)) mNil))))) b_law_t3)
noncomputable def b_law_t1 : MS := (mSeq (mSet 2 (m2 gIx (mLst (mCons (m2 Lk.gAdd (mC (.int 3)) (mCall 2 f__law_draw (mCons (mVar 1) (mCons (mC (.int 12)) mNil)))) (mCons (mC (.int 3)) (mCons (mC (.int 4)) (mCons (mC (.int 1440)) (mCons (m2 Lk.gAdd (mC (.int 3)) (mCall 2 f__law_draw (mCons (mVar 1) (mCons (mC (.int 1438)) mNil)))) mNil)))))) (mCall 2 f__law_draw (mCons (mVar 1) (mCons (mC (.int 5)) mNil))))) b_law_t2)
noncomputable def b_law : MS := (mSeq (mSet 1 (mCall 2 f__law_source (mCons (mVar 0) (mCons (mC (.int 0)) mNil)))) b_law_t1)
noncomputable def f_law : List D → Store → R D := mDef 19 b_law
/-! ### what the head is asked -/
def fn : List He.DefD := [
  ⟨("_law_source", none), "_law_source", "_law_source", defArgs (top 26), defBody (top 26), defScope (top 26), [], []⟩,
  ⟨("is_integer", none), "is_integer", "is_integer", defArgs (top 9), defBody (top 9), defScope (top 9), [], []⟩,
  ⟨("is_number", none), "is_number", "is_number", defArgs (top 11), defBody (top 11), defScope (top 11), [], []⟩,
  ⟨("top_of", none), "top_of", "top_of", defArgs (top 12), defBody (top 12), defScope (top 12), [], []⟩,
  ⟨("bottom_of", none), "bottom_of", "bottom_of", defArgs (top 13), defBody (top 13), defScope (top 13), [], []⟩,
  ⟨("Ratio", some "__eq__"), "__eq__", "Ratio.__eq__", defArgs (inClass (top 14) 8), defBody (inClass (top 14) 8), defScope (inClass (top 14) 8), [], []⟩,
  ⟨("Net", some "__eq__"), "__eq__", "Net.__eq__", defArgs (inClass (top 21) 1), defBody (inClass (top 21) 1), defScope (inClass (top 21) 1), [], []⟩,
  ⟨("_law_draw", none), "_law_draw", "_law_draw", defArgs (top 27), defBody (top 27), defScope (top 27), [], []⟩,
  ⟨("_law_rows", none), "_law_rows", "_law_rows", defArgs (top 34), defBody (top 34), defScope (top 34), [], []⟩,
  ⟨("_law_integer", none), "_law_integer", "_law_integer", defArgs (top 28), defBody (top 28), defScope (top 28), [], []⟩,
  ⟨("_law_is_span", none), "_law_is_span", "_law_is_span", defArgs (top 32), defBody (top 32), defScope (top 32), [], []⟩,
  ⟨("_law_due", none), "_law_due", "_law_due", defArgs (top 33), defBody (top 33), defScope (top 33), [], []⟩,
  ⟨("is_below", none), "is_below", "is_below", defArgs (top 10), defBody (top 10), defScope (top 10), [], []⟩,
  ⟨("is_span", none), "is_span", "is_span", defArgs (top 23), defBody (top 23), defScope (top 23), [], []⟩,
  ⟨("spans_fault", none), "spans_fault", "spans_fault", defArgs (top 24), defBody (top 24), defScope (top 24), [], []⟩,
  ⟨("are_events", none), "are_events", "are_events", defArgs (top 22), defBody (top 22), defScope (top 22), [], []⟩,
  ⟨("Net", some "__init__"), "__init__", "Net.__init__", defArgs (inClass (top 21) 0), defBody (inClass (top 21) 0), defScope (inClass (top 21) 0), [], []⟩,
  ⟨("_law_told", none), "_law_told", "_law_told", defArgs (top 31), defBody (top 31), defScope (top 31), [], []⟩,
  ⟨("Ratio", some "__init__"), "__init__", "Ratio.__init__", defArgs (inClass (top 14) 0), defBody (inClass (top 14) 0), defScope (inClass (top 14) 0), [], []⟩,
  ⟨("_law_odd", none), "_law_odd", "_law_odd", defArgs (top 29), defBody (top 29), defScope (top 29), [], []⟩,
  ⟨("_law_net_right", none), "_law_net_right", "_law_net_right", defArgs (top 36), defBody (top 36), defScope (top 36), [], []⟩,
  ⟨("_law_equal_right", none), "_law_equal_right", "_law_equal_right", defArgs (top 37), defBody (top 37), defScope (top 37), [], []⟩,
  ⟨("_law_alike", none), "_law_alike", "_law_alike", defArgs (top 30), defBody (top 30), defScope (top 30), [], []⟩,
  ⟨("_law_changed", none), "_law_changed", "_law_changed", defArgs (top 35), defBody (top 35), defScope (top 35), [], []⟩,
  ⟨("law", none), "law", "law", defArgs (top 38), defBody (top 38), defScope (top 38), [], []⟩,
  ⟨("BadBeat", some "__init__"), "__init__", "BadBeat.__init__", defArgs (inClass (top 5) 0), defBody (inClass (top 5) 0), defScope (inClass (top 5) 0), [], []⟩,
  ⟨("BadEvents", some "__init__"), "__init__", "BadEvents.__init__", defArgs (inClass (top 6) 0), defBody (inClass (top 6) 0), defScope (inClass (top 6) 0), [], []⟩,
  ⟨("BadSpan", some "__init__"), "__init__", "BadSpan.__init__", defArgs (inClass (top 7) 0), defBody (inClass (top 7) 0), defScope (inClass (top 7) 0), [], []⟩,
  ⟨("BadNumber", some "__init__"), "__init__", "BadNumber.__init__", defArgs (inClass (top 4) 0), defBody (inClass (top 4) 0), defScope (inClass (top 4) 0), [], []⟩]
def fa : Qs := [
  fun K => (He.Fa.free "len").ok K,
  fun K => (He.Fa.free "int").ok K,
  fun K => (He.Fa.free "bool").ok K,
  fun K => isB (Gm K) cs (.bi "bool"),
  fun K => (He.Fa.free "isinstance").ok K,
  fun K => isB (Gm K) cs (.bi "int"),
  fun K => (He.Fa.glo "Ratio").ok K,
  fun K => isB (Gm K) cs (.own "Ratio"),
  fun K => (He.Fa.glo "is_integer").ok K,
  fun K => (He.Fa.glo "is_number").ok K,
  fun K => (He.Fa.glo "bottom_of").ok K,
  fun K => (He.Fa.glo "top_of").ok K,
  fun K => (He.Fa.glo "Net").ok K,
  fun K => isB (Gm K) cs (.own "Net"),
  fun K => (He.Fa.free "range").ok K,
  fun K => (He.Fa.glo "_law_draw").ok K,
  fun K => (He.Fa.free "max").ok K,
  fun K => (He.Fa.free "min").ok K,
  fun K => (He.Fa.free "tuple").ok K,
  fun K => isB (Gm K) cs (.bi "tuple"),
  fun K => (He.Fa.glo "_law_integer").ok K,
  fun K => (He.Fa.free "all").ok K,
  fun K => (He.Fa.free "list").ok K,
  fun K => isB (Gm K) cs (.bi "list"),
  fun K => (He.Fa.glo "_law_is_span").ok K,
  fun K => (He.Fa.glo "is_below").ok K,
  fun K => (He.Fa.int "MOST_HIGH" 2880).ok K,
  fun K => (He.Fa.int "MOST_SPANS" 60).ok K,
  fun K => (He.Fa.free "enumerate").ok K,
  fun K => (He.Fa.glo "is_span").ok K,
  fun K => (He.Fa.int "MOST_EVENTS" 24).ok K,
  fun K => (He.Fa.int "LEAST_BEAT" 3).ok K,
  fun K => (He.Fa.int "MOST_BEAT" 1440).ok K,
  fun K => (He.Fa.glo "are_events").ok K,
  fun K => (He.Fa.glo "spans_fault").ok K,
  fun K => (He.Fa.mkr "Net").ok K,
  fun K => (He.Fa.glo "BadBeat").ok K,
  fun K => (He.Fa.glo "BadEvents").ok K,
  fun K => (He.Fa.glo "BadSpan").ok K,
  fun K => (He.Fa.glo "SpansError").ok K,
  fun K => biB K "gcd" "math.gcd",
  fun K => (He.Fa.mkr "Ratio").ok K,
  fun K => (He.Fa.glo "_law_odd").ok K,
  fun K => (He.Fa.glo "_law_source").ok K,
  fun K => (He.Fa.glo "_law_rows").ok K,
  fun K => (He.Fa.glo "_law_changed").ok K,
  fun K => (He.Fa.glo "_law_due").ok K,
  fun K => (He.Fa.glo "_law_told").ok K,
  fun K => (He.Fa.glo "_law_alike").ok K,
  fun K => (He.Fa.glo "_law_net_right").ok K,
  fun K => (He.Fa.glo "_law_equal_right").ok K,
  fun K => (He.Fa.glo "law").ok K,
  fun K => oexB K (He.ga K "BadBeat"),
  fun K => (He.Fa.meth "BadBeat" "__init__").ok K,
  fun K => noB K (He.ga K "BadBeat") "beat",
  fun K => oexB K (He.ga K "BadEvents"),
  fun K => (He.Fa.meth "BadEvents" "__init__").ok K,
  fun K => noB K (He.ga K "BadEvents") "events",
  fun K => oexB K (He.ga K "BadSpan"),
  fun K => (He.Fa.meth "BadSpan" "__init__").ok K,
  fun K => noB K (He.ga K "BadSpan") "index",
  fun K => (He.Fa.glo "BadNumber").ok K,
  fun K => oexB K (He.ga K "BadNumber"),
  fun K => (He.Fa.meth "BadNumber" "__init__").ok K,
  fun K => noB K (He.ga K "BadNumber") "value",
  fun K => excB K (He.ga K "BadBeat"),
  fun K => (He.Fa.exm "BadBeat" "SpansError" true).ok K,
  fun K => kitB (Gm K) "BadBeat" (.own "BadBeat") true,
  fun K => kitB (Gm K) "BadBeat" (.own "BadEvents") false,
  fun K => kitB (Gm K) "BadBeat" (.own "BadSpan") false,
  fun K => excB K (He.ga K "BadEvents"),
  fun K => (He.Fa.exm "BadEvents" "SpansError" true).ok K,
  fun K => kitB (Gm K) "BadEvents" (.own "BadBeat") false,
  fun K => kitB (Gm K) "BadEvents" (.own "BadEvents") true,
  fun K => kitB (Gm K) "BadEvents" (.own "BadSpan") false,
  fun K => excB K (He.ga K "BadSpan"),
  fun K => (He.Fa.exm "BadSpan" "SpansError" true).ok K,
  fun K => kitB (Gm K) "BadSpan" (.own "BadBeat") false,
  fun K => kitB (Gm K) "BadSpan" (.own "BadEvents") false,
  fun K => kitB (Gm K) "BadSpan" (.own "BadSpan") true,
  fun K => excB K (He.ga K "BadNumber"),
  fun K => (He.Fa.exm "BadNumber" "SpansError" true).ok K,
  fun K => kitB (Gm K) "BadNumber" (.own "BadBeat") false,
  fun K => kitB (Gm K) "BadNumber" (.own "BadEvents") false,
  fun K => kitB (Gm K) "BadNumber" (.own "BadSpan") false,
  fun K => insB K (He.ga K "Ratio"),
  fun K => noB K (He.ga K "Ratio") "top",
  fun K => noB K (He.ga K "Ratio") "bottom",
  fun K => insB K (He.ga K "Net"),
  fun K => noB K (He.ga K "Net") "beat",
  fun K => noB K (He.ga K "Net") "events",
  fun K => noB K (He.ga K "Net") "spans",
  fun K => (He.Fa.meth "Ratio" "__eq__").ok K,
  fun K => nfB (Gm K) cs "Ratio",
  fun K => ownNeB K (He.ga K "Ratio") (He.ma K (He.ga K "Ratio") "__eq__"),
  fun K => (He.Fa.meth "Net" "__eq__").ok K,
  fun K => nfB (Gm K) cs "Net",
  fun K => ownNeB K (He.ga K "Net") (He.ma K (He.ga K "Net") "__eq__")]
structure Txt (K : PySem.W.Frag) (mg : Str → Option Value) : Prop where
  says : SaysL fa fn K
  hp : ∃ h : Heap, K.In h ∧ h.Ns mainGlobals mg
section
variable {P : Program} {w : World} {K : PySem.W.Frag} {mg : Str → Option Value} {base : Heap}
theorem Txt.fact (T : Txt K mg) (i : Nat) {q : PySem.W.Frag → Bool} (h : fa[i]? = some q := by rfl) : q K = true := T.says.fact i h
theorem Txt.free (T : Txt K mg) (i : Nat) {x : Str} (h : fa[i]? = some (fun K => (He.Fa.free x).ok K) := by rfl) : mg x = none := by
  obtain ⟨h0, X, Gs⟩ := T.hp
  exact He.free_ok X Gs (T.says.fact i h)
theorem Txt.glo (T : Txt K mg) (i : Nat) {x : Str} (h : fa[i]? = some (fun K => (He.Fa.glo x).ok K) := by rfl) : mg x = some (.ref (He.ga K x)) := by
  obtain ⟨h0, X, Gs⟩ := T.hp
  exact He.glo_ok X Gs (T.says.fact i h)
theorem Txt.bi (T : Txt K mg) (i : Nat) {x : Str} {id : String} (h : fa[i]? = some (fun K => biB K x id) := by rfl) : mg x = some (.builtin id) := by
  obtain ⟨h0, X, Gs⟩ := T.hp
  exact biB_ok X Gs (T.says.fact i h)
theorem Txt.cint (T : Txt K mg) {x : Str} {v : Int} (i : Nat) (h : fa[i]? = some (fun K => (He.Fa.int x v).ok K) := by rfl) : ∃ t, mg x = some (.int v t) := by
  obtain ⟨h0, X, Gs⟩ := T.hp
  exact He.int_ok X Gs (T.says.fact i h)
theorem Txt.mkr (T : Txt K mg) (i : Nat) {x : Str} (h : fa[i]? = some (fun K => (He.Fa.mkr x).ok K) := by rfl) : Mk K (He.ga K x) (He.ma K (He.ga K x) "__init__") := He.mkr_ok (T.says.fact i h)
theorem Txt.is_ (T : Txt K mg) (i : Nat) {U : CK} (h : fa[i]? = some (fun K => isB (Gm K) cs U) := by rfl) : IsF (Gm K) cs U := isB_ok (T.says.fact i h)
theorem Txt.ins (T : Txt K mg) : ∀ C ∈ cs, C8.InsC (Gm K).K ((Gm K).c C) := by
  intro C hC
  simp only [cs, List.mem_cons, List.not_mem_nil, or_false] at hC
  rcases hC with rfl | rfl
  · exact insB_ok (T.says.fact 85 (q := fun K => insB K (He.ga K "Ratio")))
  · exact insB_ok (T.says.fact 88 (q := fun K => insB K (He.ga K "Net")))
theorem Txt.pl (T : Txt K mg) : PlAll (Gm K) cs := by
  refine ⟨fun C hC => ⟨(T.ins C hC).cl, ?_, ?_⟩, fun C hC => ?_⟩
  · simp only [cs, List.mem_cons, List.not_mem_nil, or_false] at hC
    have af_ : ∀ C ∈ cs, ∀ x ∈ flds C, x ∈ af := by decide +kernel
    exact af_ C (by simp only [cs, List.mem_cons, List.not_mem_nil, or_false]; exact hC)
  · simp only [cs, List.mem_cons, List.not_mem_nil, or_false] at hC
    rcases hC with rfl | rfl
    · intro x hx
      have hx : x ∈ (["top", "bottom"] : List Str) := hx
      simp only [List.mem_cons, List.not_mem_nil, or_false] at hx
      rcases hx with rfl | rfl
      · exact noB_ok (T.says.fact 86 (q := fun K => noB K (He.ga K "Ratio") "top"))
      · exact noB_ok (T.says.fact 87 (q := fun K => noB K (He.ga K "Ratio") "bottom"))
    · intro x hx
      have hx : x ∈ (["beat", "events", "spans"] : List Str) := hx
      simp only [List.mem_cons, List.not_mem_nil, or_false] at hx
      rcases hx with rfl | rfl | rfl
      · exact noB_ok (T.says.fact 89 (q := fun K => noB K (He.ga K "Net") "beat"))
      · exact noB_ok (T.says.fact 90 (q := fun K => noB K (He.ga K "Net") "events"))
      · exact noB_ok (T.says.fact 91 (q := fun K => noB K (He.ga K "Net") "spans"))
  · simp only [cs, List.mem_cons, List.not_mem_nil, or_false, not_or] at hC
    simp only [flds]
    simp [hC]
theorem x1_BadBeat (T : Txt K mg) : X1 (Gm K) P w mg base "BadBeat" "beat" := by
  obtain ⟨fd, Fd⟩ := T.says.def_ 25
  have oe := oexB_ok (T.says.fact 52 (q := fun K => oexB K (He.ga K "BadBeat")))
  have me := He.meth_ok (x := "BadBeat") (m := "__init__") (T.says.fact 53)
  have Sc : FnScope ["self", "beat"] ["self", "beat"] (defScope (inClass (top 5) 0)) := ⟨rfl, rfl, rfl, by decide +kernel, rfl, by decide +kernel, by decide +kernel⟩
  have b : Binds K fd ["self", "beat"] [] := Fd.bindsN fun _ _ _ _ _ _ us hl => match us, hl with | [_, _], _ => rfl
  refine ⟨oe, (show xfl "BadBeat" = (["beat"] : List Str) by decide +kernel), (T.glo 36), _, fd, "self", "beat", me.at_, beq_iff_eq.mp me.fn, ?_, b⟩
  exact ok_x1 Fd Sc oe (noB_ok (T.says.fact 54 (q := fun K => noB K (He.ga K "BadBeat") "beat"))) (by first | exact Or.inl rfl | exact Or.inr (Or.inl rfl)) (by first | exact Or.inl rfl | exact Or.inr (Or.inl rfl))
theorem x1_BadEvents (T : Txt K mg) : X1 (Gm K) P w mg base "BadEvents" "events" := by
  obtain ⟨fd, Fd⟩ := T.says.def_ 26
  have oe := oexB_ok (T.says.fact 55 (q := fun K => oexB K (He.ga K "BadEvents")))
  have me := He.meth_ok (x := "BadEvents") (m := "__init__") (T.says.fact 56)
  have Sc : FnScope ["self", "events"] ["self", "events"] (defScope (inClass (top 6) 0)) := ⟨rfl, rfl, rfl, by decide +kernel, rfl, by decide +kernel, by decide +kernel⟩
  have b : Binds K fd ["self", "events"] [] := Fd.bindsN fun _ _ _ _ _ _ us hl => match us, hl with | [_, _], _ => rfl
  refine ⟨oe, (show xfl "BadEvents" = (["events"] : List Str) by decide +kernel), (T.glo 37), _, fd, "self", "events", me.at_, beq_iff_eq.mp me.fn, ?_, b⟩
  exact ok_x1 Fd Sc oe (noB_ok (T.says.fact 57 (q := fun K => noB K (He.ga K "BadEvents") "events"))) (by first | exact Or.inl rfl | exact Or.inr (Or.inl rfl)) (by first | exact Or.inl rfl | exact Or.inr (Or.inl rfl))
theorem x1_BadSpan (T : Txt K mg) : X1 (Gm K) P w mg base "BadSpan" "index" := by
  obtain ⟨fd, Fd⟩ := T.says.def_ 27
  have oe := oexB_ok (T.says.fact 58 (q := fun K => oexB K (He.ga K "BadSpan")))
  have me := He.meth_ok (x := "BadSpan") (m := "__init__") (T.says.fact 59)
  have Sc : FnScope ["self", "index"] ["self", "index"] (defScope (inClass (top 7) 0)) := ⟨rfl, rfl, rfl, by decide +kernel, rfl, by decide +kernel, by decide +kernel⟩
  have b : Binds K fd ["self", "index"] [] := Fd.bindsN fun _ _ _ _ _ _ us hl => match us, hl with | [_, _], _ => rfl
  refine ⟨oe, (show xfl "BadSpan" = (["index"] : List Str) by decide +kernel), (T.glo 38), _, fd, "self", "index", me.at_, beq_iff_eq.mp me.fn, ?_, b⟩
  exact ok_x1 Fd Sc oe (noB_ok (T.says.fact 60 (q := fun K => noB K (He.ga K "BadSpan") "index"))) (by first | exact Or.inl rfl | exact Or.inr (Or.inl rfl)) (by first | exact Or.inl rfl | exact Or.inr (Or.inl rfl))
theorem x1_BadNumber (T : Txt K mg) : X1 (Gm K) P w mg base "BadNumber" "value" := by
  obtain ⟨fd, Fd⟩ := T.says.def_ 28
  have oe := oexB_ok (T.says.fact 62 (q := fun K => oexB K (He.ga K "BadNumber")))
  have me := He.meth_ok (x := "BadNumber") (m := "__init__") (T.says.fact 63)
  have Sc : FnScope ["self", "value"] ["self", "value"] (defScope (inClass (top 4) 0)) := ⟨rfl, rfl, rfl, by decide +kernel, rfl, by decide +kernel, by decide +kernel⟩
  have b : Binds K fd ["self", "value"] [] := Fd.bindsN fun _ _ _ _ _ _ us hl => match us, hl with | [_, _], _ => rfl
  refine ⟨oe, (show xfl "BadNumber" = (["value"] : List Str) by decide +kernel), (T.glo 61), _, fd, "self", "value", me.at_, beq_iff_eq.mp me.fn, ?_, b⟩
  exact ok_x1 Fd Sc oe (noB_ok (T.says.fact 64 (q := fun K => noB K (He.ga K "BadNumber") "value"))) (by first | exact Or.inl rfl | exact Or.inr (Or.inl rfl)) (by first | exact Or.inl rfl | exact Or.inr (Or.inl rfl))
abbrev SbP (K : PySem.W.Frag) (z : Str × Str × Bool) : Prop := PySem.W.exmOne (Gm K).K (.ref ((Gm K).c z.1)) (.ref ((Gm K).c z.2.1)) = some z.2.2
theorem Txt.sb (T : Txt K mg) (h : Str) : ∀ E b, sb h E = some b → PySem.W.exmOne (Gm K).K (.ref ((Gm K).c E)) (.ref ((Gm K).c h)) = some b := fun E b e => tabS_ok (P := fun C n b => SbP K (C, n, b)) (all_cons (p := SbP K) (He.exm_ok (T.says.fact 66)) (all_cons (p := SbP K) (He.exm_ok (T.says.fact 71)) (all_cons (p := SbP K) (He.exm_ok (T.says.fact 76)) (all_cons (p := SbP K) (He.exm_ok (T.says.fact 81)) (by simp))))) e
abbrev XkP (K : PySem.W.Frag) (z : Str × CK × Bool) : Prop := L2.ExcC (Gm K).K ((Gm K).c z.1) ∧ PySem.W.kitOne (Gm K).K (.ref ((Gm K).c z.1)) (z.2.1.u (Gm K)) = some z.2.2
theorem Txt.xk (T : Txt K mg) (U : CK) : ∀ E b, xk E U = some b → L2.ExcC (Gm K).K ((Gm K).c E) ∧ PySem.W.kitOne (Gm K).K (.ref ((Gm K).c E)) (U.u (Gm K)) = some b := fun E b e => tabX_ok (P := fun C U b => XkP K (C, U, b)) (all_cons (p := XkP K) ⟨excB_ok (T.says.fact 65 (q := fun K => excB K (He.ga K "BadBeat"))), kitB_ok (T.says.fact 67 (q := fun K => kitB (Gm K) "BadBeat" (.own "BadBeat") true))⟩ (all_cons (p := XkP K) ⟨excB_ok (T.says.fact 65 (q := fun K => excB K (He.ga K "BadBeat"))), kitB_ok (T.says.fact 68 (q := fun K => kitB (Gm K) "BadBeat" (.own "BadEvents") false))⟩ (all_cons (p := XkP K) ⟨excB_ok (T.says.fact 65 (q := fun K => excB K (He.ga K "BadBeat"))), kitB_ok (T.says.fact 69 (q := fun K => kitB (Gm K) "BadBeat" (.own "BadSpan") false))⟩ (all_cons (p := XkP K) ⟨excB_ok (T.says.fact 70 (q := fun K => excB K (He.ga K "BadEvents"))), kitB_ok (T.says.fact 72 (q := fun K => kitB (Gm K) "BadEvents" (.own "BadBeat") false))⟩ (all_cons (p := XkP K) ⟨excB_ok (T.says.fact 70 (q := fun K => excB K (He.ga K "BadEvents"))), kitB_ok (T.says.fact 73 (q := fun K => kitB (Gm K) "BadEvents" (.own "BadEvents") true))⟩ (all_cons (p := XkP K) ⟨excB_ok (T.says.fact 70 (q := fun K => excB K (He.ga K "BadEvents"))), kitB_ok (T.says.fact 74 (q := fun K => kitB (Gm K) "BadEvents" (.own "BadSpan") false))⟩ (all_cons (p := XkP K) ⟨excB_ok (T.says.fact 75 (q := fun K => excB K (He.ga K "BadSpan"))), kitB_ok (T.says.fact 77 (q := fun K => kitB (Gm K) "BadSpan" (.own "BadBeat") false))⟩ (all_cons (p := XkP K) ⟨excB_ok (T.says.fact 75 (q := fun K => excB K (He.ga K "BadSpan"))), kitB_ok (T.says.fact 78 (q := fun K => kitB (Gm K) "BadSpan" (.own "BadEvents") false))⟩ (all_cons (p := XkP K) ⟨excB_ok (T.says.fact 75 (q := fun K => excB K (He.ga K "BadSpan"))), kitB_ok (T.says.fact 79 (q := fun K => kitB (Gm K) "BadSpan" (.own "BadSpan") true))⟩ (all_cons (p := XkP K) ⟨excB_ok (T.says.fact 80 (q := fun K => excB K (He.ga K "BadNumber"))), kitB_ok (T.says.fact 82 (q := fun K => kitB (Gm K) "BadNumber" (.own "BadBeat") false))⟩ (all_cons (p := XkP K) ⟨excB_ok (T.says.fact 80 (q := fun K => excB K (He.ga K "BadNumber"))), kitB_ok (T.says.fact 83 (q := fun K => kitB (Gm K) "BadNumber" (.own "BadEvents") false))⟩ (all_cons (p := XkP K) ⟨excB_ok (T.says.fact 80 (q := fun K => excB K (He.ga K "BadNumber"))), kitB_ok (T.says.fact 84 (q := fun K => kitB (Gm K) "BadNumber" (.own "BadSpan") false))⟩ (by simp))))))))))))) e
theorem Txt.xf (T : Txt K mg) (x : Str) : ∀ E, x ∈ (Gm K).xfl E → XfC (Gm K).K ((Gm K).c E) ∧ PySem.W.findIn (Gm K).K (.ref ((Gm K).c E)) x = some none := by
  intro E h
  have h : x ∈ Mi_k02.xfl E := h
  unfold Mi_k02.xfl at h
  split at h
  · rename_i c; subst c; rw [List.mem_singleton.mp h]; exact ⟨excB_xf (T.says.fact 65 (q := fun K => excB K (He.ga K "BadBeat"))), noB_ok (T.says.fact 54 (q := fun K => noB K (He.ga K "BadBeat") "beat"))⟩
  split at h
  · rename_i c; subst c; rw [List.mem_singleton.mp h]; exact ⟨excB_xf (T.says.fact 70 (q := fun K => excB K (He.ga K "BadEvents"))), noB_ok (T.says.fact 57 (q := fun K => noB K (He.ga K "BadEvents") "events"))⟩
  split at h
  · rename_i c; subst c; rw [List.mem_singleton.mp h]; exact ⟨excB_xf (T.says.fact 75 (q := fun K => excB K (He.ga K "BadSpan"))), noB_ok (T.says.fact 60 (q := fun K => noB K (He.ga K "BadSpan") "index"))⟩
  split at h
  · rename_i c; subst c; rw [List.mem_singleton.mp h]; exact ⟨excB_xf (T.says.fact 80 (q := fun K => excB K (He.ga K "BadNumber"))), noB_ok (T.says.fact 64 (q := fun K => noB K (He.ga K "BadNumber") "value"))⟩
  cases h
/-! ### each def keeps its mirror's promise -/
theorem sc__law_source : FnScope ["_law_script", "_law_k", "_law_first"] ["_law_script", "_law_k"] (defScope (top 26)) := ⟨rfl, rfl, rfl, by decide +kernel, rfl, by decide +kernel, by decide +kernel⟩
theorem ok__law_source (T : Txt K mg) : ∃ fd, FnOk P w K mg base (L2.CX P w) 1 (He.ga K "_law_source") fd ["_law_script", "_law_k"] (spOf (Gm K) 2 f__law_source) ∧ Binds K fd ["_law_script", "_law_k"] [] ∧ PySem.W.keepIn K (.ref (He.ga K "_law_source")) = true := by
  obtain ⟨fd, Fd⟩ := T.says.def_ 0
  refine ⟨fd, ?_, Fd.bindsN fun _ _ _ _ _ _ us hl => match us, hl with | [_, _], _ => rfl, Fd.kp⟩
  refine ok_def (Γ := Gm K) (n := 3) (m := b__law_source) rfl Fd sc__law_source rfl fun cdv A outer s H E0 hr => ?_
  unfold b__law_source
  exact (qs_cons (qs_if (qt_cmp op_lt ok_cmp (q_var 1) (q_callB cr_len ok_len (T.free 0) (by decide +kernel) (qa_cons (q_var 0) qa_nil)) (nomark _)) (qs_one (qs_ret (q_lst (qa_cons (q_ix ix_seq ok_ix (q_var 0) (q_var 1) (fun _ _ => rfl)) (qa_cons (q_callTy call_int1 ok_int (T.free 1) (by decide +kernel) (qa_cons (q_cmp op_ge ok_cmp (q_ix ix_seq ok_ix (q_var 0) (q_var 1) (fun _ _ => rfl)) (q_op op_pow ok_pow q_int q_int) (nomark _)) qa_nil)) (qa_cons q_int (qa_cons (q_op op_modN ok_mod (q_callTy call_int1 ok_int (T.free 1) (by decide +kernel) (qa_cons (q_ix ix_seq ok_ix (q_var 0) (q_var 1) (fun _ _ => rfl)) qa_nil)) q_int) qa_nil))))))) qs_nil)
      (qs_cons (qs_set (i := 2) sc__law_source.nd q_int)
      (qs_cons (qs_if (qt_cmp op_gt ok_cmp (q_callB cr_len ok_len (T.free 0) (by decide +kernel) (qa_cons (q_var 0) qa_nil)) q_int (nomark _)) (qs_one (qs_set (i := 2) sc__law_source.nd (q_op op_modN ok_mod (q_callTy call_int1 ok_int (T.free 1) (by decide +kernel) (qa_cons (q_ix ix_seq ok_ix (q_var 0) q_int (fun _ _ => rfl)) qa_nil)) q_int))) qs_nil)
      (qs_one (qs_ret (q_lst (qa_cons q_int (qa_cons q_int (qa_cons q_int (qa_cons (q_op or_add ok_add (q_op or_add ok_add (q_var 2) (q_op or_mul ok_mul q_int (q_var 1))) (q_callB cr_len ok_len (T.free 0) (by decide +kernel) (qa_cons (q_var 0) qa_nil))) qa_nil))))))))))
theorem sc_is_integer : FnScope ["thing"] ["thing"] (defScope (top 9)) := ⟨rfl, rfl, rfl, by decide +kernel, rfl, by decide +kernel, by decide +kernel⟩
theorem ok_is_integer (T : Txt K mg) : ∃ fd, FnOk P w K mg base (L2.CX P w) 1 (He.ga K "is_integer") fd ["thing"] (spOf (Gm K) 1 f_is_integer) ∧ Binds K fd ["thing"] [] ∧ PySem.W.keepIn K (.ref (He.ga K "is_integer")) = true := by
  obtain ⟨fd, Fd⟩ := T.says.def_ 1
  refine ⟨fd, ?_, Fd.bindsN fun _ _ _ _ _ _ us hl => match us, hl with | [_], _ => rfl, Fd.kp⟩
  refine ok_def (Γ := Gm K) (n := 1) (m := b_is_integer) rfl Fd sc_is_integer rfl fun cdv A outer s H E0 hr => ?_
  unfold b_is_integer
  exact (qs_one (qs_ret (q_and (q_isi (T := (.bi "int")) rfl T.ins (T.is_ 5) (T.free 4) (q_var 0) (pe_bltn (v := .ty "int") rfl (T.free 1) (by decide +kernel) rfl)) (q_one (q_not (q_isi (T := (.bi "bool")) rfl T.ins (T.is_ 3) (T.free 4) (q_var 0) (pe_bltn (v := .ty "bool") rfl (T.free 2) (by decide +kernel) rfl)))))))
theorem sc_is_number : FnScope ["thing"] ["thing"] (defScope (top 11)) := ⟨rfl, rfl, rfl, by decide +kernel, rfl, by decide +kernel, by decide +kernel⟩
theorem ok_is_number (T : Txt K mg) : ∃ fd, FnOk P w K mg base (L2.CX P w) 2 (He.ga K "is_number") fd ["thing"] (spOf (Gm K) 1 f_is_number) ∧ Binds K fd ["thing"] [] ∧ PySem.W.keepIn K (.ref (He.ga K "is_number")) = true := by
  obtain ⟨fd, Fd⟩ := T.says.def_ 2
  obtain ⟨d_is_integer, G_is_integer, b_is_integer, k_is_integer⟩ := ok_is_integer (P := P) (w := w) (base := base) T
  refine ⟨fd, ?_, Fd.bindsN fun _ _ _ _ _ _ us hl => match us, hl with | [_], _ => rfl, Fd.kp⟩
  refine ok_def (Γ := Gm K) (n := 1) (m := b_is_number) rfl Fd sc_is_number rfl fun cdv A outer s H E0 hr => ?_
  unfold b_is_number
  exact (qs_one (qs_ret (q_or (q_call G_is_integer (hr.mono (by decide : 1 ≤ 1)) (T.glo 8) k_is_integer b_is_integer (takes_of rfl rfl rfl rfl) (qa_cons (q_var 0) qa_nil)) (q_one (q_isi (T := (.own "Ratio")) rfl T.ins (T.is_ 7) (T.free 4) (q_var 0) (pe_glob (v := .ref (He.ga K "Ratio")) rfl (T.glo 6) rfl))))))
theorem sc_top_of : FnScope ["number"] ["number"] (defScope (top 12)) := ⟨rfl, rfl, rfl, by decide +kernel, rfl, by decide +kernel, by decide +kernel⟩
theorem ok_top_of (T : Txt K mg) : ∃ fd, FnOk P w K mg base (L2.CX P w) 1 (He.ga K "top_of") fd ["number"] (spOf (Gm K) 1 f_top_of) ∧ Binds K fd ["number"] [] ∧ PySem.W.keepIn K (.ref (He.ga K "top_of")) = true := by
  obtain ⟨fd, Fd⟩ := T.says.def_ 3
  refine ⟨fd, ?_, Fd.bindsN fun _ _ _ _ _ _ us hl => match us, hl with | [_], _ => rfl, Fd.kp⟩
  refine ok_def (Γ := Gm K) (n := 1) (m := b_top_of) rfl Fd sc_top_of rfl fun cdv A outer s H E0 hr => ?_
  unfold b_top_of
  exact (qs_one (qs_ret (q_ifE (qt_val (q_isi (T := (.own "Ratio")) rfl T.ins (T.is_ 7) (T.free 4) (q_var 0) (pe_glob (v := .ref (He.ga K "Ratio")) rfl (T.glo 6) rfl))) (q_fld T.pl rfl (q_var 0)) (q_var 0))))
theorem sc_bottom_of : FnScope ["number"] ["number"] (defScope (top 13)) := ⟨rfl, rfl, rfl, by decide +kernel, rfl, by decide +kernel, by decide +kernel⟩
theorem ok_bottom_of (T : Txt K mg) : ∃ fd, FnOk P w K mg base (L2.CX P w) 1 (He.ga K "bottom_of") fd ["number"] (spOf (Gm K) 1 f_bottom_of) ∧ Binds K fd ["number"] [] ∧ PySem.W.keepIn K (.ref (He.ga K "bottom_of")) = true := by
  obtain ⟨fd, Fd⟩ := T.says.def_ 4
  refine ⟨fd, ?_, Fd.bindsN fun _ _ _ _ _ _ us hl => match us, hl with | [_], _ => rfl, Fd.kp⟩
  refine ok_def (Γ := Gm K) (n := 1) (m := b_bottom_of) rfl Fd sc_bottom_of rfl fun cdv A outer s H E0 hr => ?_
  unfold b_bottom_of
  exact (qs_one (qs_ret (q_ifE (qt_val (q_isi (T := (.own "Ratio")) rfl T.ins (T.is_ 7) (T.free 4) (q_var 0) (pe_glob (v := .ref (He.ga K "Ratio")) rfl (T.glo 6) rfl))) (q_fld T.pl rfl (q_var 0)) q_int)))
theorem sc_Ratio___eq__ : FnScope ["self", "other"] ["self", "other"] (defScope (inClass (top 14) 8)) := ⟨rfl, rfl, rfl, by decide +kernel, rfl, by decide +kernel, by decide +kernel⟩
theorem ok_Ratio___eq__ (T : Txt K mg) : ∃ fd, FnOk P w K mg base (L2.CX P w) 3 (He.ma K (He.ga K "Ratio") "__eq__") fd ["self", "other"] (spOf (Gm K) 2 f_Ratio___eq__) ∧ Binds K fd ["self", "other"] [] ∧ PySem.W.keepIn K (.ref (He.ma K (He.ga K "Ratio") "__eq__")) = true := by
  obtain ⟨fd, Fd⟩ := T.says.def_ 5
  obtain ⟨d_is_number, G_is_number, b_is_number, k_is_number⟩ := ok_is_number (P := P) (w := w) (base := base) T
  obtain ⟨d_bottom_of, G_bottom_of, b_bottom_of, k_bottom_of⟩ := ok_bottom_of (P := P) (w := w) (base := base) T
  obtain ⟨d_top_of, G_top_of, b_top_of, k_top_of⟩ := ok_top_of (P := P) (w := w) (base := base) T
  refine ⟨fd, ?_, Fd.bindsN fun _ _ _ _ _ _ us hl => match us, hl with | [_, _], _ => rfl, Fd.kp⟩
  refine ok_def (Γ := Gm K) (n := 2) (m := b_Ratio___eq__) rfl Fd sc_Ratio___eq__ rfl fun cdv A outer s H E0 hr => ?_
  unfold b_Ratio___eq__
  exact (qs_cons (qs_if (qt_not (qt_val (q_call G_is_number (hr.mono (by decide : 2 ≤ 2)) (T.glo 9) k_is_number b_is_number (takes_of rfl rfl rfl rfl) (qa_cons (q_var 1) qa_nil)))) (qs_one (qs_ret q_bl)) qs_nil)
      (qs_one (qs_ret (q_and (q_cmp (or_eq rfl hr oe0_no) (ok_eq T.ins) (q_fld T.pl rfl (q_var 0)) (q_call G_top_of (hr.mono (by decide : 1 ≤ 2)) (T.glo 11) k_top_of b_top_of (takes_of rfl rfl rfl rfl) (qa_cons (q_var 1) qa_nil)) (nomark _)) (q_one (q_cmp (or_eq rfl hr oe0_no) (ok_eq T.ins) (q_fld T.pl rfl (q_var 0)) (q_call G_bottom_of (hr.mono (by decide : 1 ≤ 2)) (T.glo 10) k_bottom_of b_bottom_of (takes_of rfl rfl rfl rfl) (qa_cons (q_var 1) qa_nil)) (nomark _)))))))
theorem sc_Net___eq__ : FnScope ["self", "other"] ["self", "other"] (defScope (inClass (top 21) 1)) := ⟨rfl, rfl, rfl, by decide +kernel, rfl, by decide +kernel, by decide +kernel⟩
theorem ok_Net___eq__ (T : Txt K mg) : ∃ fd, FnOk P w K mg base (L2.CX P w) 1 (He.ma K (He.ga K "Net") "__eq__") fd ["self", "other"] (spOf (Gm K) 2 f_Net___eq__) ∧ Binds K fd ["self", "other"] [] ∧ PySem.W.keepIn K (.ref (He.ma K (He.ga K "Net") "__eq__")) = true := by
  obtain ⟨fd, Fd⟩ := T.says.def_ 6
  refine ⟨fd, ?_, Fd.bindsN fun _ _ _ _ _ _ us hl => match us, hl with | [_, _], _ => rfl, Fd.kp⟩
  refine ok_def (Γ := Gm K) (n := 2) (m := b_Net___eq__) rfl Fd sc_Net___eq__ rfl fun cdv A outer s H E0 hr => ?_
  unfold b_Net___eq__
  exact (qs_cons (qs_if (qt_not (qt_val (q_isi (T := (.own "Net")) rfl T.ins (T.is_ 13) (T.free 4) (q_var 1) (pe_glob (v := .ref (He.ga K "Net")) rfl (T.glo 12) rfl)))) (qs_one (qs_ret q_bl)) qs_nil)
      (qs_one (qs_ret (q_and (q_cmp (or_eq rfl hr oe0_no) (ok_eq T.ins) (q_fld T.pl rfl (q_var 0)) (q_fld T.pl rfl (q_var 1)) (nomark _)) (q_and (q_cmp (or_eq rfl hr oe0_no) (ok_eq T.ins) (q_fld T.pl rfl (q_var 0)) (q_fld T.pl rfl (q_var 1)) (nomark _)) (q_one (q_cmp (or_eq rfl hr oe0_no) (ok_eq T.ins) (q_fld T.pl rfl (q_var 0)) (q_fld T.pl rfl (q_var 1)) (nomark _))))))))
theorem eqc (T : Txt K mg) : ∀ C m, oe C = some m → EqC (Gm K) P w mg base cs 3 C m := by
  intro C m e
  unfold oe at e
  split at e
  · rename_i c; subst c; cases e
    obtain ⟨fd, G1, b1, _⟩ := ok_Ratio___eq__ (P := P) (w := w) (base := base) T
    have me := He.meth_ok (x := "Ratio") (m := "__eq__") (T.says.fact 92)
    exact ⟨⟨_, fd, _, me.at_, me.fn, G1.mono (by decide), b1⟩, nfB_ok (T.says.fact 93 (q := fun K => nfB (Gm K) cs "Ratio"))⟩
  split at e
  · rename_i c; subst c; cases e
    obtain ⟨fd, G1, b1, _⟩ := ok_Net___eq__ (P := P) (w := w) (base := base) T
    have me := He.meth_ok (x := "Net") (m := "__eq__") (T.says.fact 95)
    exact ⟨⟨_, fd, _, me.at_, me.fn, G1.mono (by decide), b1⟩, nfB_ok (T.says.fact 96 (q := fun K => nfB (Gm K) cs "Net"))⟩
  cases e
theorem sc__law_draw : FnScope ["_law_source_here", "_law_many", "_law_number", "_law_mixed"] ["_law_source_here", "_law_many"] (defScope (top 27)) := ⟨rfl, rfl, rfl, by decide +kernel, rfl, by decide +kernel, by decide +kernel⟩
theorem ok__law_draw (T : Txt K mg) : ∃ fd, FnOk P w K mg base (L2.CX P w) 4 (He.ga K "_law_draw") fd ["_law_source_here", "_law_many"] (spOf (Gm K) 2 f__law_draw) ∧ Binds K fd ["_law_source_here", "_law_many"] [] ∧ PySem.W.keepIn K (.ref (He.ga K "_law_draw")) = true := by
  obtain ⟨fd, Fd⟩ := T.says.def_ 7
  refine ⟨fd, ?_, Fd.bindsN fun _ _ _ _ _ _ us hl => match us, hl with | [_, _], _ => rfl, Fd.kp⟩
  refine ok_def (Γ := Gm K) (n := 4) (m := b__law_draw) rfl Fd sc__law_draw rfl fun cdv A outer s H E0 hr => ?_
  unfold b__law_draw
  exact (qs_cons (qs_set (i := 2) sc__law_draw.nd (q_ix ix_seq ok_ix (q_var 0) q_int (fun _ _ => rfl)))
      (qs_cons (qs_if (PW.pt (qw_and (qt_cmp (or_eqZ rfl (hr.mono (by decide : 3 ≤ 3)) (eqc T)) (ok_eqZ T.ins) (q_ix ix_seq ok_ix (q_var 0) q_int (fun _ _ => rfl)) q_int (nomark _)) (qw_and1 (qt_cmp op_gt ok_cmp (q_var 2) q_int (nomark _))))) (qs_cons (qs_asg (q_op op_fdivA ok_div (q_var 2) (q_var 1)) (qg_sub (W := WF E0) (q_var 0) q_int))
      (qs_one (qs_ret (q_op op_modN ok_mod (q_callTy call_int1 ok_int (T.free 1) (by decide +kernel) (qa_cons (q_var 2) qa_nil)) (q_var 1))))) qs_nil)
      (qs_cons (qs_asg (q_op or_add ok_add (q_ix ix_seq ok_ix (q_var 0) q_int (fun _ _ => rfl)) q_int) (qg_sub (W := WF E0) (q_var 0) q_int))
      (qs_cons (qs_set (i := 3) sc__law_draw.nd (q_op op_modN ok_mod (q_callTy call_int1 ok_int (T.free 1) (by decide +kernel) (qa_cons (q_op or_mul ok_mul (q_op or_add ok_add (q_op or_add ok_add (q_ix ix_seq ok_ix (q_var 0) q_int (fun _ _ => rfl)) (q_op or_mul ok_mul q_int (q_ix ix_seq ok_ix (q_var 0) q_int (fun _ _ => rfl)))) q_int) q_int) qa_nil)) q_int))
      (qs_cons (qs_set (i := 3) sc__law_draw.nd (q_op op_modN ok_mod (q_callTy call_int1 ok_int (T.free 1) (by decide +kernel) (qa_cons (q_op or_mul ok_mul (q_var 3) (q_op or_add ok_add (q_op op_fdivA ok_div (q_var 3) q_int) q_int)) qa_nil)) q_int))
      (qs_cons (qs_set (i := 3) sc__law_draw.nd (q_op op_modN ok_mod (q_callTy call_int1 ok_int (T.free 1) (by decide +kernel) (qa_cons (q_op or_mul ok_mul (q_var 3) (q_op or_add ok_add (q_op op_fdivA ok_div (q_var 3) q_int) q_int)) qa_nil)) q_int))
      (qs_one (qs_ret (q_op op_modN ok_mod (q_callTy call_int1 ok_int (T.free 1) (by decide +kernel) (qa_cons (q_var 3) qa_nil)) (q_var 1))))))))))
theorem nec (T : Txt K mg) : ∀ C m, oe C = some m → NeC (Gm K) P w mg base 3 C m := by
  intro C m e
  unfold oe at e
  split at e
  · rename_i c; subst c; cases e
    obtain ⟨fd, G1, b1, _⟩ := ok_Ratio___eq__ (P := P) (w := w) (base := base) T
    exact ⟨_, fd, _, ownNeB_ok (T.says.fact 94 (q := fun K => ownNeB K (He.ga K "Ratio") (He.ma K (He.ga K "Ratio") "__eq__"))), G1.mono (by decide), b1⟩
  split at e
  · rename_i c; subst c; cases e
    obtain ⟨fd, G1, b1, _⟩ := ok_Net___eq__ (P := P) (w := w) (base := base) T
    exact ⟨_, fd, _, ownNeB_ok (T.says.fact 97 (q := fun K => ownNeB K (He.ga K "Net") (He.ma K (He.ga K "Net") "__eq__"))), G1.mono (by decide), b1⟩
  cases e
theorem sc__law_rows : FnScope ["_law_source_here", "_law_beat", "_law_events", "_law_many", "_law_found", "_law_k", "_law_one", "_law_other", "_law_low", "_law_high", "_law_span"] ["_law_source_here", "_law_beat", "_law_events", "_law_many"] (defScope (top 34)) := ⟨rfl, rfl, rfl, by decide +kernel, rfl, by decide +kernel, by decide +kernel⟩
theorem ok__law_rows (T : Txt K mg) : ∃ fd, FnOk P w K mg base (L2.CX P w) 5 (He.ga K "_law_rows") fd ["_law_source_here", "_law_beat", "_law_events", "_law_many"] (spOf (Gm K) 4 f__law_rows) ∧ Binds K fd ["_law_source_here", "_law_beat", "_law_events", "_law_many"] [] ∧ PySem.W.keepIn K (.ref (He.ga K "_law_rows")) = true := by
  obtain ⟨fd, Fd⟩ := T.says.def_ 8
  obtain ⟨d__law_draw, G__law_draw, b__law_draw, k__law_draw⟩ := ok__law_draw (P := P) (w := w) (base := base) T
  refine ⟨fd, ?_, Fd.bindsN fun _ _ _ _ _ _ us hl => match us, hl with | [_, _, _, _], _ => rfl, Fd.kp⟩
  refine ok_def (Γ := Gm K) (n := 11) (m := b__law_rows) rfl Fd sc__law_rows rfl fun cdv A outer s H E0 hr => ?_
  unfold b__law_rows
  exact (qs_cons (qs_set (i := 4) sc__law_rows.nd (q_lst qa_nil))
      (qs_cons (qs_for (passes_of rfl) rfl (qi_rng1 (T.free 14) (qa_cons (q_var 3) qa_nil)) (qg_name (i := 5) sc__law_rows.nd) (qs_cons (qs_set (i := 6) sc__law_rows.nd (q_call G__law_draw (hr.mono (by decide : 4 ≤ 4)) (T.glo 15) k__law_draw b__law_draw (takes_of rfl rfl rfl rfl) (qa_cons (q_var 0) (qa_cons (q_var 2) qa_nil))))
      (qs_cons (qs_set (i := 7) sc__law_rows.nd (q_op op_modN ok_mod (q_callTy call_int1 ok_int (T.free 1) (by decide +kernel) (qa_cons (q_op or_add ok_add (q_op or_add ok_add (q_var 6) q_int) (q_call G__law_draw (hr.mono (by decide : 4 ≤ 4)) (T.glo 15) k__law_draw b__law_draw (takes_of rfl rfl rfl rfl) (qa_cons (q_var 0) (qa_cons (q_callB (call_max2 rfl) ok_max2 (T.free 16) (by decide +kernel) (qa_cons q_int (qa_cons (q_op op_sub ok_sub (q_var 2) q_int) qa_nil))) qa_nil)))) qa_nil)) (q_var 2)))
      (qs_cons (qs_set (i := 8) sc__law_rows.nd (q_call G__law_draw (hr.mono (by decide : 4 ≤ 4)) (T.glo 15) k__law_draw b__law_draw (takes_of rfl rfl rfl rfl) (qa_cons (q_var 0) (qa_cons (q_op or_mul ok_mul q_int (q_var 1)) qa_nil))))
      (qs_cons (qs_set (i := 9) sc__law_rows.nd (q_callB (call_min2 rfl) ok_min2 (T.free 17) (by decide +kernel) (qa_cons q_int (qa_cons (q_op or_add ok_add (q_var 8) (q_call G__law_draw (hr.mono (by decide : 4 ≤ 4)) (T.glo 15) k__law_draw b__law_draw (takes_of rfl rfl rfl rfl) (qa_cons (q_var 0) (qa_cons (q_op op_sub ok_sub (q_var 1) q_int) qa_nil)))) qa_nil))))
      (qs_cons (qs_set (i := 10) sc__law_rows.nd (q_tup (qa_cons (q_var 6) (qa_cons (q_var 7) (qa_cons (q_callB (call_min2 rfl) ok_min2 (T.free 17) (by decide +kernel) (qa_cons (q_var 8) (qa_cons (q_var 9) qa_nil))) (qa_cons (q_var 9) qa_nil))))))
      (qs_one (qs_if (PW.pt (qw_and (qt_cmp (or_ne (k := 3) rfl (hr.mono (by decide : 4 ≤ 4)) (nec T)) ok_neX (q_var 6) (q_var 7) (nomark _)) (qw_and1 (qt_cmp (or_notInZ rfl (hr.mono (by decide : 0 ≤ 4))) ok_inZ (q_var 10) (q_var 4) (by rfl))))) (qs_one (qs_expr (q_bm rfl ok_append PySem.F.plainAttrs_list PySem.F.slot_list_append PySem.F.type_list_append mt_append (q_var 4) (qa_cons (q_var 10) qa_nil)))) qs_nil))))))))
      (qs_one (qs_ret (q_var 4)))))
theorem sc__law_integer : FnScope ["_law_thing"] ["_law_thing"] (defScope (top 28)) := ⟨rfl, rfl, rfl, by decide +kernel, rfl, by decide +kernel, by decide +kernel⟩
theorem ok__law_integer (T : Txt K mg) : ∃ fd, FnOk P w K mg base (L2.CX P w) 1 (He.ga K "_law_integer") fd ["_law_thing"] (spOf (Gm K) 1 f__law_integer) ∧ Binds K fd ["_law_thing"] [] ∧ PySem.W.keepIn K (.ref (He.ga K "_law_integer")) = true := by
  obtain ⟨fd, Fd⟩ := T.says.def_ 9
  refine ⟨fd, ?_, Fd.bindsN fun _ _ _ _ _ _ us hl => match us, hl with | [_], _ => rfl, Fd.kp⟩
  refine ok_def (Γ := Gm K) (n := 1) (m := b__law_integer) rfl Fd sc__law_integer rfl fun cdv A outer s H E0 hr => ?_
  unfold b__law_integer
  exact (qs_one (qs_ret (q_and (q_isi (T := (.bi "int")) rfl T.ins (T.is_ 5) (T.free 4) (q_var 0) (pe_bltn (v := .ty "int") rfl (T.free 1) (by decide +kernel) rfl)) (q_one (q_not (q_isi (T := (.bi "bool")) rfl T.ins (T.is_ 3) (T.free 4) (q_var 0) (pe_bltn (v := .ty "bool") rfl (T.free 2) (by decide +kernel) rfl)))))))
theorem sc__law_is_span : FnScope ["_law_thing", "_law_beat", "_law_events", "_law_item", "_law_one", "_law_other", "_law_low", "_law_high"] ["_law_thing", "_law_beat", "_law_events"] (defScope (top 32)) := ⟨rfl, rfl, rfl, by decide +kernel, rfl, by decide +kernel, by decide +kernel⟩
theorem ok__law_is_span (T : Txt K mg) : ∃ fd, FnOk P w K mg base (L2.CX P w) 5 (He.ga K "_law_is_span") fd ["_law_thing", "_law_beat", "_law_events"] (spOf (Gm K) 3 f__law_is_span) ∧ Binds K fd ["_law_thing", "_law_beat", "_law_events"] [] ∧ PySem.W.keepIn K (.ref (He.ga K "_law_is_span")) = true := by
  obtain ⟨fd, Fd⟩ := T.says.def_ 10
  obtain ⟨d__law_integer, G__law_integer, b__law_integer, k__law_integer⟩ := ok__law_integer (P := P) (w := w) (base := base) T
  refine ⟨fd, ?_, Fd.bindsN fun _ _ _ _ _ _ us hl => match us, hl with | [_, _, _], _ => rfl, Fd.kp⟩
  refine ok_def (Γ := Gm K) (n := 8) (m := b__law_is_span) rfl Fd sc__law_is_span rfl fun cdv A outer s H E0 hr => ?_
  unfold b__law_is_span
  exact (qs_cons (qs_if (PW.pt (qw_or (qt_not (qt_val (q_isi (T := (.bi "tuple")) rfl T.ins (T.is_ 19) (T.free 4) (q_var 0) (pe_bltn (v := .ty "tuple") rfl (T.free 18) (by decide +kernel) rfl)))) (qw_or1 (qt_cmp (or_ne (k := 3) rfl (hr.mono (by decide : 4 ≤ 4)) (nec T)) ok_neX (q_callB cr_len ok_len (T.free 0) (by decide +kernel) (qa_cons (q_var 0) qa_nil)) q_int (nomark _))))) (qs_one (qs_ret q_bl)) qs_nil)
      (qs_cons (qs_if (qt_not (qt_val (q_callB (cr_all rfl) ok_all (T.free 21) (by decide +kernel) (qa_cons (q_lc (own := [("_law_item", 3)]) (g := (.nm 3)) rfl rfl sc__law_is_span.nd (qi_seq rfl (q_var 0)) (blkOk_by (N := ["_law_thing", "_law_beat", "_law_events", "_law_item", "_law_one", "_law_other", "_law_low", "_law_high"]) (sc := defScope (top 32)) (by decide +kernel)) (fun _ _ _ _ _ => (qr_nm (Γ := Gm K) (i := 3) sc__law_is_span.nd)) (fun _ _ _ _ _ => qts_nil) (fun _ _ _ _ _ => (q_call G__law_integer (hr.mono (by decide : 1 ≤ 4)) (T.glo 20) k__law_integer b__law_integer takes0 (qa_cons (q_var 3) qa_nil)))) qa_nil)))) (qs_one (qs_ret q_bl)) qs_nil)
      (qs_cons (qs_asg (q_var 0) (qg_tup rfl rfl (qgs_cons (qg_name (i := 4) sc__law_is_span.nd) (qgs_cons (qg_name (i := 5) sc__law_is_span.nd) (qgs_cons (qg_name (i := 6) sc__law_is_span.nd) (qgs_cons (qg_name (i := 7) sc__law_is_span.nd) qgs_nil))))))
      (qs_cons (qs_if (PW.pt (qw_or (qt_cmp op_lt ok_cmp (q_var 4) q_int (nomark _)) (qw_or (qt_cmp op_lt ok_cmp (q_var 5) q_int (nomark _)) (qw_or (qt_cmp op_ge ok_cmp (q_var 4) (q_var 2) (nomark _)) (qw_or (qt_cmp op_ge ok_cmp (q_var 5) (q_var 2) (nomark _)) (qw_or1 (qt_cmp (or_eqZ rfl (hr.mono (by decide : 3 ≤ 4)) (eqc T)) (ok_eqZ T.ins) (q_var 4) (q_var 5) (nomark _)))))))) (qs_one (qs_ret q_bl)) qs_nil)
      (qs_one (qs_ret (q_and (q_cmp op_le ok_cmp q_int (q_var 6) (nomark _)) (q_and (q_cmp op_le ok_cmp (q_var 6) (q_var 7) (nomark _)) (q_and (q_cmp op_le ok_cmp (q_var 7) q_int (nomark _)) (q_one (q_cmp op_le ok_cmp (q_op op_sub ok_sub (q_var 7) (q_var 6)) (q_op op_sub ok_sub (q_var 1) q_int) (nomark _))))))))))))
theorem sc__law_due : FnScope ["_law_beat", "_law_events", "_law_spans", "_law_seen", "_law_index"] ["_law_beat", "_law_events", "_law_spans"] (defScope (top 33)) := ⟨rfl, rfl, rfl, by decide +kernel, rfl, by decide +kernel, by decide +kernel⟩
theorem ok__law_due (T : Txt K mg) : ∃ fd, FnOk P w K mg base (L2.CX P w) 6 (He.ga K "_law_due") fd ["_law_beat", "_law_events", "_law_spans"] (spOf (Gm K) 3 f__law_due) ∧ Binds K fd ["_law_beat", "_law_events", "_law_spans"] [] ∧ PySem.W.keepIn K (.ref (He.ga K "_law_due")) = true := by
  obtain ⟨fd, Fd⟩ := T.says.def_ 11
  obtain ⟨d__law_integer, G__law_integer, b__law_integer, k__law_integer⟩ := ok__law_integer (P := P) (w := w) (base := base) T
  obtain ⟨d__law_is_span, G__law_is_span, b__law_is_span, k__law_is_span⟩ := ok__law_is_span (P := P) (w := w) (base := base) T
  refine ⟨fd, ?_, Fd.bindsN fun _ _ _ _ _ _ us hl => match us, hl with | [_, _, _], _ => rfl, Fd.kp⟩
  refine ok_def (Γ := Gm K) (n := 5) (m := b__law_due) rfl Fd sc__law_due rfl fun cdv A outer s H E0 hr => ?_
  unfold b__law_due
  exact (qs_cons (qs_if (PW.pt (qw_or (qt_not (qt_val (q_call G__law_integer (hr.mono (by decide : 1 ≤ 5)) (T.glo 20) k__law_integer b__law_integer (takes_of rfl rfl rfl rfl) (qa_cons (q_var 0) qa_nil)))) (qw_or (qt_cmp op_lt ok_cmp (q_var 0) q_int (nomark _)) (qw_or1 (qt_cmp op_gt ok_cmp (q_var 0) q_int (nomark _)))))) (qs_one (qs_ret (q_tup (qa_cons (q_tup (qa_cons q_bl (qa_cons q_bl (qa_cons q_bl qa_nil)))) (qa_cons (q_var 0) qa_nil))))) qs_nil)
      (qs_cons (qs_if (PW.pt (qw_or (qt_not (qt_val (q_call G__law_integer (hr.mono (by decide : 1 ≤ 5)) (T.glo 20) k__law_integer b__law_integer (takes_of rfl rfl rfl rfl) (qa_cons (q_var 1) qa_nil)))) (qw_or (qt_cmp op_lt ok_cmp (q_var 1) q_int (nomark _)) (qw_or1 (qt_cmp op_gt ok_cmp (q_var 1) q_int (nomark _)))))) (qs_one (qs_ret (q_tup (qa_cons (q_tup (qa_cons q_bl (qa_cons q_bl (qa_cons q_bl qa_nil)))) (qa_cons (q_var 1) qa_nil))))) qs_nil)
      (qs_cons (qs_if (PW.pt (qw_or (qt_not (qt_val (q_isiT rfl T.ins (all_cons (T.is_ 23) (all_cons (T.is_ 19) (fun _ h => nomatch h))) (T.free 4) (q_var 2) (.cons (pe_bltn (v := .ty "list") rfl (T.free 22) (by decide +kernel) rfl) (.cons (pe_bltn (v := .ty "tuple") rfl (T.free 18) (by decide +kernel) rfl) .nil rfl) rfl)))) (qw_or1 (qt_cmp op_gt ok_cmp (q_callB cr_len ok_len (T.free 0) (by decide +kernel) (qa_cons (q_var 2) qa_nil)) q_int (nomark _))))) (qs_one (qs_ret (q_tup (qa_cons (q_tup (qa_cons q_bl (qa_cons q_bl (qa_cons q_bl qa_nil)))) (qa_cons (q_un un_neg ok_neg q_int) qa_nil))))) qs_nil)
      (qs_cons (qs_set (i := 3) sc__law_due.nd (q_lst qa_nil))
      (qs_cons (qs_for (passes_of rfl) rfl (qi_rng1 (T.free 14) (qa_cons (q_callB cr_len ok_len (T.free 0) (by decide +kernel) (qa_cons (q_var 2) qa_nil)) qa_nil)) (qg_name (i := 4) sc__law_due.nd) (qs_cons (qs_if (PW.pt (qw_or (qt_not (qt_val (q_call G__law_is_span (hr.mono (by decide : 5 ≤ 5)) (T.glo 24) k__law_is_span b__law_is_span (takes_of rfl rfl rfl rfl) (qa_cons (q_ix ix_seq ok_ix (q_var 2) (q_var 4) (fun _ _ => rfl)) (qa_cons (q_var 0) (qa_cons (q_var 1) qa_nil)))))) (qw_or1 (qt_cmp (or_inZ rfl (hr.mono (by decide : 0 ≤ 5))) ok_inZ (q_ix ix_seq ok_ix (q_var 2) (q_var 4) (fun _ _ => rfl)) (q_var 3) (by rfl))))) (qs_one (qs_ret (q_tup (qa_cons (q_tup (qa_cons q_bl (qa_cons q_bl (qa_cons q_bl qa_nil)))) (qa_cons (q_var 4) qa_nil))))) qs_nil)
      (qs_one (qs_expr (q_bm rfl ok_append PySem.F.plainAttrs_list PySem.F.slot_list_append PySem.F.type_list_append mt_append (q_var 3) (qa_cons (q_ix ix_seq ok_ix (q_var 2) (q_var 4) (fun _ _ => rfl)) qa_nil))))))
      (qs_one (qs_ret q_non)))))))
theorem sc_is_below : FnScope ["limit", "thing"] ["limit", "thing"] (defScope (top 10)) := ⟨rfl, rfl, rfl, by decide +kernel, rfl, by decide +kernel, by decide +kernel⟩
theorem ok_is_below (T : Txt K mg) : ∃ fd, FnOk P w K mg base (L2.CX P w) 2 (He.ga K "is_below") fd ["limit", "thing"] (spOf (Gm K) 2 f_is_below) ∧ Binds K fd ["limit", "thing"] [] ∧ PySem.W.keepIn K (.ref (He.ga K "is_below")) = true := by
  obtain ⟨fd, Fd⟩ := T.says.def_ 12
  obtain ⟨d_is_integer, G_is_integer, b_is_integer, k_is_integer⟩ := ok_is_integer (P := P) (w := w) (base := base) T
  refine ⟨fd, ?_, Fd.bindsN fun _ _ _ _ _ _ us hl => match us, hl with | [_, _], _ => rfl, Fd.kp⟩
  refine ok_def (Γ := Gm K) (n := 2) (m := b_is_below) rfl Fd sc_is_below rfl fun cdv A outer s H E0 hr => ?_
  unfold b_is_below
  exact (qs_one (qs_ret (q_and (q_call G_is_integer (hr.mono (by decide : 1 ≤ 1)) (T.glo 8) k_is_integer b_is_integer (takes_of rfl rfl rfl rfl) (qa_cons (q_var 1) qa_nil)) (q_one (q_chain op_le ok_cmp op_lt ok_cmp q_int (q_var 1) (q_var 0))))))
theorem sc_is_span : FnScope ["beat", "events", "thing", "part", "i", "j", "low", "high"] ["beat", "events", "thing"] (defScope (top 23)) := ⟨rfl, rfl, rfl, by decide +kernel, rfl, by decide +kernel, by decide +kernel⟩
theorem ok_is_span (T : Txt K mg) : ∃ fd, FnOk P w K mg base (L2.CX P w) 5 (He.ga K "is_span") fd ["beat", "events", "thing"] (spOf (Gm K) 3 f_is_span) ∧ Binds K fd ["beat", "events", "thing"] [] ∧ PySem.W.keepIn K (.ref (He.ga K "is_span")) = true := by
  obtain ⟨fd, Fd⟩ := T.says.def_ 13
  obtain ⟨d_is_integer, G_is_integer, b_is_integer, k_is_integer⟩ := ok_is_integer (P := P) (w := w) (base := base) T
  obtain ⟨d_is_below, G_is_below, b_is_below, k_is_below⟩ := ok_is_below (P := P) (w := w) (base := base) T
  refine ⟨fd, ?_, Fd.bindsN fun _ _ _ _ _ _ us hl => match us, hl with | [_, _, _], _ => rfl, Fd.kp⟩
  refine ok_def (Γ := Gm K) (n := 8) (m := b_is_span) rfl Fd sc_is_span rfl fun cdv A outer s H E0 hr => ?_
  unfold b_is_span
  exact (qs_cons (qs_if (PW.pt (qw_or (qt_not (qt_val (q_isi (T := (.bi "tuple")) rfl T.ins (T.is_ 19) (T.free 4) (q_var 2) (pe_bltn (v := .ty "tuple") rfl (T.free 18) (by decide +kernel) rfl)))) (qw_or1 (qt_cmp (or_ne (k := 3) rfl (hr.mono (by decide : 4 ≤ 4)) (nec T)) ok_neX (q_callB cr_len ok_len (T.free 0) (by decide +kernel) (qa_cons (q_var 2) qa_nil)) q_int (nomark _))))) (qs_one (qs_ret q_bl)) qs_nil)
      (qs_cons (qs_if (qt_not (qt_val (q_callB (cr_all rfl) ok_all (T.free 21) (by decide +kernel) (qa_cons (q_lc (own := [("part", 3)]) (g := (.nm 3)) rfl rfl sc_is_span.nd (qi_seq rfl (q_var 2)) (blkOk_by (N := ["beat", "events", "thing", "part", "i", "j", "low", "high"]) (sc := defScope (top 23)) (by decide +kernel)) (fun _ _ _ _ _ => (qr_nm (Γ := Gm K) (i := 3) sc_is_span.nd)) (fun _ _ _ _ _ => qts_nil) (fun _ _ _ _ _ => (q_call G_is_integer (hr.mono (by decide : 1 ≤ 4)) (T.glo 8) k_is_integer b_is_integer takes0 (qa_cons (q_var 3) qa_nil)))) qa_nil)))) (qs_one (qs_ret q_bl)) qs_nil)
      (qs_cons (qs_asg (q_var 2) (qg_tup rfl rfl (qgs_cons (qg_name (i := 4) sc_is_span.nd) (qgs_cons (qg_name (i := 5) sc_is_span.nd) (qgs_cons (qg_name (i := 6) sc_is_span.nd) (qgs_cons (qg_name (i := 7) sc_is_span.nd) qgs_nil))))))
      (qs_cons (qs_if (PW.pt (qw_or (qt_not (qt_val (q_call G_is_below (hr.mono (by decide : 2 ≤ 4)) (T.glo 25) k_is_below b_is_below (takes_of rfl rfl rfl rfl) (qa_cons (q_var 1) (qa_cons (q_var 4) qa_nil))))) (qw_or (qt_not (qt_val (q_call G_is_below (hr.mono (by decide : 2 ≤ 4)) (T.glo 25) k_is_below b_is_below (takes_of rfl rfl rfl rfl) (qa_cons (q_var 1) (qa_cons (q_var 5) qa_nil))))) (qw_or1 (qt_cmp (or_eqZ rfl (hr.mono (by decide : 3 ≤ 4)) (eqc T)) (ok_eqZ T.ins) (q_var 4) (q_var 5) (nomark _)))))) (qs_one (qs_ret q_bl)) qs_nil)
      (qs_one (qs_ret (q_and (q_chain3 op_le ok_cmp op_le ok_cmp op_le ok_cmp q_int (q_var 6) (q_var 7) (q_gint (T.cint (x := "MOST_HIGH") (v := 2880) 26))) (q_one (q_cmp op_le ok_cmp (q_op op_sub ok_sub (q_var 7) (q_var 6)) (q_op op_sub ok_sub (q_var 0) q_int) (nomark _))))))))))
theorem sc_spans_fault : FnScope ["beat", "events", "thing", "index", "span"] ["beat", "events", "thing"] (defScope (top 24)) := ⟨rfl, rfl, rfl, by decide +kernel, rfl, by decide +kernel, by decide +kernel⟩
theorem ok_spans_fault (T : Txt K mg) : ∃ fd, FnOk P w K mg base (L2.CX P w) 6 (He.ga K "spans_fault") fd ["beat", "events", "thing"] (spOf (Gm K) 3 f_spans_fault) ∧ Binds K fd ["beat", "events", "thing"] [] ∧ PySem.W.keepIn K (.ref (He.ga K "spans_fault")) = true := by
  obtain ⟨fd, Fd⟩ := T.says.def_ 14
  obtain ⟨d_is_span, G_is_span, b_is_span, k_is_span⟩ := ok_is_span (P := P) (w := w) (base := base) T
  refine ⟨fd, ?_, Fd.bindsN fun _ _ _ _ _ _ us hl => match us, hl with | [_, _, _], _ => rfl, Fd.kp⟩
  refine ok_def (Γ := Gm K) (n := 5) (m := b_spans_fault) rfl Fd sc_spans_fault rfl fun cdv A outer s H E0 hr => ?_
  unfold b_spans_fault
  exact (qs_cons (qs_if (PW.pt (qw_or (qt_not (qt_val (q_isiT rfl T.ins (all_cons (T.is_ 23) (all_cons (T.is_ 19) (fun _ h => nomatch h))) (T.free 4) (q_var 2) (.cons (pe_bltn (v := .ty "list") rfl (T.free 22) (by decide +kernel) rfl) (.cons (pe_bltn (v := .ty "tuple") rfl (T.free 18) (by decide +kernel) rfl) .nil rfl) rfl)))) (qw_or1 (qt_cmp op_gt ok_cmp (q_callB cr_len ok_len (T.free 0) (by decide +kernel) (qa_cons (q_var 2) qa_nil)) (q_gint (T.cint (x := "MOST_SPANS") (v := 60) 27)) (nomark _))))) (qs_one (qs_ret (q_un un_neg ok_neg q_int))) qs_nil)
      (qs_cons (qs_for (passes_of rfl) rfl (qi_enuZ rfl (T.free 28) (q_var 2)) (qg_tup rfl rfl (qgs_cons (qg_name (i := 3) sc_spans_fault.nd) (qgs_cons (qg_name (i := 4) sc_spans_fault.nd) qgs_nil))) (qs_one (qs_if (PW.pt (qw_or (qt_not (qt_val (q_call G_is_span (hr.mono (by decide : 5 ≤ 5)) (T.glo 29) k_is_span b_is_span (takes_of rfl rfl rfl rfl) (qa_cons (q_var 0) (qa_cons (q_var 1) (qa_cons (q_var 4) qa_nil)))))) (qw_or1 (qt_cmp (or_inZ rfl (hr.mono (by decide : 0 ≤ 5))) ok_inZ (q_var 4) (q_sl rfl (q_var 2) qo_none (qo_some (q_var 3))) (by rfl))))) (qs_one (qs_ret (q_var 3))) qs_nil)))
      (qs_one (qs_ret q_non))))
theorem sc_are_events : FnScope ["thing"] ["thing"] (defScope (top 22)) := ⟨rfl, rfl, rfl, by decide +kernel, rfl, by decide +kernel, by decide +kernel⟩
theorem ok_are_events (T : Txt K mg) : ∃ fd, FnOk P w K mg base (L2.CX P w) 2 (He.ga K "are_events") fd ["thing"] (spOf (Gm K) 1 f_are_events) ∧ Binds K fd ["thing"] [] ∧ PySem.W.keepIn K (.ref (He.ga K "are_events")) = true := by
  obtain ⟨fd, Fd⟩ := T.says.def_ 15
  obtain ⟨d_is_integer, G_is_integer, b_is_integer, k_is_integer⟩ := ok_is_integer (P := P) (w := w) (base := base) T
  refine ⟨fd, ?_, Fd.bindsN fun _ _ _ _ _ _ us hl => match us, hl with | [_], _ => rfl, Fd.kp⟩
  refine ok_def (Γ := Gm K) (n := 1) (m := b_are_events) rfl Fd sc_are_events rfl fun cdv A outer s H E0 hr => ?_
  unfold b_are_events
  exact (qs_one (qs_ret (q_and (q_call G_is_integer (hr.mono (by decide : 1 ≤ 1)) (T.glo 8) k_is_integer b_is_integer (takes_of rfl rfl rfl rfl) (qa_cons (q_var 0) qa_nil)) (q_one (q_chain op_le ok_cmp op_le ok_cmp q_int (q_var 0) (q_gint (T.cint (x := "MOST_EVENTS") (v := 24) 30)))))))
theorem sc_Net___init__ : FnScope ["self", "beat", "events", "spans", "fault"] ["self", "beat", "events", "spans"] (defScope (inClass (top 21) 0)) := ⟨rfl, rfl, rfl, by decide +kernel, rfl, by decide +kernel, by decide +kernel⟩
theorem ok_Net___init__ (T : Txt K mg) : ∃ fd, FnOk P w K mg base (L2.CX P w) 7 (He.ma K (He.ga K "Net") "__init__") fd ["self", "beat", "events", "spans"] (spOf (Gm K) 4 f_Net___init__) ∧ Binds K fd ["self", "beat", "events", "spans"] [] ∧ PySem.W.keepIn K (.ref (He.ma K (He.ga K "Net") "__init__")) = true := by
  obtain ⟨fd, Fd⟩ := T.says.def_ 16
  obtain ⟨d_is_integer, G_is_integer, b_is_integer, k_is_integer⟩ := ok_is_integer (P := P) (w := w) (base := base) T
  obtain ⟨d_are_events, G_are_events, b_are_events, k_are_events⟩ := ok_are_events (P := P) (w := w) (base := base) T
  obtain ⟨d_spans_fault, G_spans_fault, b_spans_fault, k_spans_fault⟩ := ok_spans_fault (P := P) (w := w) (base := base) T
  refine ⟨fd, ?_, Fd.bindsN fun _ _ _ _ _ _ us hl => match us, hl with | [_, _, _, _], _ => rfl, Fd.kp⟩
  refine ok_def (Γ := Gm K) (n := 5) (m := b_Net___init__) rfl Fd sc_Net___init__ rfl fun cdv A outer s H E0 hr => ?_
  unfold b_Net___init__
  exact (qs_cons (qs_if (PW.pt (qw_or (qt_not (qt_val (q_call G_is_integer (hr.mono (by decide : 1 ≤ 6)) (T.glo 8) k_is_integer b_is_integer (takes_of rfl rfl rfl rfl) (qa_cons (q_var 1) qa_nil)))) (qw_or1 (qt_not (qt_chain op_le ok_cmp op_le ok_cmp (q_gint (T.cint (x := "LEAST_BEAT") (v := 3) 31)) (q_var 1) (q_gint (T.cint (x := "MOST_BEAT") (v := 1440) 32))))))) (qs_one (qs_raise1 rfl (x1_BadBeat T) rfl (takes_of rfl rfl rfl rfl) (hr.mono (by decide : 2 ≤ 6)) (by decide) (q_var 1))) qs_nil)
      (qs_cons (qs_if (qt_not (qt_val (q_call G_are_events (hr.mono (by decide : 2 ≤ 6)) (T.glo 33) k_are_events b_are_events (takes_of rfl rfl rfl rfl) (qa_cons (q_var 2) qa_nil)))) (qs_one (qs_raise1 rfl (x1_BadEvents T) rfl (takes_of rfl rfl rfl rfl) (hr.mono (by decide : 2 ≤ 6)) (by decide) (q_var 2))) qs_nil)
      (qs_cons (qs_set (i := 4) sc_Net___init__.nd (q_call G_spans_fault (hr.mono (by decide : 6 ≤ 6)) (T.glo 34) k_spans_fault b_spans_fault (takes_of rfl rfl rfl rfl) (qa_cons (q_var 1) (qa_cons (q_var 2) (qa_cons (q_var 3) qa_nil)))))
      (qs_cons (qs_if (qt_cmp op_notN ok_notN (q_var 4) q_non (nomark _)) (qs_one (qs_raise1 rfl (x1_BadSpan T) rfl (takes_of rfl rfl rfl rfl) (hr.mono (by decide : 2 ≤ 6)) (by decide) (q_var 4))) qs_nil)
      (qs_cons (qs_setF (i := 0) T.pl rfl (q_var 1))
      (qs_cons (qs_setF (i := 0) T.pl rfl (q_var 2))
      (qs_one (qs_setF (i := 0) T.pl rfl (q_callTy call_tuple_of ok_tuple (T.free 18) (by decide +kernel) (qa_cons (q_var 3) qa_nil))))))))))
theorem sc__law_told : FnScope ["_law_beat", "_law_events", "_law_spans", "_law_made", "e", "_law_found", "_law_kept"] ["_law_beat", "_law_events", "_law_spans"] (defScope (top 31)) := ⟨rfl, rfl, rfl, by decide +kernel, rfl, by decide +kernel, by decide +kernel⟩
theorem ok__law_told (T : Txt K mg) : ∃ fd, FnOk P w K mg base (L2.CX P w) 9 (He.ga K "_law_told") fd ["_law_beat", "_law_events", "_law_spans"] (spOf (Gm K) 3 f__law_told) ∧ Binds K fd ["_law_beat", "_law_events", "_law_spans"] [] ∧ PySem.W.keepIn K (.ref (He.ga K "_law_told")) = true := by
  obtain ⟨fd, Fd⟩ := T.says.def_ 17
  obtain ⟨d_Net___init__, G_Net___init__, b_Net___init__, k_Net___init__⟩ := ok_Net___init__ (P := P) (w := w) (base := base) T
  refine ⟨fd, ?_, Fd.bindsN fun _ _ _ _ _ _ us hl => match us, hl with | [_, _, _], _ => rfl, Fd.kp⟩
  refine ok_def (Γ := Gm K) (n := 7) (m := b__law_told) rfl Fd sc__law_told rfl fun cdv A outer s H E0 hr => ?_
  unfold b__law_told
  exact (qs_cons (qs_tryAs (i := 4) (sb := sb "SpansError") rfl rfl (T.sb "SpansError") rfl rfl sc__law_told.nd rfl rfl ⟨rfl, by decide, .inl (T.glo 39)⟩ (takes_of rfl rfl rfl rfl) (fun W' pn xe tk hp => (qs_one (qs_set (i := 3) sc__law_told.nd (q_make (C := "Net") (T.pl.1 _ (by decide)).sub (T.mkr 35) G_Net___init__ (hr.mono (by decide : 8 ≤ 8)) (T.glo 12) b_Net___init__ tk (qa_cons (q_var 0) (qa_cons (q_var 1) (qa_cons (q_var 2) qa_nil))))))) (fun a oe E xs o pn hz hd => (qs_cons (qs_set (i := 5) sc__law_told.nd (q_tup (qa_cons (q_xis (T := (.own "BadBeat")) rfl (T.xk (.own "BadBeat")) hz hd (T.free 4) (pe_glob (v := .ref (He.ga K "BadBeat")) rfl (T.glo 36) rfl)) (qa_cons (q_xis (T := (.own "BadEvents")) rfl (T.xk (.own "BadEvents")) hz hd (T.free 4) (pe_glob (v := .ref (He.ga K "BadEvents")) rfl (T.glo 37) rfl)) (qa_cons (q_xis (T := (.own "BadSpan")) rfl (T.xk (.own "BadSpan")) hz hd (T.free 4) (pe_glob (v := .ref (He.ga K "BadSpan")) rfl (T.glo 38) rfl)) qa_nil)))))
      (qs_cons (qs_set (i := 6) sc__law_told.nd q_non)
      (qs_cons (qs_if (qt_cmp (op_eqD hr.units) ok_eqD (q_var 5) (q_tup (qa_cons q_bl (qa_cons q_bl (qa_cons q_bl qa_nil)))) (nomark _)) (qs_one (qs_set (i := 6) sc__law_told.nd (q_xfld rfl (T.xf "beat") hz hd))) qs_nil)
      (qs_cons (qs_if (qt_cmp (op_eqD hr.units) ok_eqD (q_var 5) (q_tup (qa_cons q_bl (qa_cons q_bl (qa_cons q_bl qa_nil)))) (nomark _)) (qs_one (qs_set (i := 6) sc__law_told.nd (q_xfld rfl (T.xf "events") hz hd))) qs_nil)
      (qs_cons (qs_if (qt_cmp (op_eqD hr.units) ok_eqD (q_var 5) (q_tup (qa_cons q_bl (qa_cons q_bl (qa_cons q_bl qa_nil)))) (nomark _)) (qs_one (qs_set (i := 6) sc__law_told.nd (q_xfld rfl (T.xf "index") hz hd))) qs_nil)
      (qs_one (qs_ret (q_tup (qa_cons q_str (qa_cons (q_var 5) (qa_cons (q_var 6) qa_nil)))))))))))))
      (qs_one (qs_ret (q_tup (qa_cons q_str (qa_cons (q_var 3) (qa_cons q_non qa_nil)))))))
theorem sc_Ratio___init__ : FnScope ["self", "top", "bottom", "value", "common"] ["self", "top", "bottom"] (defScope (inClass (top 14) 0)) := ⟨rfl, rfl, rfl, by decide +kernel, rfl, by decide +kernel, by decide +kernel⟩
theorem ok_Ratio___init__ (T : Txt K mg) : ∃ fd, FnOk P w K mg base (L2.CX P w) 4 (He.ma K (He.ga K "Ratio") "__init__") fd ["self", "top", "bottom"] (spOf (Gm K) 3 f_Ratio___init__) ∧ Binds K fd ["self", "top", "bottom"] [] ∧ PySem.W.keepIn K (.ref (He.ma K (He.ga K "Ratio") "__init__")) = true := by
  obtain ⟨fd, Fd⟩ := T.says.def_ 18
  obtain ⟨d_is_integer, G_is_integer, b_is_integer, k_is_integer⟩ := ok_is_integer (P := P) (w := w) (base := base) T
  refine ⟨fd, ?_, Fd.bindsN fun _ _ _ _ _ _ us hl => match us, hl with | [_, _, _], _ => rfl, Fd.kp⟩
  refine ok_def (Γ := Gm K) (n := 5) (m := b_Ratio___init__) rfl Fd sc_Ratio___init__ rfl fun cdv A outer s H E0 hr => ?_
  unfold b_Ratio___init__
  exact (qs_cons (qs_for (passes_of rfl) rfl (qi_seq rfl (q_tup (qa_cons (q_var 1) (qa_cons (q_var 2) qa_nil)))) (qg_name (i := 3) sc_Ratio___init__.nd) (qs_one (qs_if (qt_not (qt_val (q_call G_is_integer (hr.mono (by decide : 1 ≤ 3)) (T.glo 8) k_is_integer b_is_integer (takes_of rfl rfl rfl rfl) (qa_cons (q_var 3) qa_nil)))) (qs_one (qs_raise1 rfl (x1_BadNumber T) rfl (takes_of rfl rfl rfl rfl) (hr.mono (by decide : 2 ≤ 3)) (by decide) (q_var 3))) qs_nil)))
      (qs_cons (qs_if (qt_cmp (or_eqZ rfl (hr.mono (by decide : 3 ≤ 3)) (eqc T)) (ok_eqZ T.ins) (q_var 2) q_int (nomark _)) (qs_one (qs_raise1 rfl (x1_BadNumber T) rfl (takes_of rfl rfl rfl rfl) (hr.mono (by decide : 2 ≤ 3)) (by decide) (q_var 2))) qs_nil)
      (qs_cons (qs_set (i := 4) sc_Ratio___init__.nd (q_ifE (qt_cmp op_gt ok_cmp (q_var 2) q_int (nomark _)) (q_callG cr_gcd ok_gcd (T.bi 40) (qa_cons (q_var 1) (qa_cons (q_var 2) qa_nil))) (q_un un_neg ok_neg (q_callG cr_gcd ok_gcd (T.bi 40) (qa_cons (q_var 1) (qa_cons (q_var 2) qa_nil))))))
      (qs_cons (qs_setF (i := 0) T.pl rfl (q_op op_fdivA ok_div (q_var 1) (q_var 4)))
      (qs_one (qs_setF (i := 0) T.pl rfl (q_op op_fdivA ok_div (q_var 2) (q_var 4))))))))
theorem sc__law_odd : FnScope ["_law_source_here", "_law_things"] ["_law_source_here"] (defScope (top 29)) := ⟨rfl, rfl, rfl, by decide +kernel, rfl, by decide +kernel, by decide +kernel⟩
theorem ok__law_odd (T : Txt K mg) : ∃ fd, FnOk P w K mg base (L2.CX P w) 6 (He.ga K "_law_odd") fd ["_law_source_here"] (spOf (Gm K) 1 f__law_odd) ∧ Binds K fd ["_law_source_here"] [] ∧ PySem.W.keepIn K (.ref (He.ga K "_law_odd")) = true := by
  obtain ⟨fd, Fd⟩ := T.says.def_ 19
  obtain ⟨d_Ratio___init__, G_Ratio___init__, b_Ratio___init__, k_Ratio___init__⟩ := ok_Ratio___init__ (P := P) (w := w) (base := base) T
  obtain ⟨d__law_draw, G__law_draw, b__law_draw, k__law_draw⟩ := ok__law_draw (P := P) (w := w) (base := base) T
  refine ⟨fd, ?_, Fd.bindsN fun _ _ _ _ _ _ us hl => match us, hl with | [_], _ => rfl, Fd.kp⟩
  refine ok_def (Γ := Gm K) (n := 2) (m := b__law_odd) rfl Fd sc__law_odd rfl fun cdv A outer s H E0 hr => ?_
  unfold b__law_odd
  exact (qs_cons (qs_set (i := 1) sc__law_odd.nd (q_lst (qa_cons q_non (qa_cons q_bl (qa_cons q_bl (qa_cons q_str (qa_cons q_str (qa_cons (q_tup qa_nil) (qa_cons (q_tup (qa_cons q_int qa_nil)) (qa_cons (q_lst qa_nil) (qa_cons (q_lst (qa_cons q_int qa_nil)) (qa_cons q_dict0 (qa_cons (q_dict1 q_int q_int) (qa_cons q_str (qa_cons (q_make (C := "Ratio") (T.pl.1 _ (by decide)).sub (T.mkr 41) G_Ratio___init__ (hr.mono (by decide : 5 ≤ 5)) (T.glo 6) b_Ratio___init__ (takes_of rfl rfl rfl rfl) (qa_cons q_int (qa_cons q_int qa_nil))) (qa_cons (q_make (C := "Ratio") (T.pl.1 _ (by decide)).sub (T.mkr 41) G_Ratio___init__ (hr.mono (by decide : 5 ≤ 5)) (T.glo 6) b_Ratio___init__ (takes_of rfl rfl rfl rfl) (qa_cons q_int (qa_cons q_int qa_nil))) qa_nil))))))))))))))))
      (qs_one (qs_ret (q_ix ix_seq ok_ix (q_var 1) (q_call G__law_draw (hr.mono (by decide : 4 ≤ 5)) (T.glo 15) k__law_draw b__law_draw (takes_of rfl rfl rfl rfl) (qa_cons (q_var 0) (qa_cons q_int qa_nil))) (fun _ _ => rfl)))))
theorem sc__law_net_right : FnScope ["_law_net", "_law_beat", "_law_events", "_law_spans"] ["_law_net", "_law_beat", "_law_events", "_law_spans"] (defScope (top 36)) := ⟨rfl, rfl, rfl, by decide +kernel, rfl, by decide +kernel, by decide +kernel⟩
theorem ok__law_net_right (T : Txt K mg) : ∃ fd, FnOk P w K mg base (L2.CX P w) 4 (He.ga K "_law_net_right") fd ["_law_net", "_law_beat", "_law_events", "_law_spans"] (spOf (Gm K) 4 f__law_net_right) ∧ Binds K fd ["_law_net", "_law_beat", "_law_events", "_law_spans"] [] ∧ PySem.W.keepIn K (.ref (He.ga K "_law_net_right")) = true := by
  obtain ⟨fd, Fd⟩ := T.says.def_ 20
  obtain ⟨d__law_integer, G__law_integer, b__law_integer, k__law_integer⟩ := ok__law_integer (P := P) (w := w) (base := base) T
  refine ⟨fd, ?_, Fd.bindsN fun _ _ _ _ _ _ us hl => match us, hl with | [_, _, _, _], _ => rfl, Fd.kp⟩
  refine ok_def (Γ := Gm K) (n := 4) (m := b__law_net_right) rfl Fd sc__law_net_right rfl fun cdv A outer s H E0 hr => ?_
  unfold b__law_net_right
  exact (qs_cons (qs_if (PW.pt (qw_or (qt_not (qt_val (q_isi (T := (.own "Net")) rfl T.ins (T.is_ 13) (T.free 4) (q_var 0) (pe_glob (v := .ref (He.ga K "Net")) rfl (T.glo 12) rfl)))) (qw_or (qt_not (qt_val (q_call G__law_integer (hr.mono (by decide : 1 ≤ 3)) (T.glo 20) k__law_integer b__law_integer (takes_of rfl rfl rfl rfl) (qa_cons (q_fld T.pl rfl (q_var 0)) qa_nil)))) (qw_or1 (qt_not (qt_val (q_call G__law_integer (hr.mono (by decide : 1 ≤ 3)) (T.glo 20) k__law_integer b__law_integer (takes_of rfl rfl rfl rfl) (qa_cons (q_fld T.pl rfl (q_var 0)) qa_nil)))))))) (qs_one (qs_ret q_bl)) qs_nil)
      (qs_one (qs_ret (q_and (q_cmp (or_eqZ rfl (hr.mono (by decide : 3 ≤ 3)) (eqc T)) (ok_eqZ T.ins) (q_fld T.pl rfl (q_var 0)) (q_var 1) (nomark _)) (q_and (q_cmp (or_eqZ rfl (hr.mono (by decide : 3 ≤ 3)) (eqc T)) (ok_eqZ T.ins) (q_fld T.pl rfl (q_var 0)) (q_var 2) (nomark _)) (q_and (q_isi (T := (.bi "tuple")) rfl T.ins (T.is_ 19) (T.free 4) (q_fld T.pl rfl (q_var 0)) (pe_bltn (v := .ty "tuple") rfl (T.free 18) (by decide +kernel) rfl)) (q_one (q_cmp (or_eqZ rfl (hr.mono (by decide : 3 ≤ 3)) (eqc T)) (ok_eqZ T.ins) (q_fld T.pl rfl (q_var 0)) (q_callTy call_tuple_of ok_tuple (T.free 18) (by decide +kernel) (qa_cons (q_var 3) qa_nil)) (nomark _)))))))))
theorem sc__law_equal_right : FnScope ["_law_net", "_law_beat", "_law_events", "_law_spans", "_law_other"] ["_law_net", "_law_beat", "_law_events", "_law_spans"] (defScope (top 37)) := ⟨rfl, rfl, rfl, by decide +kernel, rfl, by decide +kernel, by decide +kernel⟩
theorem ok__law_equal_right (T : Txt K mg) : ∃ fd, FnOk P w K mg base (L2.CX P w) 9 (He.ga K "_law_equal_right") fd ["_law_net", "_law_beat", "_law_events", "_law_spans"] (spOf (Gm K) 4 f__law_equal_right) ∧ Binds K fd ["_law_net", "_law_beat", "_law_events", "_law_spans"] [] ∧ PySem.W.keepIn K (.ref (He.ga K "_law_equal_right")) = true := by
  obtain ⟨fd, Fd⟩ := T.says.def_ 21
  obtain ⟨d_Net___init__, G_Net___init__, b_Net___init__, k_Net___init__⟩ := ok_Net___init__ (P := P) (w := w) (base := base) T
  refine ⟨fd, ?_, Fd.bindsN fun _ _ _ _ _ _ us hl => match us, hl with | [_, _, _, _], _ => rfl, Fd.kp⟩
  refine ok_def (Γ := Gm K) (n := 5) (m := b__law_equal_right) rfl Fd sc__law_equal_right rfl fun cdv A outer s H E0 hr => ?_
  unfold b__law_equal_right
  exact (qs_cons (qs_if (PW.pt (qw_or (qt_not (qt_cmp (or_eqZ rfl (hr.mono (by decide : 3 ≤ 8)) (eqc T)) (ok_eqZ T.ins) (q_var 0) (q_make (C := "Net") (T.pl.1 _ (by decide)).sub (T.mkr 35) G_Net___init__ (hr.mono (by decide : 8 ≤ 8)) (T.glo 12) b_Net___init__ (takes_of rfl rfl rfl rfl) (qa_cons (q_var 1) (qa_cons (q_var 2) (qa_cons (q_callTy call_tuple_of ok_tuple (T.free 18) (by decide +kernel) (qa_cons (q_var 3) qa_nil)) qa_nil)))) (nomark _))) (qw_or1 (qt_cmp (or_ne (k := 3) rfl (hr.mono (by decide : 4 ≤ 8)) (nec T)) ok_neX (q_var 0) (q_make (C := "Net") (T.pl.1 _ (by decide)).sub (T.mkr 35) G_Net___init__ (hr.mono (by decide : 8 ≤ 8)) (T.glo 12) b_Net___init__ (takes_of rfl rfl rfl rfl) (qa_cons (q_var 1) (qa_cons (q_var 2) (qa_cons (q_callTy call_list_of ok_list (T.free 22) (by decide +kernel) (qa_cons (q_var 3) qa_nil)) qa_nil)))) (nomark _))))) (qs_one (qs_ret q_bl)) qs_nil)
      (qs_cons (qs_if (PW.pt (qw_or (PW.pt (qw_and (qt_cmp op_lt ok_cmp (q_var 1) q_int (nomark _)) (qw_and1 (qt_cmp (or_eqZ rfl (hr.mono (by decide : 3 ≤ 8)) (eqc T)) (ok_eqZ T.ins) (q_var 0) (q_make (C := "Net") (T.pl.1 _ (by decide)).sub (T.mkr 35) G_Net___init__ (hr.mono (by decide : 8 ≤ 8)) (T.glo 12) b_Net___init__ (takes_of rfl rfl rfl rfl) (qa_cons (q_op or_add ok_add (q_var 1) q_int) (qa_cons (q_var 2) (qa_cons (q_var 3) qa_nil)))) (nomark _))))) (qw_or1 (PW.pt (qw_and (qt_cmp op_lt ok_cmp (q_var 2) q_int (nomark _)) (qw_and1 (qt_cmp (or_eqZ rfl (hr.mono (by decide : 3 ≤ 8)) (eqc T)) (ok_eqZ T.ins) (q_var 0) (q_make (C := "Net") (T.pl.1 _ (by decide)).sub (T.mkr 35) G_Net___init__ (hr.mono (by decide : 8 ≤ 8)) (T.glo 12) b_Net___init__ (takes_of rfl rfl rfl rfl) (qa_cons (q_var 1) (qa_cons (q_op or_add ok_add (q_var 2) q_int) (qa_cons (q_var 3) qa_nil)))) (nomark _)))))))) (qs_one (qs_ret q_bl)) qs_nil)
      (qs_cons (qs_if (PW.pt (qw_and (qt_cmp op_gt ok_cmp (q_callB cr_len ok_len (T.free 0) (by decide +kernel) (qa_cons (q_var 3) qa_nil)) q_int (nomark _)) (qw_and1 (qt_cmp (or_eqZ rfl (hr.mono (by decide : 3 ≤ 8)) (eqc T)) (ok_eqZ T.ins) (q_var 0) (q_make (C := "Net") (T.pl.1 _ (by decide)).sub (T.mkr 35) G_Net___init__ (hr.mono (by decide : 8 ≤ 8)) (T.glo 12) b_Net___init__ (takes_of rfl rfl rfl rfl) (qa_cons (q_var 1) (qa_cons (q_var 2) (qa_cons (q_sl rfl (q_var 3) (qo_some q_int) qo_none) qa_nil)))) (nomark _))))) (qs_one (qs_ret q_bl)) qs_nil)
      (qs_cons (qs_if (PW.pt (qw_and (qt_cmp op_gt ok_cmp (q_callB cr_len ok_len (T.free 0) (by decide +kernel) (qa_cons (q_var 3) qa_nil)) q_int (nomark _)) (qw_and1 (qt_cmp (or_eqZ rfl (hr.mono (by decide : 3 ≤ 8)) (eqc T)) (ok_eqZ T.ins) (q_var 0) (q_make (C := "Net") (T.pl.1 _ (by decide)).sub (T.mkr 35) G_Net___init__ (hr.mono (by decide : 8 ≤ 8)) (T.glo 12) b_Net___init__ (takes_of rfl rfl rfl rfl) (qa_cons (q_var 1) (qa_cons (q_var 2) (qa_cons (q_op or_add ok_add (q_sl rfl (q_var 3) (qo_some q_int) qo_none) (q_sl rfl (q_var 3) qo_none (qo_some q_int))) qa_nil)))) (nomark _))))) (qs_one (qs_ret q_bl)) qs_nil)
      (qs_cons (qs_if (qt_cmp op_gt ok_cmp (q_callB cr_len ok_len (T.free 0) (by decide +kernel) (qa_cons (q_var 3) qa_nil)) q_int (nomark _)) (qs_cons (qs_set (i := 4) sc__law_equal_right.nd (q_op or_add ok_add (q_sl rfl (q_ix ix_seq ok_ix (q_var 3) (q_un un_neg ok_neg q_int) (fun _ _ => rfl)) qo_none (qo_some q_int)) (q_tup (qa_cons (q_ix ix_seq ok_ix (q_ix ix_seq ok_ix (q_var 3) (q_un un_neg ok_neg q_int) (fun _ _ => rfl)) q_int (fun _ _ => rfl)) qa_nil))))
      (qs_one (qs_if (PW.pt (qw_and (qt_cmp (or_notInZ rfl (hr.mono (by decide : 0 ≤ 8))) ok_inZ (q_var 4) (q_var 3) (by rfl)) (qw_and1 (qt_cmp (or_eqZ rfl (hr.mono (by decide : 3 ≤ 8)) (eqc T)) (ok_eqZ T.ins) (q_var 0) (q_make (C := "Net") (T.pl.1 _ (by decide)).sub (T.mkr 35) G_Net___init__ (hr.mono (by decide : 8 ≤ 8)) (T.glo 12) b_Net___init__ (takes_of rfl rfl rfl rfl) (qa_cons (q_var 1) (qa_cons (q_var 2) (qa_cons (q_op or_add ok_add (q_sl rfl (q_var 3) qo_none (qo_some (q_un un_neg ok_neg q_int))) (q_lst (qa_cons (q_var 4) qa_nil))) qa_nil)))) (nomark _))))) (qs_one (qs_ret q_bl)) qs_nil))) qs_nil)
      (qs_one (qs_ret (q_not (q_or (q_cmp (or_eqZ rfl (hr.mono (by decide : 3 ≤ 8)) (eqc T)) (ok_eqZ T.ins) (q_var 0) (q_tup (qa_cons (q_var 1) (qa_cons (q_var 2) (qa_cons (q_callTy call_tuple_of ok_tuple (T.free 18) (by decide +kernel) (qa_cons (q_var 3) qa_nil)) qa_nil)))) (nomark _)) (q_or (q_cmp (or_eqZ rfl (hr.mono (by decide : 3 ≤ 8)) (eqc T)) (ok_eqZ T.ins) (q_var 0) (q_var 1) (nomark _)) (q_one (q_cmp op_isN ok_isN (q_var 0) q_non (nomark _)))))))))))))
theorem sc__law_alike : FnScope ["_law_one", "_law_other"] ["_law_one", "_law_other"] (defScope (top 30)) := ⟨rfl, rfl, rfl, by decide +kernel, rfl, by decide +kernel, by decide +kernel⟩
theorem ok__law_alike (T : Txt K mg) : ∃ fd, FnOk P w K mg base (L2.CX P w) 4 (He.ga K "_law_alike") fd ["_law_one", "_law_other"] (spOf (Gm K) 2 f__law_alike) ∧ Binds K fd ["_law_one", "_law_other"] [] ∧ PySem.W.keepIn K (.ref (He.ga K "_law_alike")) = true := by
  obtain ⟨fd, Fd⟩ := T.says.def_ 22
  refine ⟨fd, ?_, Fd.bindsN fun _ _ _ _ _ _ us hl => match us, hl with | [_, _], _ => rfl, Fd.kp⟩
  refine ok_def (Γ := Gm K) (n := 2) (m := b__law_alike) rfl Fd sc__law_alike rfl fun cdv A outer s H E0 hr => ?_
  unfold b__law_alike
  exact (qs_cons (qs_if (PW.pt (qw_or (qt_val (q_isi (T := (.bi "bool")) rfl T.ins (T.is_ 3) (T.free 4) (q_var 0) (pe_bltn (v := .ty "bool") rfl (T.free 2) (by decide +kernel) rfl))) (qw_or1 (qt_val (q_isi (T := (.bi "bool")) rfl T.ins (T.is_ 3) (T.free 4) (q_var 1) (pe_bltn (v := .ty "bool") rfl (T.free 2) (by decide +kernel) rfl)))))) (qs_one (qs_ret (q_and (q_isi (T := (.bi "bool")) rfl T.ins (T.is_ 3) (T.free 4) (q_var 0) (pe_bltn (v := .ty "bool") rfl (T.free 2) (by decide +kernel) rfl)) (q_and (q_isi (T := (.bi "bool")) rfl T.ins (T.is_ 3) (T.free 4) (q_var 1) (pe_bltn (v := .ty "bool") rfl (T.free 2) (by decide +kernel) rfl)) (q_one (q_cmp (or_eqZ rfl (hr.mono (by decide : 3 ≤ 3)) (eqc T)) (ok_eqZ T.ins) (q_var 0) (q_var 1) (nomark _))))))) qs_nil)
      (qs_one (qs_ret (q_cmp (or_eqZ rfl (hr.mono (by decide : 3 ≤ 3)) (eqc T)) (ok_eqZ T.ins) (q_var 0) (q_var 1) (nomark _)))))
theorem sc__law_changed : FnScope ["_law_source_here", "_law_span", "_law_beat", "_law_events", "_law_spans", "_law_kind", "_law_one", "_law_other", "_law_low", "_law_high", "_law_row"] ["_law_source_here", "_law_span", "_law_beat", "_law_events", "_law_spans"] (defScope (top 35)) := ⟨rfl, rfl, rfl, by decide +kernel, rfl, by decide +kernel, by decide +kernel⟩
theorem ok__law_changed (T : Txt K mg) : ∃ fd, FnOk P w K mg base (L2.CX P w) 7 (He.ga K "_law_changed") fd ["_law_source_here", "_law_span", "_law_beat", "_law_events", "_law_spans"] (spOf (Gm K) 5 f__law_changed) ∧ Binds K fd ["_law_source_here", "_law_span", "_law_beat", "_law_events", "_law_spans"] [] ∧ PySem.W.keepIn K (.ref (He.ga K "_law_changed")) = true := by
  obtain ⟨fd, Fd⟩ := T.says.def_ 23
  obtain ⟨d__law_draw, G__law_draw, b__law_draw, k__law_draw⟩ := ok__law_draw (P := P) (w := w) (base := base) T
  obtain ⟨d__law_odd, G__law_odd, b__law_odd, k__law_odd⟩ := ok__law_odd (P := P) (w := w) (base := base) T
  refine ⟨fd, ?_, Fd.bindsN fun _ _ _ _ _ _ us hl => match us, hl with | [_, _, _, _, _], _ => rfl, Fd.kp⟩
  refine ok_def (Γ := Gm K) (n := 11) (m := b__law_changed) rfl Fd sc__law_changed rfl fun cdv A outer s H E0 hr => ?_
  unfold b__law_changed
  exact (qs_cons (qs_set (i := 5) sc__law_changed.nd (q_call G__law_draw (hr.mono (by decide : 4 ≤ 6)) (T.glo 15) k__law_draw b__law_draw (takes_of rfl rfl rfl rfl) (qa_cons (q_var 0) (qa_cons q_int qa_nil))))
      (qs_cons (qs_asg (q_var 1) (qg_tup rfl rfl (qgs_cons (qg_name (i := 6) sc__law_changed.nd) (qgs_cons (qg_name (i := 7) sc__law_changed.nd) (qgs_cons (qg_name (i := 8) sc__law_changed.nd) (qgs_cons (qg_name (i := 9) sc__law_changed.nd) qgs_nil))))))
      (qs_cons (qs_if (qt_cmp (or_eqZ rfl (hr.mono (by decide : 3 ≤ 6)) (eqc T)) (ok_eqZ T.ins) (q_var 5) q_int (nomark _)) (qs_one (qs_ret (q_ix ix_seq ok_ix (q_var 4) (q_call G__law_draw (hr.mono (by decide : 4 ≤ 6)) (T.glo 15) k__law_draw b__law_draw (takes_of rfl rfl rfl rfl) (qa_cons (q_var 0) (qa_cons (q_callB cr_len ok_len (T.free 0) (by decide +kernel) (qa_cons (q_var 4) qa_nil)) qa_nil))) (fun _ _ => rfl)))) qs_nil)
      (qs_cons (qs_if (qt_cmp op_lt ok_cmp (q_var 5) q_int (nomark _)) (qs_one (qs_ret (q_ix ix_seq ok_ix (q_lst (qa_cons (q_tup (qa_cons (q_var 6) (qa_cons (q_var 6) (qa_cons (q_var 8) (qa_cons (q_var 9) qa_nil))))) (qa_cons (q_tup (qa_cons (q_var 6) (qa_cons (q_var 3) (qa_cons (q_var 8) (qa_cons (q_var 9) qa_nil))))) (qa_cons (q_tup (qa_cons (q_un un_neg ok_neg q_int) (qa_cons (q_var 7) (qa_cons (q_var 8) (qa_cons (q_var 9) qa_nil))))) qa_nil)))) (q_op op_sub ok_sub (q_var 5) q_int) (fun _ _ => rfl)))) qs_nil)
      (qs_cons (qs_if (qt_cmp op_lt ok_cmp (q_var 5) q_int (nomark _)) (qs_one (qs_ret (q_ix ix_seq ok_ix (q_lst (qa_cons (q_tup (qa_cons (q_var 6) (qa_cons (q_var 7) (qa_cons (q_op or_add ok_add (q_var 9) q_int) (qa_cons (q_var 9) qa_nil))))) (qa_cons (q_tup (qa_cons (q_var 6) (qa_cons (q_var 7) (qa_cons (q_var 8) (qa_cons q_int qa_nil))))) (qa_cons (q_tup (qa_cons (q_var 6) (qa_cons (q_var 7) (qa_cons (q_un un_neg ok_neg q_int) (qa_cons (q_var 8) qa_nil))))) (qa_cons (q_tup (qa_cons (q_var 6) (qa_cons (q_var 7) (qa_cons q_int (qa_cons (q_op op_sub ok_sub (q_var 2) q_int) qa_nil))))) qa_nil))))) (q_op op_sub ok_sub (q_var 5) q_int) (fun _ _ => rfl)))) qs_nil)
      (qs_cons (qs_if (qt_cmp op_lt ok_cmp (q_var 5) q_int (nomark _)) (qs_one (qs_ret (q_ix ix_seq ok_ix (q_lst (qa_cons (q_tup (qa_cons (q_var 6) (qa_cons (q_var 7) (qa_cons (q_var 8) qa_nil)))) (qa_cons (q_tup (qa_cons (q_var 6) (qa_cons (q_var 7) (qa_cons (q_var 8) (qa_cons (q_var 9) (qa_cons q_int qa_nil)))))) (qa_cons (q_lst (qa_cons (q_var 6) (qa_cons (q_var 7) (qa_cons (q_var 8) (qa_cons (q_var 9) qa_nil))))) qa_nil)))) (q_op op_sub ok_sub (q_var 5) q_int) (fun _ _ => rfl)))) qs_nil)
      (qs_cons (qs_if (qt_cmp (or_eqZ rfl (hr.mono (by decide : 3 ≤ 6)) (eqc T)) (ok_eqZ T.ins) (q_var 5) q_int (nomark _)) (qs_one (qs_ret (q_call G__law_odd (hr.mono (by decide : 6 ≤ 6)) (T.glo 42) k__law_odd b__law_odd (takes_of rfl rfl rfl rfl) (qa_cons (q_var 0) qa_nil)))) qs_nil)
      (qs_cons (qs_set (i := 10) sc__law_changed.nd (q_callTy call_list_of ok_list (T.free 22) (by decide +kernel) (qa_cons (q_var 1) qa_nil)))
      (qs_cons (qs_asg (q_call G__law_odd (hr.mono (by decide : 6 ≤ 6)) (T.glo 42) k__law_odd b__law_odd (takes_of rfl rfl rfl rfl) (qa_cons (q_var 0) qa_nil)) (qg_sub (W := WF E0) (q_var 10) (q_call G__law_draw (hr.mono (by decide : 4 ≤ 6)) (T.glo 15) k__law_draw b__law_draw (takes_of rfl rfl rfl rfl) (qa_cons (q_var 0) (qa_cons q_int qa_nil)))))
      (qs_one (qs_ret (q_callTy call_tuple_of ok_tuple (T.free 18) (by decide +kernel) (qa_cons (q_var 10) qa_nil)))))))))))))
theorem sc_law : FnScope ["_law_script", "_law_source_here", "_law_beat", "_law_events", "_law_spans", "_law_k", "_law_spoils", "_law_at", "_law_good", "_law_span", "_law_whole", "_law_first", "_law_second", "_law_made_beat", "_law_made_events", "_law_row", "_law_due_here", "_law_told_here", "_law_before"] ["_law_script"] (defScope (top 38)) := ⟨rfl, rfl, rfl, by decide +kernel, rfl, by decide +kernel, by decide +kernel⟩
theorem ok_law (T : Txt K mg) : ∃ fd, (∀ (s : Shared) (u : Value), BindsTo s fd ⟨[u], []⟩ [("_law_script", u)]) ∧ ∀ base : Heap, FnOk P w K mg base (L2.CX P w) 10 (He.ga K "law") fd ["_law_script"] (spOf (Gm K) 1 f_law) := by
  obtain ⟨fd, Fd⟩ := T.says.def_ 24
  refine ⟨fd, fun s v => FunD.bindsA (ps := ["_law_script"]) Fd (fun _ _ _ _ _ _ us hl => match us, hl with | [_], _ => rfl) s [v] rfl, fun base => ?_⟩
  obtain ⟨d__law_source, G__law_source, b__law_source, k__law_source⟩ := ok__law_source (P := P) (w := w) (base := base) T
  obtain ⟨d__law_draw, G__law_draw, b__law_draw, k__law_draw⟩ := ok__law_draw (P := P) (w := w) (base := base) T
  obtain ⟨d__law_rows, G__law_rows, b__law_rows, k__law_rows⟩ := ok__law_rows (P := P) (w := w) (base := base) T
  obtain ⟨d__law_is_span, G__law_is_span, b__law_is_span, k__law_is_span⟩ := ok__law_is_span (P := P) (w := w) (base := base) T
  obtain ⟨d__law_changed, G__law_changed, b__law_changed, k__law_changed⟩ := ok__law_changed (P := P) (w := w) (base := base) T
  obtain ⟨d__law_odd, G__law_odd, b__law_odd, k__law_odd⟩ := ok__law_odd (P := P) (w := w) (base := base) T
  obtain ⟨d__law_due, G__law_due, b__law_due, k__law_due⟩ := ok__law_due (P := P) (w := w) (base := base) T
  obtain ⟨d__law_told, G__law_told, b__law_told, k__law_told⟩ := ok__law_told (P := P) (w := w) (base := base) T
  obtain ⟨d__law_alike, G__law_alike, b__law_alike, k__law_alike⟩ := ok__law_alike (P := P) (w := w) (base := base) T
  obtain ⟨d__law_net_right, G__law_net_right, b__law_net_right, k__law_net_right⟩ := ok__law_net_right (P := P) (w := w) (base := base) T
  obtain ⟨d__law_equal_right, G__law_equal_right, b__law_equal_right, k__law_equal_right⟩ := ok__law_equal_right (P := P) (w := w) (base := base) T
  refine ok_def (Γ := Gm K) (n := 19) (m := b_law) rfl Fd sc_law rfl fun cdv A outer s H E0 hr => ?_
  unfold b_law b_law_t1 b_law_t2 b_law_t3 b_law_t4 b_law_t5 b_law_t6 b_law_t7 b_law_t8 b_law_t9 b_law_t10 b_law_t11 b_law_t12 b_law_t13 b_law_t14 b_law_t15 b_law_t16 b_law_t17 b_law_t18 b_law_t19 b_law_t20
  exact (qs_cons (qs_set (i := 1) sc_law.nd (q_call G__law_source (hr.mono (by decide : 1 ≤ 9)) (T.glo 43) k__law_source b__law_source (takes_of rfl rfl rfl rfl) (qa_cons (q_var 0) (qa_cons q_int qa_nil))))
      (qs_cons (qs_set (i := 2) sc_law.nd (q_ix ix_seq ok_ix (q_lst (qa_cons (q_op or_add ok_add q_int (q_call G__law_draw (hr.mono (by decide : 4 ≤ 9)) (T.glo 15) k__law_draw b__law_draw (takes_of rfl rfl rfl rfl) (qa_cons (q_var 1) (qa_cons q_int qa_nil)))) (qa_cons q_int (qa_cons q_int (qa_cons q_int (qa_cons (q_op or_add ok_add q_int (q_call G__law_draw (hr.mono (by decide : 4 ≤ 9)) (T.glo 15) k__law_draw b__law_draw (takes_of rfl rfl rfl rfl) (qa_cons (q_var 1) (qa_cons q_int qa_nil)))) qa_nil)))))) (q_call G__law_draw (hr.mono (by decide : 4 ≤ 9)) (T.glo 15) k__law_draw b__law_draw (takes_of rfl rfl rfl rfl) (qa_cons (q_var 1) (qa_cons q_int qa_nil))) (fun _ _ => rfl)))
      (qs_cons (qs_set (i := 3) sc_law.nd (q_ix ix_seq ok_ix (q_lst (qa_cons (q_op or_add ok_add q_int (q_call G__law_draw (hr.mono (by decide : 4 ≤ 9)) (T.glo 15) k__law_draw b__law_draw (takes_of rfl rfl rfl rfl) (qa_cons (q_var 1) (qa_cons q_int qa_nil)))) (qa_cons q_int (qa_cons q_int (qa_cons q_int qa_nil))))) (q_call G__law_draw (hr.mono (by decide : 4 ≤ 9)) (T.glo 15) k__law_draw b__law_draw (takes_of rfl rfl rfl rfl) (qa_cons (q_var 1) (qa_cons q_int qa_nil))) (fun _ _ => rfl)))
      (qs_cons (qs_set (i := 4) sc_law.nd (q_call G__law_rows (hr.mono (by decide : 5 ≤ 9)) (T.glo 44) k__law_rows b__law_rows (takes_of rfl rfl rfl rfl) (qa_cons (q_call G__law_source (hr.mono (by decide : 1 ≤ 9)) (T.glo 43) k__law_source b__law_source (takes_of rfl rfl rfl rfl) (qa_cons (q_var 0) (qa_cons q_int qa_nil))) (qa_cons (q_var 2) (qa_cons (q_var 3) (qa_cons (q_call G__law_draw (hr.mono (by decide : 4 ≤ 9)) (T.glo 15) k__law_draw b__law_draw (takes_of rfl rfl rfl rfl) (qa_cons (q_var 1) (qa_cons q_int qa_nil))) qa_nil))))))
      (qs_cons (qs_if (PW.pt (qw_and (qt_cmp (or_eqZ rfl (hr.mono (by decide : 3 ≤ 9)) (eqc T)) (ok_eqZ T.ins) (q_call G__law_draw (hr.mono (by decide : 4 ≤ 9)) (T.glo 15) k__law_draw b__law_draw (takes_of rfl rfl rfl rfl) (qa_cons (q_var 1) (qa_cons q_int qa_nil))) q_int (nomark _)) (qw_and1 (qt_cmp op_gt ok_cmp (q_var 3) q_int (nomark _))))) (qs_one (qs_setLc (i := 4) (own := [("_law_k", 5)]) (g := (.nm 5)) rfl rfl sc_law.nd rfl rfl (sw_true rfl rfl rfl (by decide +kernel)) (qi_rng1 (T.free 14) (qa_cons (q_op or_add ok_add q_int (q_call G__law_draw (hr.mono (by decide : 4 ≤ 9)) (T.glo 15) k__law_draw b__law_draw (takes_of rfl rfl rfl rfl) (qa_cons (q_var 1) (qa_cons q_int qa_nil)))) qa_nil)) (blkOk_by (N := ["_law_script", "_law_source_here", "_law_beat", "_law_events", "_law_spans", "_law_k", "_law_spoils", "_law_at", "_law_good", "_law_span", "_law_whole", "_law_first", "_law_second", "_law_made_beat", "_law_made_events", "_law_row", "_law_due_here", "_law_told_here", "_law_before"]) (sc := defScope (top 38)) (by decide +kernel)) (fun _ _ _ _ _ => (qr_nm (Γ := Gm K) (i := 5) sc_law.nd)) (fun _ _ _ _ _ => qts_nil) (fun _ _ _ _ _ => (q_tup (qa_cons q_int (qa_cons q_int (qa_cons (q_var 5) (qa_cons (q_var 5) qa_nil)))))))) qs_nil)
      (qs_cons (qs_set (i := 6) sc_law.nd (q_call G__law_draw (hr.mono (by decide : 4 ≤ 9)) (T.glo 15) k__law_draw b__law_draw (takes_of rfl rfl rfl rfl) (qa_cons (q_var 1) (qa_cons q_int qa_nil))))
      (qs_cons (qs_for (passes_of rfl) rfl (qi_rng1 (T.free 14) (qa_cons (q_var 6) qa_nil)) (qg_name (i := 5) sc_law.nd) (qs_one (qs_if (qt_cmp op_gt ok_cmp (q_callB cr_len ok_len (T.free 0) (by decide +kernel) (qa_cons (q_var 4) qa_nil)) q_int (nomark _)) (qs_cons (qs_set (i := 7) sc_law.nd (q_call G__law_draw (hr.mono (by decide : 4 ≤ 9)) (T.glo 15) k__law_draw b__law_draw (takes_of rfl rfl rfl rfl) (qa_cons (q_var 1) (qa_cons (q_callB cr_len ok_len (T.free 0) (by decide +kernel) (qa_cons (q_var 4) qa_nil)) qa_nil))))
      (qs_cons (qs_setLc (i := 8) (own := [("_law_span", 9)]) (g := (.nm 9)) rfl rfl sc_law.nd rfl rfl (sw_true rfl rfl rfl (by decide +kernel)) (qi_seq rfl (q_var 4)) (blkOk_by (N := ["_law_script", "_law_source_here", "_law_beat", "_law_events", "_law_spans", "_law_k", "_law_spoils", "_law_at", "_law_good", "_law_span", "_law_whole", "_law_first", "_law_second", "_law_made_beat", "_law_made_events", "_law_row", "_law_due_here", "_law_told_here", "_law_before"]) (sc := defScope (top 38)) (by decide +kernel)) (fun _ _ _ _ _ => (qr_nm (Γ := Gm K) (i := 9) sc_law.nd)) (fun _ _ _ _ _ => (qts_one (qt_val (q_call G__law_is_span (hr.mono (by decide : 5 ≤ 9)) (T.glo 24) k__law_is_span b__law_is_span takes0 (qa_cons (q_var 9) (qa_cons (q_var 2) (qa_cons (q_var 3) qa_nil))))))) (fun _ _ _ _ _ => (q_var 9)))
      (qs_one (qs_if (qt_cmp op_gt ok_cmp (q_callB cr_len ok_len (T.free 0) (by decide +kernel) (qa_cons (q_var 8) qa_nil)) q_int (nomark _)) (qs_one (qs_asg (q_call G__law_changed (hr.mono (by decide : 7 ≤ 9)) (T.glo 45) k__law_changed b__law_changed (takes_of rfl rfl rfl rfl) (qa_cons (q_call G__law_source (hr.mono (by decide : 1 ≤ 9)) (T.glo 43) k__law_source b__law_source (takes_of rfl rfl rfl rfl) (qa_cons (q_var 0) (qa_cons (q_op or_add ok_add q_int (q_var 5)) qa_nil))) (qa_cons (q_ix ix_seq ok_ix (q_var 8) q_int (fun _ _ => rfl)) (qa_cons (q_var 2) (qa_cons (q_var 3) (qa_cons (q_var 8) qa_nil)))))) (qg_sub (W := WF E0) (q_var 4) (q_var 7)))) qs_nil)))) qs_nil)))
      (qs_cons (qs_set (i := 10) sc_law.nd (q_call G__law_draw (hr.mono (by decide : 4 ≤ 9)) (T.glo 15) k__law_draw b__law_draw (takes_of rfl rfl rfl rfl) (qa_cons (q_var 1) (qa_cons q_int qa_nil))))
      (qs_cons (qs_set (i := 11) sc_law.nd (q_ix ix_seq ok_ix (q_lst (qa_cons q_int (qa_cons q_int (qa_cons q_int (qa_cons (q_un un_neg ok_neg q_int) (qa_cons (q_call G__law_odd (hr.mono (by decide : 6 ≤ 9)) (T.glo 42) k__law_odd b__law_odd (takes_of rfl rfl rfl rfl) (qa_cons (q_call G__law_source (hr.mono (by decide : 1 ≤ 9)) (T.glo 43) k__law_source b__law_source (takes_of rfl rfl rfl rfl) (qa_cons (q_var 0) (qa_cons q_int qa_nil))) qa_nil)) qa_nil)))))) (q_call G__law_draw (hr.mono (by decide : 4 ≤ 9)) (T.glo 15) k__law_draw b__law_draw (takes_of rfl rfl rfl rfl) (qa_cons (q_var 1) (qa_cons q_int qa_nil))) (fun _ _ => rfl)))
      (qs_cons (qs_set (i := 12) sc_law.nd (q_ix ix_seq ok_ix (q_lst (qa_cons q_int (qa_cons q_int (qa_cons (q_un un_neg ok_neg q_int) (qa_cons (q_call G__law_odd (hr.mono (by decide : 6 ≤ 9)) (T.glo 42) k__law_odd b__law_odd (takes_of rfl rfl rfl rfl) (qa_cons (q_call G__law_source (hr.mono (by decide : 1 ≤ 9)) (T.glo 43) k__law_source b__law_source (takes_of rfl rfl rfl rfl) (qa_cons (q_var 0) (qa_cons q_int qa_nil))) qa_nil)) qa_nil))))) (q_call G__law_draw (hr.mono (by decide : 4 ≤ 9)) (T.glo 15) k__law_draw b__law_draw (takes_of rfl rfl rfl rfl) (qa_cons (q_var 1) (qa_cons q_int qa_nil))) (fun _ _ => rfl)))
      (qs_cons (qs_set (i := 13) sc_law.nd (q_ifE (qt_cmp (or_inZ rfl (hr.mono (by decide : 0 ≤ 9))) ok_inZ (q_var 10) (q_tup (qa_cons q_int (qa_cons q_int qa_nil))) (by rfl)) (q_var 11) (q_var 2)))
      (qs_cons (qs_set (i := 14) sc_law.nd (q_ifE (qt_cmp (or_inZ rfl (hr.mono (by decide : 0 ≤ 9))) ok_inZ (q_var 10) (q_tup (qa_cons q_int (qa_cons q_int qa_nil))) (by rfl)) (q_var 12) (q_var 3)))
      (qs_cons (qs_set (i := 15) sc_law.nd (q_ifE (qt_cmp (or_eqZ rfl (hr.mono (by decide : 3 ≤ 9)) (eqc T)) (ok_eqZ T.ins) (q_var 10) q_int (nomark _)) (q_call G__law_odd (hr.mono (by decide : 6 ≤ 9)) (T.glo 42) k__law_odd b__law_odd (takes_of rfl rfl rfl rfl) (qa_cons (q_call G__law_source (hr.mono (by decide : 1 ≤ 9)) (T.glo 43) k__law_source b__law_source (takes_of rfl rfl rfl rfl) (qa_cons (q_var 0) (qa_cons q_int qa_nil))) qa_nil)) (q_callTy call_list_of ok_list (T.free 22) (by decide +kernel) (qa_cons (q_var 4) qa_nil))))
      (qs_cons (qs_if (qt_cmp op_gt ok_cmp (q_var 10) q_int (nomark _)) (qs_one (qs_set (i := 15) sc_law.nd (q_callTy call_tuple_of ok_tuple (T.free 18) (by decide +kernel) (qa_cons (q_var 4) qa_nil)))) qs_nil)
      (qs_cons (qs_set (i := 16) sc_law.nd (q_call G__law_due (hr.mono (by decide : 6 ≤ 9)) (T.glo 46) k__law_due b__law_due (takes_of rfl rfl rfl rfl) (qa_cons (q_var 13) (qa_cons (q_var 14) (qa_cons (q_var 15) qa_nil)))))
      (qs_cons (qs_set (i := 17) sc_law.nd (q_call G__law_told (hr.mono (by decide : 9 ≤ 9)) (T.glo 47) k__law_told b__law_told (takes_of rfl rfl rfl rfl) (qa_cons (q_var 13) (qa_cons (q_var 14) (qa_cons (q_var 15) qa_nil)))))
      (qs_cons (qs_if (qt_cmp op_notN ok_notN (q_var 16) q_non (nomark _)) (qs_one (qs_ret (q_and (q_cmp (or_eqZ rfl (hr.mono (by decide : 3 ≤ 9)) (eqc T)) (ok_eqZ T.ins) (q_ix ix_seq ok_ix (q_var 17) q_int (fun _ _ => rfl)) q_str (nomark _)) (q_and (q_cmp (or_eqZ rfl (hr.mono (by decide : 3 ≤ 9)) (eqc T)) (ok_eqZ T.ins) (q_ix ix_seq ok_ix (q_var 17) q_int (fun _ _ => rfl)) (q_ix ix_seq ok_ix (q_var 16) q_int (fun _ _ => rfl)) (nomark _)) (q_one (q_call G__law_alike (hr.mono (by decide : 4 ≤ 9)) (T.glo 48) k__law_alike b__law_alike (takes_of rfl rfl rfl rfl) (qa_cons (q_ix ix_seq ok_ix (q_var 17) q_int (fun _ _ => rfl)) (qa_cons (q_ix ix_seq ok_ix (q_var 16) q_int (fun _ _ => rfl)) qa_nil)))))))) qs_nil)
      (qs_cons (qs_if (PW.pt (qw_or (qt_cmp (or_ne (k := 3) rfl (hr.mono (by decide : 4 ≤ 9)) (nec T)) ok_neX (q_ix ix_seq ok_ix (q_var 17) q_int (fun _ _ => rfl)) q_str (nomark _)) (qw_or1 (qt_not (qt_val (q_call G__law_net_right (hr.mono (by decide : 4 ≤ 9)) (T.glo 49) k__law_net_right b__law_net_right (takes_of rfl rfl rfl rfl) (qa_cons (q_ix ix_seq ok_ix (q_var 17) q_int (fun _ _ => rfl)) (qa_cons (q_var 13) (qa_cons (q_var 14) (qa_cons (q_var 15) qa_nil)))))))))) (qs_one (qs_ret q_bl)) qs_nil)
      (qs_cons (qs_set (i := 18) sc_law.nd (q_callTy call_list_of ok_list (T.free 22) (by decide +kernel) (qa_cons (q_var 15) qa_nil)))
      (qs_cons (qs_if (qt_val (q_isi (T := (.bi "list")) rfl T.ins (T.is_ 23) (T.free 4) (q_var 15) (pe_bltn (v := .ty "list") rfl (T.free 22) (by decide +kernel) rfl))) (qs_one (qs_expr (q_bm rfl ok_append PySem.F.plainAttrs_list PySem.F.slot_list_append PySem.F.type_list_append mt_append (q_var 15) (qa_cons (q_tup (qa_cons q_int (qa_cons q_int (qa_cons q_int (qa_cons q_int qa_nil))))) qa_nil)))) qs_nil)
      (qs_one (qs_ret (q_and (q_call G__law_net_right (hr.mono (by decide : 4 ≤ 9)) (T.glo 49) k__law_net_right b__law_net_right (takes_of rfl rfl rfl rfl) (qa_cons (q_ix ix_seq ok_ix (q_var 17) q_int (fun _ _ => rfl)) (qa_cons (q_var 2) (qa_cons (q_var 3) (qa_cons (q_var 18) qa_nil))))) (q_one (q_call G__law_equal_right (hr.mono (by decide : 9 ≤ 9)) (T.glo 50) k__law_equal_right b__law_equal_right (takes_of rfl rfl rfl rfl) (qa_cons (q_ix ix_seq ok_ix (q_var 17) q_int (fun _ _ => rfl)) (qa_cons (q_var 2) (qa_cons (q_var 3) (qa_cons (q_var 18) qa_nil)))))))))))))))))))))))))))))
end
/-! ### the head -/
def loose0 : List Str := ["_wall", "__name__", "SpansError", "BadNumber", "BadBeat", "BadEvents", "BadSpan", "is_integer", "is_below", "is_number", "top_of", "bottom_of", "Ratio", "LEAST_BEAT", "MOST_BEAT", "MOST_EVENTS", "MOST_SPANS", "MOST_HIGH", "Net", "are_events", "is_span", "spans_fault", "_law_source", "_law_draw", "_law_integer", "_law_odd", "_law_alike", "_law_told", "_law_is_span", "_law_due"]
def loose1 : List Str := ["_law_rows", "_law_changed", "_law_net_right", "_law_equal_right"]
def loose : List Str := loose0 ++ loose1
abbrev R : PySem.W.OpenRow := PySem.W.OpenLaw.row PySem.Challenge.rw_likespans_k02_nets_made
abbrev hk : PySem.W.Hook := hookL 4 fa fn
def ob (s : PySem.W.SharedT) : He.AlD := obsLG 4 fa fn (HandSHeadRun.getT s)
theorem ob_eq (s : PySem.W.SharedT) : ob s = hk.obs s.abs := obsLG_eq (HandSHeadRun.getT_eq s)
theorem run (w : World) : HandSHeadRun.RunEqI R (PySem.W.view R.prog [0, 38]) hk ob 12000 loose w := by
  unfold HandSHeadRun.RunEqI
  kernel_rfl
end Mi_k02
open PySem PySem.W PySem.Calls PyProof.Rows in
theorem Mi_k02.holds_of (h : ∀ ns : List Int, ns.length ≤ 63 → ∃ S', Mi_k02.f_law [.rol (ns.map Lk.D.int)] [] = .ok (.bl true) S') : PySem.Challenge.rw_likespans_k02_nets_made.Holds := by
  w_on; o_law
  refine HandSHeadRun.head_imp (r := OpenLaw.row PySem.Challenge.rw_likespans_k02_nets_made) (q := view (OpenLaw.row PySem.Challenge.rw_likespans_k02_nets_made).prog [0, 38]) (H := Mi_k02.hk) (ob := Mi_k02.ob) (M := 12000) (loose := Mi_k02.loose) (d := HandSHeadRun.topDef (OpenLaw.row PySem.Challenge.rw_likespans_k02_nets_made).prog 38) (kwd := []) Mi_k02.ob_eq
     Mi_k02.run (by kernel_rfl) (by kernel_rfl) (by kernel_rfl) (by rfl) (by first | assumption | decide +kernel) (by decide +kernel) ⟨rfl, rfl, rfl, rfl, rfl, by decide +kernel⟩ ?hw ?hc
  case hw => w_witness2
  case hc =>
    refine Lk.walk_fin (l := PySem.Challenge.rw_likespans_k02_nets_made) (n := 63) (k := 10) (x := "_law_script") (m := Mi_k02.f_law) rfl (by decide) (by kernel_rfl) ⟨rfl, by decide, by decide⟩ h ?F
    intro w mg fa h' Y G hmg0
    obtain ⟨K, KX, c⟩ := Y
    have hmg : mg ("law" : PySem.Str) = some (.ref fa) := by
      have e : (HandSHeadRun.topDef (OpenLaw.row PySem.Challenge.rw_likespans_k02_nets_made).prog 38).name = ("law" : PySem.Str) := by kernel_rfl
      rw [← e]
      exact hmg0
    have T : Mi_k02.Txt K mg := ⟨c, h', KX, G⟩
    obtain ⟨fd, b, F⟩ := Mi_k02.ok_law (P := (PySem.Challenge.rw_likespans_k02_nets_made).prog) (w := w) T
    have e := hmg.symm.trans (T.glo 51)
    cases e
    exact ⟨Mi_k02.Gm K, fd, rfl, KX, b, fun base _ _ => F base⟩

set_option linter.all false
set_option autoImplicit false
set_option maxRecDepth 100000
set_option maxHeartbeats 4000000
namespace Mi_k02
open PySem Lk L2
theorem eqd_int (S : Store) (i j : Int) : gEqX cs oe (.int i) (.int j) S = .ok (.bl (decide (i = j))) S := by
  unfold gEqX eqData
  simp only [pyD]
  have sh : ∀ k : Int, SeqAt.shaped (.int k) = true := fun k => by
    simp [SeqAt.shaped, PyData.canLay0, PyData.depth]
  simp only [sh, and_self, if_true, PyData.eqv]
  rfl
theorem eqz_int (S : Store) (i j : Int) : gEqZ cs oe (.int i) (.int j) S = .ok (.bl (decide (i = j))) S := by
  unfold gEqZ
  exact eqd_int S i j
theorem at40 (x y z w : D) : atI [x, y, z, w] 0 = some x := rfl
theorem at41 (x y z w : D) : atI [x, y, z, w] 1 = some y := rfl
theorem at42 (x y z w : D) : atI [x, y, z, w] 2 = some z := rfl
theorem at43 (x y z w : D) : atI [x, y, z, w] 3 = some w := rfl
theorem ix40 : ixN 4 0 = some 0 := rfl
theorem ix41 : ixN 4 1 = some 1 := rfl
theorem ix42 : ixN 4 2 = some 2 := rfl
theorem ix43 : ixN 4 3 = some 3 := rfl
theorem pow1010 (S : Store) : Lk.gPow (.int 10) (.int 10) S = .ok (.int 10000000000) S := by
  unfold Lk.gPow
  dsimp only
  rw [if_pos (by decide)]
  rfl
theorem pow1018 (S : Store) : Lk.gPow (.int 10) (.int 18) S = .ok (.int 1000000000000000000) S := by
  unfold Lk.gPow
  dsimp only
  rw [if_pos (by decide)]
  rfl
theorem pow1019 (S : Store) : Lk.gPow (.int 10) (.int 19) S = .ok (.int 10000000000000000000) S := by
  unfold Lk.gPow
  dsimp only
  rw [if_pos (by decide)]
  rfl
theorem gc_len {S S' : Store} {d : D} (h : S'.length = S.length) : gc S d S' = .ok d S' := by
  unfold Lk.gc
  split
  · rename_i c
    have : S'.take S.length = S' := by rw [← h, List.take_length]
    rw [← this, c.2]
  · rfl
theorem bits_lt {i : Int} (k : Nat) (h : i.natAbs < 2 ^ k) (hk : 0 < k) : bits i < k := by
  unfold bits
  by_cases z : i.natAbs = 0
  · rw [z]; simpa using hk
  · exact (Nat.log2_lt z).mpr h
theorem mul_ok {i j : Int} (h1 : i.natAbs < 2 ^ 1000) (h2 : j.natAbs < 2 ^ 1000) : bits i + bits j < 1000000 := by
  have := bits_lt 1000 h1 (by decide)
  have := bits_lt 1000 h2 (by decide)
  omega
theorem small {i : Int} (h1 : -1606938044258990275541962092341162602522202993782792835301376 ≤ i) (h2 : i ≤ 1606938044258990275541962092341162602522202993782792835301376) : i.natAbs < 2 ^ 1000 := by
  have e : (1606938044258990275541962092341162602522202993782792835301376 : Nat) < 2 ^ 1000 := by decide +kernel
  have : i.natAbs ≤ 1606938044258990275541962092341162602522202993782792835301376 := by omega
  exact Nat.lt_of_le_of_lt this e
theorem fmd_pos {i j : Int} (h : 0 < j) : 0 ≤ fmd i j ∧ fmd i j < j := by
  unfold fmd
  rw [if_pos h]
  exact ⟨Int.emod_nonneg _ (by omega), Int.emod_lt_of_pos _ h⟩
theorem fdv_pos {i j : Int} (h : 0 < j) : fdv i j = i / j := if_pos h
def Src4 (S : Store) (n : Nat) (a b c d : Int) : Prop := S[n]? = some (.lst [.int a, .int b, .int c, .int d])
theorem draw_ok {S : Store} {n : Nat} {a b c d m : Int} (h : Src4 S n a b c d) (hm : 0 < m) (hm2 : bits m < 9000) (hc : 0 ≤ c ∧ c < 2 ^ 60) (hd : 0 ≤ d ∧ d < 2 ^ 60) :
    ∃ r a' c', 0 ≤ r ∧ r < m ∧ c ≤ c' ∧ c' ≤ c + 1 ∧ f__law_draw [.ref n, .int m] S = .ok (.int r) (S.set n (.lst [.int a', .int b, .int c', .int d])) := by
  unfold Src4 at h
  have hn : n < S.length := by
    rcases Nat.lt_or_ge n S.length with z | z
    · exact z
    · rw [List.getElem?_eq_none z] at h; cases h
  have hm0 : m ≠ 0 := by omega
  by_cases hb : b = 1 ∧ 0 < a
  · obtain ⟨hb, ha⟩ := hb
    subst hb
    unfold f__law_draw mDef b__law_draw
    simp only [mSeq, RS.seq, mIfS, mTest, mSet, mRet, mVar, mC, mNil, mCons, Lk.m1, Lk.m2, mB, mAnd, mOr, mNot, mAndT, mOrT, mNotT, mIf, mAsg, mNext, mCall, R.bind, R.bindS, R.nxt, asB, gSub', mTup, mLst, List.getElem?_cons_succ, List.getElem?_cons_zero, List.getElem?_nil, List.set_cons_succ, List.set_cons_zero, List.map_cons, List.map_nil, List.cons_append, List.nil_append, List.length_cons, List.length_nil, List.replicate, Lk.gIx, Lk.gAdd, Lk.gSub, Lk.gMul, Lk.gDiv, Lk.gMod, gInt, gCmp, gNeg, gAbs, gGcd, gLen, List.length_map, Lk.listOf, stIx, if_true, if_false, Bool.false_eq_true, reduceIte, Nat.reduceAdd, Nat.reduceSub, Nat.zero_add, eqz_int, pow1010, pow1018, pow1019, Int.reduceMul, Int.reduceAdd, ix40, ix41, ix42, ix43, at40, at41, at42, at43, and_true, true_and, and_self, ne_eq, not_false_eq_true, decide_true, decide_false, decide_eq_true_eq, Bool.and_true, Bool.true_and, *]
    exact ⟨_, _, _, (fmd_pos hm).1, (fmd_pos hm).2, by omega, by omega, gc_len (by simp)⟩
  · have hg : ∀ x, (List.set S n x)[n]? = some x := fun x => by simp [hn]
    obtain ⟨x1, hx1⟩ : ∃ x, fmd ((d + 7919 * (c + 1) + 1) * 48271) 2147483647 = x := ⟨_, rfl⟩
    have b1 := hx1 ▸ fmd_pos (i := (d + 7919 * (c + 1) + 1) * 48271) (j := 2147483647) (by decide)
    obtain ⟨y1, hy1⟩ : ∃ x, fdv x1 1009 = x := ⟨_, rfl⟩
    obtain ⟨x2, hx2⟩ : ∃ x, fmd (x1 * (y1 + 69621)) 2147483647 = x := ⟨_, rfl⟩
    have b2 := hx2 ▸ fmd_pos (i := x1 * (y1 + 69621)) (j := 2147483647) (by decide)
    obtain ⟨y2, hy2⟩ : ∃ x, fdv x2 2003 = x := ⟨_, rfl⟩
    obtain ⟨x3, hx3⟩ : ∃ x, fmd (x2 * (y2 + 40692)) 2147483399 = x := ⟨_, rfl⟩
    have c1 : y1 = x1 / 1009 := by rw [← hy1]; exact fdv_pos (by decide)
    have c2 : y2 = x2 / 2003 := by rw [← hy2]; exact fdv_pos (by decide)
    have m1 : bits 7919 + bits (c + 1) < 1000000 := mul_ok (small (by decide +kernel) (by decide +kernel)) (small (by omega) (by omega))
    have m2 : bits (d + 7919 * (c + 1) + 1) + bits 48271 < 1000000 := mul_ok (small (by omega) (by omega)) (small (by decide +kernel) (by decide +kernel))
    have m3 : bits x1 + bits (y1 + 69621) < 1000000 := mul_ok (small (by omega) (by omega)) (small (by omega) (by omega))
    have m4 : bits x2 + bits (y2 + 40692) < 1000000 := mul_ok (small (by omega) (by omega)) (small (by omega) (by omega))
    have d1 : bits 1009 < 9000 := by decide +kernel
    have d2 : bits 2003 < 9000 := by decide +kernel
    have k1 : ¬ (2147483647 : Int) = 0 := by decide
    have k2 : ¬ (2147483399 : Int) = 0 := by decide
    have k3 : ¬ (1009 : Int) = 0 := by decide
    have k4 : ¬ (2003 : Int) = 0 := by decide
    clear c1 c2
    refine ⟨fmd x3 m, a, c + 1, (fmd_pos hm).1, (fmd_pos hm).2, by omega, by omega, ?_⟩
    unfold f__law_draw mDef b__law_draw
    by_cases b0 : b = 1
    · have ha : ¬ 0 < a := fun z => hb ⟨b0, z⟩
      subst b0
      simp only [mSeq, RS.seq, mIfS, mTest, mSet, mRet, mVar, mC, mNil, mCons, Lk.m1, Lk.m2, mB, mAnd, mOr, mNot, mAndT, mOrT, mNotT, mIf, mAsg, mNext, mCall, R.bind, R.bindS, R.nxt, asB, gSub', mTup, mLst, List.getElem?_cons_succ, List.getElem?_cons_zero, List.getElem?_nil, List.set_cons_succ, List.set_cons_zero, List.map_cons, List.map_nil, List.cons_append, List.nil_append, List.length_cons, List.length_nil, List.replicate, Lk.gIx, Lk.gAdd, Lk.gSub, Lk.gMul, Lk.gDiv, Lk.gMod, gInt, gCmp, gNeg, gAbs, gGcd, gLen, List.length_map, Lk.listOf, stIx, if_true, if_false, Bool.false_eq_true, reduceIte, Nat.reduceAdd, Nat.reduceSub, Nat.zero_add, eqz_int, pow1010, pow1018, pow1019, Int.reduceMul, Int.reduceAdd, ix40, ix41, ix42, ix43, at40, at41, at42, at43, and_true, true_and, and_self, ne_eq, not_false_eq_true, decide_true, decide_false, decide_eq_true_eq, Bool.and_true, Bool.true_and, *]
      refine gc_len ?_
      simp
    · simp only [mSeq, RS.seq, mIfS, mTest, mSet, mRet, mVar, mC, mNil, mCons, Lk.m1, Lk.m2, mB, mAnd, mOr, mNot, mAndT, mOrT, mNotT, mIf, mAsg, mNext, mCall, R.bind, R.bindS, R.nxt, asB, gSub', mTup, mLst, List.getElem?_cons_succ, List.getElem?_cons_zero, List.getElem?_nil, List.set_cons_succ, List.set_cons_zero, List.map_cons, List.map_nil, List.cons_append, List.nil_append, List.length_cons, List.length_nil, List.replicate, Lk.gIx, Lk.gAdd, Lk.gSub, Lk.gMul, Lk.gDiv, Lk.gMod, gInt, gCmp, gNeg, gAbs, gGcd, gLen, List.length_map, Lk.listOf, stIx, if_true, if_false, Bool.false_eq_true, reduceIte, Nat.reduceAdd, Nat.reduceSub, Nat.zero_add, eqz_int, pow1010, pow1018, pow1019, Int.reduceMul, Int.reduceAdd, ix40, ix41, ix42, ix43, at40, at41, at42, at43, and_true, true_and, and_self, ne_eq, not_false_eq_true, decide_true, decide_false, decide_eq_true_eq, Bool.and_true, Bool.true_and, *]
      exact gc_len (by simp)
/-- the source after some draws -/
def Src (S : Store) (n : Nat) (k : Int) : Prop := ∃ a b c d, Src4 S n a b c d ∧ 0 ≤ c ∧ c ≤ k ∧ 0 ≤ d ∧ d < 2 ^ 60
/-- what a draw leaves: the source alone is changed -/
def Ch (S : Store) (n : Nat) (S' : Store) : Prop := ∃ o, S' = S.set n o
theorem Src.mono {S : Store} {n : Nat} {j k : Int} (h : Src S n j) (hk : j ≤ k) : Src S n k := by
  obtain ⟨a, b, c, d, h, h1, h2, h3, h4⟩ := h
  exact ⟨a, b, c, d, h, h1, by omega, h3, h4⟩
theorem Ch.len {S S' : Store} {n : Nat} (h : Ch S n S') : S'.length = S.length := by
  obtain ⟨o, rfl⟩ := h; simp
theorem Ch.trans {S S' S'' : Store} {n : Nat} (h : Ch S n S') (h' : Ch S' n S'') : Ch S n S'' := by
  obtain ⟨o, rfl⟩ := h
  obtain ⟨o', rfl⟩ := h'
  exact ⟨o', by simp⟩
theorem draw {S : Store} {n : Nat} {k m : Int} (h : Src S n k) (hk : k < 2 ^ 50) (hm : 0 < m) (hm2 : bits m < 9000) : ∃ r S', 0 ≤ r ∧ r < m ∧ f__law_draw [.ref n, .int m] S = .ok (.int r) S' ∧ Src S' n (k + 1) ∧ Ch S n S' := by
  obtain ⟨a, b, c, d, h, h1, h2, h3, h4⟩ := h
  have hn : n < S.length := by
    rcases Nat.lt_or_ge n S.length with z | z
    · exact z
    · unfold Src4 at h; rw [List.getElem?_eq_none z] at h; cases h
  obtain ⟨r, a', c', r1, r2, c1, c2, e⟩ := draw_ok h hm hm2 ⟨h1, by omega⟩ ⟨h3, h4⟩
  exact ⟨r, _, r1, r2, e, ⟨a', b, c', d, by unfold Src4; simp [hn], by omega, by omega, h3, h4⟩, ⟨_, rfl⟩⟩
theorem bits_small {i : Int} (h1 : -1606938044258990275541962092341162602522202993782792835301376 ≤ i) (h2 : i ≤ 1606938044258990275541962092341162602522202993782792835301376) : bits i < 1000 := bits_lt 1000 (small h1 h2) (by decide)
/-- the source from a script -/
theorem source (ns : List Int) (hl : ns.length ≤ 63) (k : Nat) (hk : k ≤ 10) (S : Store) : ∃ S', f__law_source [.rol (ns.map D.int), .int k] S = .ok (.ref S.length) (S ++ S') ∧ S'.length = 1 ∧ Src (S ++ S') S.length 0 := by
  have g0 : ∀ l : List D, ∀ i : Nat, ∀ d, l[i]? = some d → atI l (i : Int) = some d := fun l i d h => by
    have hi : i < l.length := by
      rcases Nat.lt_or_ge i l.length with z | z
      · exact z
      · rw [List.getElem?_eq_none z] at h; cases h
    unfold atI ixN
    have : l[i] = d := by
      rw [List.getElem?_eq_getElem hi] at h
      exact Option.some.inj h
    simp [hi, this]
  have key : ∀ (a b d : Int), 0 ≤ d → d < 2 ^ 60 → Src (S ++ [.lst [.int a, .int b, .int 0, .int d]]) S.length 0 := fun a b d h1 h2 => ⟨a, b, 0, d, by unfold Src4; simp, by omega, by omega, h1, h2⟩
  have gcl : ∀ T : Store, T.length = 1 → gc S (.ref S.length) (S ++ T) = .ok (.ref S.length) (S ++ T) := fun T hT => by
    unfold Lk.gc
    rw [if_neg]
    rintro ⟨c, _⟩
    simp [D.cl] at c
  unfold f__law_source mDef b__law_source
  have hlen : ((ns.map D.int).length : Int) = (ns.length : Int) := by simp
  have km : ¬ (2147483629 : Int) = 0 := by decide
  have mk : bits 104729 + bits (k : Int) < 1000000 := mul_ok (small (by decide +kernel) (by decide +kernel)) (small (by omega) (by omega))
  have z1 : (1 : Nat) ≤ lim := by decide
  have z4 : (4 : Nat) ≤ lim := by decide
  by_cases hk2 : (k : Int) < (ns.length : Int)
  · obtain ⟨x, hx⟩ : ∃ x, ns[k]? = some x := ⟨ns[k]'(by omega), List.getElem?_eq_getElem (by omega)⟩
    have fb := fmd_pos (i := x) (j := 2147483629) (by decide)
    have ex : atI (ns.map D.int) (k : Int) = some (D.int x) := g0 _ _ _ (by rw [List.getElem?_map, hx]; rfl)
    simp only [mSeq, RS.seq, mIfS, mTest, mSet, mRet, mVar, mC, mNil, mCons, Lk.m1, Lk.m2, mB, mAnd, mOr, mNot, mAndT, mOrT, mNotT, mIf, mAsg, mNext, mCall, R.bind, R.bindS, R.nxt, asB, gSub', mTup, mLst, List.getElem?_cons_succ, List.getElem?_cons_zero, List.getElem?_nil, List.set_cons_succ, List.set_cons_zero, List.map_cons, List.map_nil, List.cons_append, List.nil_append, List.length_cons, List.length_nil, List.replicate, Lk.gIx, Lk.gAdd, Lk.gSub, Lk.gMul, Lk.gDiv, Lk.gMod, gInt, gCmp, gNeg, gAbs, gGcd, gLen, List.length_map, Lk.listOf, stIx, if_true, if_false, Bool.false_eq_true, reduceIte, Nat.reduceAdd, Nat.reduceSub, Nat.zero_add, eqz_int, pow1010, pow1018, pow1019, Int.reduceMul, Int.reduceAdd, ix40, ix41, ix42, ix43, at40, at41, at42, at43, and_true, true_and, and_self, ne_eq, not_false_eq_true, decide_true, decide_false, decide_eq_true_eq, Bool.and_true, Bool.true_and, *]
    exact ⟨_, rfl, rfl, key _ _ _ fb.1 (by omega)⟩
  · have hk3 : decide ((k : Int) < (ns.length : Int)) = false := decide_eq_false hk2
    by_cases h0 : 0 < (ns.length : Int)
    · obtain ⟨x, hx⟩ : ∃ x, ns[0]? = some x := ⟨ns[0]'(by omega), List.getElem?_eq_getElem (by omega)⟩
      have ex : atI (ns.map D.int) (0 : Int) = some (D.int x) := g0 _ 0 _ (by rw [List.getElem?_map, hx]; rfl)
      have fb := fmd_pos (i := x) (j := 2147483629) (by decide)
      simp only [mSeq, RS.seq, mIfS, mTest, mSet, mRet, mVar, mC, mNil, mCons, Lk.m1, Lk.m2, mB, mAnd, mOr, mNot, mAndT, mOrT, mNotT, mIf, mAsg, mNext, mCall, R.bind, R.bindS, R.nxt, asB, gSub', mTup, mLst, List.getElem?_cons_succ, List.getElem?_cons_zero, List.getElem?_nil, List.set_cons_succ, List.set_cons_zero, List.map_cons, List.map_nil, List.cons_append, List.nil_append, List.length_cons, List.length_nil, List.replicate, Lk.gIx, Lk.gAdd, Lk.gSub, Lk.gMul, Lk.gDiv, Lk.gMod, gInt, gCmp, gNeg, gAbs, gGcd, gLen, List.length_map, Lk.listOf, stIx, if_true, if_false, Bool.false_eq_true, reduceIte, Nat.reduceAdd, Nat.reduceSub, Nat.zero_add, eqz_int, pow1010, pow1018, pow1019, Int.reduceMul, Int.reduceAdd, ix40, ix41, ix42, ix43, at40, at41, at42, at43, and_true, true_and, and_self, ne_eq, not_false_eq_true, decide_true, decide_false, decide_eq_true_eq, Bool.and_true, Bool.true_and, *]
      exact ⟨_, rfl, rfl, key _ _ _ (by omega) (by omega)⟩
    · simp only [mSeq, RS.seq, mIfS, mTest, mSet, mRet, mVar, mC, mNil, mCons, Lk.m1, Lk.m2, mB, mAnd, mOr, mNot, mAndT, mOrT, mNotT, mIf, mAsg, mNext, mCall, R.bind, R.bindS, R.nxt, asB, gSub', mTup, mLst, List.getElem?_cons_succ, List.getElem?_cons_zero, List.getElem?_nil, List.set_cons_succ, List.set_cons_zero, List.map_cons, List.map_nil, List.cons_append, List.nil_append, List.length_cons, List.length_nil, List.replicate, Lk.gIx, Lk.gAdd, Lk.gSub, Lk.gMul, Lk.gDiv, Lk.gMod, gInt, gCmp, gNeg, gAbs, gGcd, gLen, List.length_map, Lk.listOf, stIx, if_true, if_false, Bool.false_eq_true, reduceIte, Nat.reduceAdd, Nat.reduceSub, Nat.zero_add, eqz_int, pow1010, pow1018, pow1019, Int.reduceMul, Int.reduceAdd, ix40, ix41, ix42, ix43, at40, at41, at42, at43, and_true, true_and, and_self, ne_eq, not_false_eq_true, decide_true, decide_false, decide_eq_true_eq, Bool.and_true, Bool.true_and, *]
      exact ⟨_, rfl, rfl, key _ _ _ (by omega) (by omega)⟩
end Mi_k02

set_option linter.all false
set_option autoImplicit false
set_option maxRecDepth 100000
set_option maxHeartbeats 4000000
namespace Mi_k02
open PySem Lk L2
def isInt : D → Bool | .int _ => true | _ => false
def isBl : D → Bool | .bl _ => true | _ => false
def isR : D → Bool | .ins C _ => C == ("Ratio" : Str) | _ => false
def isN : D → Bool | .ins C _ => C == ("Net" : Str) | _ => false
def isTup : D → Bool | .tup _ => true | _ => false
def Kn (S : Store) (d : D) : Prop := ∃ t, tyK S d = some t ∧ okK cs t = true
theorem gI_any {S : Store} {d : D} (h : Kn S d) : gIsi cs [.bi "int"] d S = .ok (.bl (isInt d || isBl d)) S ∧ gIsi cs [.bi "bool"] d S = .ok (.bl (isBl d)) S ∧ gIsi cs [.own "Ratio"] d S = .ok (.bl (isR d)) S := by
  obtain ⟨t, h1, h2⟩ := h
  unfold gIsi
  rw [h1]
  dsimp only
  rw [if_pos h2, if_pos h2, if_pos h2]
  have key : ∀ (t : CK) (x y z : Bool), isA t (.bi "int") = x → isA t (.bi "bool") = y → isA t (.own "Ratio") = z → (R.ok (D.bl ([CK.bi "int"].any fun T => isA t T)) S = R.ok (D.bl x) S ∧ R.ok (D.bl ([CK.bi "bool"].any fun T => isA t T)) S = R.ok (D.bl y) S ∧ R.ok (D.bl ([CK.own "Ratio"].any fun T => isA t T)) S = R.ok (D.bl z) S) := fun t x y z h1 h2 h3 => by
    simp [h1, h2, h3]
  cases d with
  | non => cases h1; exact key _ _ _ _ (by decide) (by decide) (by decide)
  | bl b => cases h1; exact key _ _ _ _ (by simp [isInt, isBl, isA]) (by simp [isInt, isBl, isA]) (by simp [isR, isA])
  | int b => cases h1; exact key _ _ _ _ (by simp [isInt, isBl, isA]) (by simp [isInt, isBl, isA]) (by simp [isR, isA])
  | str b => cases h1; exact key _ _ _ _ (by simp [isInt, isBl, isA]) (by simp [isInt, isBl, isA]) (by simp [isR, isA])
  | tup b => cases h1; exact key _ _ _ _ (by simp [isInt, isBl, isA]) (by simp [isInt, isBl, isA]) (by simp [isR, isA])
  | rol b => cases h1; exact key _ _ _ _ (by simp [isInt, isBl, isA]) (by simp [isInt, isBl, isA]) (by simp [isR, isA])
  | ref n =>
    have h1 : (match S[n]? with
      | some (.lst _) => some (CK.bi "list")
      | some (.dk _) => some (.bi "dict")
      | some (.dt _) => some (.bi "dict")
      | _ => none) = some t := h1
    split at h1 <;> cases h1 <;> exact key _ _ _ _ (by simp [isInt, isBl, isA]) (by simp [isInt, isBl, isA]) (by simp [isR, isA])
  | ins C ds => cases h1; exact key _ _ _ _ (by simp [isInt, isBl, isA]) (by simp [isInt, isBl, isA]) (by simp [isR, isA])
theorem gc_eq {S : Store} {d : D} : gc S d S = .ok d S := gc_self
theorem isint {S : Store} {d : D} (h : Kn S d) : f_is_integer [d] S = .ok (.bl (isInt d)) S := by
  obtain ⟨h1, h2, h3⟩ := gI_any h
  unfold f_is_integer mDef b_is_integer
  cases q : isInt d <;> cases q2 : isBl d <;> rw [q, q2] at h1 <;> rw [q2] at h2 <;> simp only [mSeq, RS.seq, mIfS, mTest, mSet, mRet, mVar, mC, mNil, mCons, Lk.m1, Lk.m2, mB, mAnd, mOr, mNot, mAndT, mOrT, mNotT, mIf, mAsg, mNext, mCall, R.bind, R.bindS, R.nxt, asB, gSub', mTup, mLst, List.getElem?_cons_succ, List.getElem?_cons_zero, List.getElem?_nil, List.set_cons_succ, List.set_cons_zero, List.map_cons, List.map_nil, List.cons_append, List.nil_append, List.length_cons, List.length_nil, List.replicate, Lk.gIx, Lk.gAdd, Lk.gSub, Lk.gMul, Lk.gDiv, Lk.gMod, gInt, gCmp, gNeg, gAbs, gGcd, gLen, List.length_map, Lk.listOf, stIx, if_true, if_false, Bool.false_eq_true, reduceIte, Nat.reduceAdd, Nat.reduceSub, Nat.zero_add, eqz_int, pow1010, pow1018, pow1019, Int.reduceMul, Int.reduceAdd, ix40, ix41, ix42, ix43, at40, at41, at42, at43, and_true, true_and, and_self, ne_eq, not_false_eq_true, decide_true, decide_false, decide_eq_true_eq, Bool.and_true, Bool.true_and, *] <;> first | exact gc_eq | (cases d <;> cases q <;> cases q2) | trace_state
theorem lint : f__law_integer = f_is_integer := rfl
theorem kn_int (S : Store) (i : Int) : Kn S (.int i) := ⟨.bi "int", rfl, by decide⟩
theorem kn_bl (S : Store) (i : Bool) : Kn S (.bl i) := ⟨.bi "bool", rfl, by decide⟩
theorem kn_rat (S : Store) (i : List D) : Kn S (.ins "Ratio" i) := ⟨.own "Ratio", rfl, by decide⟩
/-- the things that are no integers -/
inductive Odd (S : Store) : D → Prop
  | non : Odd S .non
  | bl (b : Bool) : Odd S (.bl b)
  | str (x : Str) : PyData.strOk x = true → Odd S (.str x)
  | rt (p q : Int) : Odd S (.ins "Ratio" [.int p, .int q])
  | t0 : Odd S (.tup [])
  | t1 : Odd S (.tup [.int 3])
  | l0 {n : Nat} : S[n]? = some (.lst []) → Odd S (.ref n)
  | l1 {n : Nat} : S[n]? = some (.lst [.int 5]) → Odd S (.ref n)
  | d0 {n : Nat} : S[n]? = some (.dk []) → Odd S (.ref n)
  | d1 {n : Nat} : S[n]? = some (.dk [(.inl 1, .int 2)]) → Odd S (.ref n)
theorem Odd.kn {S : Store} {d : D} (h : Odd S d) : Kn S d := by
  cases h with
  | l0 h => exact ⟨.bi "list", by simp [tyK, h], by decide⟩
  | l1 h => exact ⟨.bi "list", by simp [tyK, h], by decide⟩
  | d0 h => exact ⟨.bi "dict", by simp [tyK, h], by decide⟩
  | d1 h => exact ⟨.bi "dict", by simp [tyK, h], by decide⟩
  | non => exact ⟨.bi "NoneType", rfl, by decide⟩
  | bl b => exact kn_bl S b
  | str => exact ⟨.bi "str", rfl, by decide⟩
  | rt p q => exact kn_rat S _
  | t0 => exact ⟨.bi "tuple", rfl, by decide⟩
  | t1 => exact ⟨.bi "tuple", rfl, by decide⟩
theorem Odd.notInt {S : Store} {d : D} (h : Odd S d) : isInt d = false := by cases h <;> rfl
theorem getlt {S : Store} {n : Nat} {o : Ob} (h : S[n]? = some o) : n < S.length := by
  rcases Nat.lt_or_ge n S.length with z | z
  · exact z
  · rw [List.getElem?_eq_none z] at h; cases h
theorem Odd.clo {S : Store} {d : D} (h : Odd S d) : d.cl S.length = true := by
  cases h with
  | l0 h => simp [D.cl, getlt h]
  | l1 h => simp [D.cl, getlt h]
  | d0 h => simp [D.cl, getlt h]
  | d1 h => simp [D.cl, getlt h]
  | _ => simp [D.cl, clL]
end Mi_k02

set_option linter.all false
set_option autoImplicit false
set_option maxRecDepth 100000
set_option maxHeartbeats 4000000
namespace Mi_k02
open PySem Lk L2
theorem forGo_n {g : MG} {mb : MS} {env : Lk.Env} {S : Store} : forGo (fun _ => True) g mb [] env S = .nx env S := by unfold forGo; exact if_pos trivial
theorem lim_le {n : Nat} (h : n ≤ 100) : (n ≤ lim) = True := by
  have : lim = 16777216 := rfl
  simp only [eq_iff_iff, iff_true]
  omega
theorem forGo_c {g : MG} {mb : MS} {env : Lk.Env} {S : Store} {d : D} {ds : List D} : forGo (fun _ => True) g mb (d :: ds) env S = (match g d env S with
    | .ok e1 S1 => (match mb e1 S1 with
      | .nx e2 S2 => forGo (fun _ => True) g mb ds e2 S2
      | .ct e2 S2 => forGo (fun _ => True) g mb ds e2 S2
      | .bk e2 S2 => .nx e2 S2
      | r => r)
    | _ => .bad) := by
  rw [forGo, if_pos trivial]
  all_goals (cases g d env S <;> first | rfl | (rename_i e1 S1; dsimp only; cases mb e1 S1 <;> rfl))
/-- integers and odd things -/
def Pt (S : Store) (d : D) : Prop := (∃ i, d = .int i) ∨ Odd S d
theorem Pt.kn {S : Store} {d : D} (h : Pt S d) : Kn S d := by
  rcases h with ⟨i, rfl⟩ | h
  · exact kn_int S i
  · exact h.kn
theorem Kn.app {S T : Store} {d : D} (h : Kn S d) : Kn (S ++ T) d := by
  obtain ⟨t, h1, h2⟩ := h
  refine ⟨t, ?_, h2⟩
  cases d with
  | ref n =>
    have h1 : (match S[n]? with
      | some (.lst _) => some (CK.bi "list")
      | some (.dk _) => some (.bi "dict")
      | some (.dt _) => some (.bi "dict")
      | _ => none) = some t := h1
    show (match (S ++ T)[n]? with
      | some (.lst _) => some (CK.bi "list")
      | some (.dk _) => some (.bi "dict")
      | some (.dt _) => some (.bi "dict")
      | _ => none) = some t
    have hn : n < S.length := by
      rcases Nat.lt_or_ge n S.length with z | z
      · exact z
      · rw [List.getElem?_eq_none z] at h1; cases h1
    rw [List.getElem?_append_left hn]
    exact h1
  | _ => exact h1
/-- what may stand in a row of spans -/
inductive SV (S : Store) : D → Prop
  | odd {d : D} : Odd S d → SV S d
  | int (i : Int) : SV S (.int i)
  | tup {xs : List D} : xs.length ≤ 5 → (∀ x ∈ xs, Pt S x) → SV S (.tup xs)
  | lst {n : Nat} {a b c d : Int} : S[n]? = some (.lst [.int a, .int b, .int c, .int d]) → SV S (.ref n)
theorem SV.kn {S : Store} {d : D} (h : SV S d) : Kn S d := by
  cases h with
  | odd h => exact h.kn
  | int i => exact kn_int S i
  | tup _ _ => exact ⟨.bi "tuple", rfl, by decide⟩
  | lst h => exact ⟨.bi "list", by simp [tyK, h], by decide⟩
def spanB (b e : Int) : D → Bool
  | .tup [.int i, .int j, .int lo, .int hi] => decide (0 ≤ i ∧ i < e ∧ 0 ≤ j ∧ j < e ∧ i ≠ j ∧ 0 ≤ lo ∧ lo ≤ hi ∧ hi ≤ 2880 ∧ hi - lo ≤ b - 2)
  | _ => false
theorem gIt {S : Store} {d : D} (h : Kn S d) : gIsi cs [.bi "tuple"] d S = .ok (.bl (isTup d)) S := by
  obtain ⟨t, h1, h2⟩ := h
  unfold gIsi
  rw [h1]
  dsimp only
  rw [if_pos h2]
  have key : ∀ (t : CK) (x : Bool), isA t (.bi "tuple") = x → R.ok (D.bl ([CK.bi "tuple"].any fun T => isA t T)) S = R.ok (D.bl x) S := fun t x h1 => by simp [h1]
  cases d with
  | non => cases h1; exact key _ _ (by decide)
  | bl b => cases h1; exact key _ _ (by simp [isTup, isA])
  | int b => cases h1; exact key _ _ (by simp [isTup, isA])
  | str b => cases h1; exact key _ _ (by simp [isTup, isA])
  | tup b => cases h1; exact key _ _ (by simp [isTup, isA])
  | rol b => cases h1; exact key _ _ (by simp [isTup, isA])
  | ref n =>
    have h1 : (match S[n]? with
      | some (.lst _) => some (CK.bi "list")
      | some (.dk _) => some (.bi "dict")
      | some (.dt _) => some (.bi "dict")
      | _ => none) = some t := h1
    split at h1 <;> cases h1 <;> exact key _ _ (by simp [isTup, isA])
  | ins C ds => cases h1; exact key _ _ (by simp [isTup, isA])
theorem gn_int {S : Store} {i j : Int} : gNeX oe (.int i) (.int j) S = .ok (.bl (!decide (i = j))) S := by
  have sh : ∀ k : Int, SeqAt.shaped (.int k) = true := fun k => by
    simp [SeqAt.shaped, PyData.canLay0, PyData.depth]
  have e : eqData S (.int i) (.int j) = some (decide (i = j)) := by
    unfold eqData
    simp only [pyD, sh, and_self, if_true, PyData.eqv]
    rfl
  show gNe (.int i) (.int j) S = _
  unfold gNe
  rw [e]
theorem all_ints {S : Store} {bs : List Bool} : gAll [.ref S.length] (S ++ [.lst (bs.map D.bl)]) = .ok (.bl (bs.all id)) (S ++ [.lst (bs.map D.bl)]) := by
  have e : ∀ bs : List Bool, dBools (bs.map D.bl) = some bs := fun bs => by
    induction bs with
    | nil => rfl
    | cons b bs ih => simp [dBools, ih]
  unfold gAll onL
  simp [e, Lk.listOf]
theorem law_span {S : Store} {d : D} {b e : Int} (h : SV S d) : f__law_is_span [d, .int b, .int e] S = .ok (.bl (spanB b e d)) S := by
  have ht := gIt h.kn
  by_cases tp : isTup d = true
  · rw [tp] at ht
    obtain ⟨xs, rfl⟩ : ∃ xs, d = .tup xs := by cases d <;> first | exact ⟨_, rfl⟩ | cases tp
    have hp : xs.length ≤ 5 ∧ ∀ x ∈ xs, Pt S x := by
      cases h with
      | odd h =>
        cases h with
        | t0 => exact ⟨by simp, by simp⟩
        | t1 => exact ⟨by simp, fun x hx => .inl ⟨3, by simpa using hx⟩⟩
      | tup h1 h2 => exact ⟨h1, h2⟩
    by_cases l4 : xs.length = 4
    · have hl : ([] : List D).length + xs.length ≤ lim := by
        have : lim = 16777216 := rfl
        simp only [List.length_nil]
        omega
      have cm := lc_map (i := 3) (env := [some (D.tup xs), some (.int b), some (.int e), none, none, none, none, none]) (me := mCall 1 f__law_integer (mCons (mVar 3) mNil)) (S := S) (fun d => D.bl (isInt d)) xs [] hl fun x hx a => by
        have hi := isint ((hp.2 x hx).kn.app (T := [.lst a]))
        rw [← lint] at hi
        simp only [mSeq, RS.seq, mIfS, mTest, mSet, mRet, mVar, mC, mNil, mCons, Lk.m1, Lk.m2, mB, mAnd, mOr, mNot, mAndT, mOrT, mNotT, mIf, mAsg, mNext, mCall, R.bind, R.bindS, R.nxt, asB, gSub', mTup, mLst, List.getElem?_cons_succ, List.getElem?_cons_zero, List.getElem?_nil, List.set_cons_succ, List.set_cons_zero, List.map_cons, List.map_nil, List.cons_append, List.nil_append, List.length_cons, List.length_nil, List.replicate, Lk.gIx, Lk.gAdd, Lk.gSub, Lk.gMul, Lk.gDiv, Lk.gMod, gInt, gCmp, gNeg, gAbs, gGcd, gLen, List.length_map, Lk.listOf, stIx, if_true, if_false, Bool.false_eq_true, reduceIte, Nat.reduceAdd, Nat.reduceSub, Nat.zero_add, eqz_int, pow1010, pow1018, pow1019, Int.reduceMul, Int.reduceAdd, ix40, ix41, ix42, ix43, at40, at41, at42, at43, and_true, true_and, and_self, ne_eq, not_false_eq_true, decide_true, decide_false, decide_eq_true_eq, Bool.and_true, Bool.true_and, mFor, iSeq, srcOf, vals, forGo_n, forGo_c, gSet, mRaise1, mSetF, setF, lim_le, Nat.reduceLeDiff, Bool.not_false, Bool.not_true, Nat.lt_irrefl, List.length_append, List.append_assoc, hi]
      have em : xs.map (fun d => D.bl (isInt d)) = (xs.map isInt).map D.bl := by simp
      rw [List.nil_append, em] at cm
      have ga := all_ints (S := S) (bs := xs.map isInt)
      have hn : gNeX oe (.int (xs.length : Nat)) (.int 4) S = .ok (.bl false) S := by
        rw [l4]
        exact gn_int
      unfold f__law_is_span mDef b__law_is_span
      by_cases ai : (xs.map isInt).all id = true
      · rw [ai] at ga
        obtain ⟨i, j, lo, hi, rfl⟩ : ∃ i j lo hi, xs = [.int i, .int j, .int lo, .int hi] := by
          match xs, l4, ai with
          | [x1, x2, x3, x4], _, ai =>
            simp only [List.map_cons, List.map_nil, List.all_cons, List.all_nil, Bool.and_true, Bool.and_eq_true, id] at ai
            obtain ⟨a1, a2, a3, a4⟩ := ai
            cases x1 <;> first | cases a1 | skip
            cases x2 <;> first | cases a2 | skip
            cases x3 <;> first | cases a3 | skip
            cases x4 <;> first | cases a4 | skip
            exact ⟨_, _, _, _, rfl⟩
        simp only [List.map_cons, List.map_nil, isInt, List.length_cons, List.length_nil, Nat.zero_add, Nat.reduceAdd] at cm ga hn
        have cl : ∀ v : Bool, (D.bl v).cl S.length = true := fun v => by simp [D.cl]
        have tr : spanB b e (.tup [.int i, .int j, .int lo, .int hi]) = decide (0 ≤ i ∧ i < e ∧ 0 ≤ j ∧ j < e ∧ i ≠ j ∧ 0 ≤ lo ∧ lo ≤ hi ∧ hi ≤ 2880 ∧ hi - lo ≤ b - 2) := rfl
        rw [tr]
        by_cases h1 : i < 0
        · rw [decide_eq_false (by omega)]
          simp only [mSeq, RS.seq, mIfS, mTest, mSet, mRet, mVar, mC, mNil, mCons, Lk.m1, Lk.m2, mB, mAnd, mOr, mNot, mAndT, mOrT, mNotT, mIf, mAsg, mNext, mCall, R.bind, R.bindS, R.nxt, asB, gSub', mTup, mLst, List.getElem?_cons_succ, List.getElem?_cons_zero, List.getElem?_nil, List.set_cons_succ, List.set_cons_zero, List.map_cons, List.map_nil, List.cons_append, List.nil_append, List.length_cons, List.length_nil, List.replicate, Lk.gIx, Lk.gAdd, Lk.gSub, Lk.gMul, Lk.gDiv, Lk.gMod, gInt, gCmp, gNeg, gAbs, gGcd, gLen, List.length_map, Lk.listOf, stIx, if_true, if_false, Bool.false_eq_true, reduceIte, Nat.reduceAdd, Nat.reduceSub, Nat.zero_add, eqz_int, pow1010, pow1018, pow1019, Int.reduceMul, Int.reduceAdd, ix40, ix41, ix42, ix43, at40, at41, at42, at43, and_true, true_and, and_self, ne_eq, not_false_eq_true, decide_true, decide_false, decide_eq_true_eq, Bool.and_true, Bool.true_and, mFor, iSeq, srcOf, vals, forGo_n, forGo_c, gSet, mRaise1, mSetF, setF, lim_le, Nat.reduceLeDiff, Bool.not_false, Bool.not_true, Nat.lt_irrefl, List.length_append, List.append_assoc, ht, hn, mLc, wipeE, cm, ga, gUnpack, gCons', gNil', h1]
          exact gc_ok (cl _)
        by_cases h2 : j < 0
        · rw [decide_eq_false (by omega)]
          simp only [mSeq, RS.seq, mIfS, mTest, mSet, mRet, mVar, mC, mNil, mCons, Lk.m1, Lk.m2, mB, mAnd, mOr, mNot, mAndT, mOrT, mNotT, mIf, mAsg, mNext, mCall, R.bind, R.bindS, R.nxt, asB, gSub', mTup, mLst, List.getElem?_cons_succ, List.getElem?_cons_zero, List.getElem?_nil, List.set_cons_succ, List.set_cons_zero, List.map_cons, List.map_nil, List.cons_append, List.nil_append, List.length_cons, List.length_nil, List.replicate, Lk.gIx, Lk.gAdd, Lk.gSub, Lk.gMul, Lk.gDiv, Lk.gMod, gInt, gCmp, gNeg, gAbs, gGcd, gLen, List.length_map, Lk.listOf, stIx, if_true, if_false, Bool.false_eq_true, reduceIte, Nat.reduceAdd, Nat.reduceSub, Nat.zero_add, eqz_int, pow1010, pow1018, pow1019, Int.reduceMul, Int.reduceAdd, ix40, ix41, ix42, ix43, at40, at41, at42, at43, and_true, true_and, and_self, ne_eq, not_false_eq_true, decide_true, decide_false, decide_eq_true_eq, Bool.and_true, Bool.true_and, mFor, iSeq, srcOf, vals, forGo_n, forGo_c, gSet, mRaise1, mSetF, setF, lim_le, Nat.reduceLeDiff, Bool.not_false, Bool.not_true, Nat.lt_irrefl, List.length_append, List.append_assoc, ht, hn, mLc, wipeE, cm, ga, gUnpack, gCons', gNil', h1, h2]
          exact gc_ok (cl _)
        by_cases h3 : e ≤ i
        · rw [decide_eq_false (by omega)]
          simp only [mSeq, RS.seq, mIfS, mTest, mSet, mRet, mVar, mC, mNil, mCons, Lk.m1, Lk.m2, mB, mAnd, mOr, mNot, mAndT, mOrT, mNotT, mIf, mAsg, mNext, mCall, R.bind, R.bindS, R.nxt, asB, gSub', mTup, mLst, List.getElem?_cons_succ, List.getElem?_cons_zero, List.getElem?_nil, List.set_cons_succ, List.set_cons_zero, List.map_cons, List.map_nil, List.cons_append, List.nil_append, List.length_cons, List.length_nil, List.replicate, Lk.gIx, Lk.gAdd, Lk.gSub, Lk.gMul, Lk.gDiv, Lk.gMod, gInt, gCmp, gNeg, gAbs, gGcd, gLen, List.length_map, Lk.listOf, stIx, if_true, if_false, Bool.false_eq_true, reduceIte, Nat.reduceAdd, Nat.reduceSub, Nat.zero_add, eqz_int, pow1010, pow1018, pow1019, Int.reduceMul, Int.reduceAdd, ix40, ix41, ix42, ix43, at40, at41, at42, at43, and_true, true_and, and_self, ne_eq, not_false_eq_true, decide_true, decide_false, decide_eq_true_eq, Bool.and_true, Bool.true_and, mFor, iSeq, srcOf, vals, forGo_n, forGo_c, gSet, mRaise1, mSetF, setF, lim_le, Nat.reduceLeDiff, Bool.not_false, Bool.not_true, Nat.lt_irrefl, List.length_append, List.append_assoc, ht, hn, mLc, wipeE, cm, ga, gUnpack, gCons', gNil', h1, h2, h3]
          exact gc_ok (cl _)
        by_cases h4 : e ≤ j
        · rw [decide_eq_false (by omega)]
          simp only [mSeq, RS.seq, mIfS, mTest, mSet, mRet, mVar, mC, mNil, mCons, Lk.m1, Lk.m2, mB, mAnd, mOr, mNot, mAndT, mOrT, mNotT, mIf, mAsg, mNext, mCall, R.bind, R.bindS, R.nxt, asB, gSub', mTup, mLst, List.getElem?_cons_succ, List.getElem?_cons_zero, List.getElem?_nil, List.set_cons_succ, List.set_cons_zero, List.map_cons, List.map_nil, List.cons_append, List.nil_append, List.length_cons, List.length_nil, List.replicate, Lk.gIx, Lk.gAdd, Lk.gSub, Lk.gMul, Lk.gDiv, Lk.gMod, gInt, gCmp, gNeg, gAbs, gGcd, gLen, List.length_map, Lk.listOf, stIx, if_true, if_false, Bool.false_eq_true, reduceIte, Nat.reduceAdd, Nat.reduceSub, Nat.zero_add, eqz_int, pow1010, pow1018, pow1019, Int.reduceMul, Int.reduceAdd, ix40, ix41, ix42, ix43, at40, at41, at42, at43, and_true, true_and, and_self, ne_eq, not_false_eq_true, decide_true, decide_false, decide_eq_true_eq, Bool.and_true, Bool.true_and, mFor, iSeq, srcOf, vals, forGo_n, forGo_c, gSet, mRaise1, mSetF, setF, lim_le, Nat.reduceLeDiff, Bool.not_false, Bool.not_true, Nat.lt_irrefl, List.length_append, List.append_assoc, ht, hn, mLc, wipeE, cm, ga, gUnpack, gCons', gNil', h1, h2, h3, h4]
          exact gc_ok (cl _)
        by_cases h5 : i = j
        · subst h5
          rw [decide_eq_false (by omega)]
          simp only [mSeq, RS.seq, mIfS, mTest, mSet, mRet, mVar, mC, mNil, mCons, Lk.m1, Lk.m2, mB, mAnd, mOr, mNot, mAndT, mOrT, mNotT, mIf, mAsg, mNext, mCall, R.bind, R.bindS, R.nxt, asB, gSub', mTup, mLst, List.getElem?_cons_succ, List.getElem?_cons_zero, List.getElem?_nil, List.set_cons_succ, List.set_cons_zero, List.map_cons, List.map_nil, List.cons_append, List.nil_append, List.length_cons, List.length_nil, List.replicate, Lk.gIx, Lk.gAdd, Lk.gSub, Lk.gMul, Lk.gDiv, Lk.gMod, gInt, gCmp, gNeg, gAbs, gGcd, gLen, List.length_map, Lk.listOf, stIx, if_true, if_false, Bool.false_eq_true, reduceIte, Nat.reduceAdd, Nat.reduceSub, Nat.zero_add, eqz_int, pow1010, pow1018, pow1019, Int.reduceMul, Int.reduceAdd, ix40, ix41, ix42, ix43, at40, at41, at42, at43, and_true, true_and, and_self, ne_eq, not_false_eq_true, decide_true, decide_false, decide_eq_true_eq, Bool.and_true, Bool.true_and, mFor, iSeq, srcOf, vals, forGo_n, forGo_c, gSet, mRaise1, mSetF, setF, lim_le, Nat.reduceLeDiff, Bool.not_false, Bool.not_true, Nat.lt_irrefl, List.length_append, List.append_assoc, ht, hn, mLc, wipeE, cm, ga, gUnpack, gCons', gNil', h1, h2, h3, h4, eq_self]
          exact gc_ok (cl _)
        by_cases k1 : 0 ≤ lo
        rotate_left
        · rw [decide_eq_false (by omega)]
          simp only [mSeq, RS.seq, mIfS, mTest, mSet, mRet, mVar, mC, mNil, mCons, Lk.m1, Lk.m2, mB, mAnd, mOr, mNot, mAndT, mOrT, mNotT, mIf, mAsg, mNext, mCall, R.bind, R.bindS, R.nxt, asB, gSub', mTup, mLst, List.getElem?_cons_succ, List.getElem?_cons_zero, List.getElem?_nil, List.set_cons_succ, List.set_cons_zero, List.map_cons, List.map_nil, List.cons_append, List.nil_append, List.length_cons, List.length_nil, List.replicate, Lk.gIx, Lk.gAdd, Lk.gSub, Lk.gMul, Lk.gDiv, Lk.gMod, gInt, gCmp, gNeg, gAbs, gGcd, gLen, List.length_map, Lk.listOf, stIx, if_true, if_false, Bool.false_eq_true, reduceIte, Nat.reduceAdd, Nat.reduceSub, Nat.zero_add, eqz_int, pow1010, pow1018, pow1019, Int.reduceMul, Int.reduceAdd, ix40, ix41, ix42, ix43, at40, at41, at42, at43, and_true, true_and, and_self, ne_eq, not_false_eq_true, decide_true, decide_false, decide_eq_true_eq, Bool.and_true, Bool.true_and, mFor, iSeq, srcOf, vals, forGo_n, forGo_c, gSet, mRaise1, mSetF, setF, lim_le, Nat.reduceLeDiff, Bool.not_false, Bool.not_true, Nat.lt_irrefl, List.length_append, List.append_assoc, ht, hn, mLc, wipeE, cm, ga, gUnpack, gCons', gNil', h1, h2, h3, h4, h5, k1]
          exact gc_ok (cl _)
        by_cases k2 : lo ≤ hi
        rotate_left
        · rw [decide_eq_false (by omega)]
          simp only [mSeq, RS.seq, mIfS, mTest, mSet, mRet, mVar, mC, mNil, mCons, Lk.m1, Lk.m2, mB, mAnd, mOr, mNot, mAndT, mOrT, mNotT, mIf, mAsg, mNext, mCall, R.bind, R.bindS, R.nxt, asB, gSub', mTup, mLst, List.getElem?_cons_succ, List.getElem?_cons_zero, List.getElem?_nil, List.set_cons_succ, List.set_cons_zero, List.map_cons, List.map_nil, List.cons_append, List.nil_append, List.length_cons, List.length_nil, List.replicate, Lk.gIx, Lk.gAdd, Lk.gSub, Lk.gMul, Lk.gDiv, Lk.gMod, gInt, gCmp, gNeg, gAbs, gGcd, gLen, List.length_map, Lk.listOf, stIx, if_true, if_false, Bool.false_eq_true, reduceIte, Nat.reduceAdd, Nat.reduceSub, Nat.zero_add, eqz_int, pow1010, pow1018, pow1019, Int.reduceMul, Int.reduceAdd, ix40, ix41, ix42, ix43, at40, at41, at42, at43, and_true, true_and, and_self, ne_eq, not_false_eq_true, decide_true, decide_false, decide_eq_true_eq, Bool.and_true, Bool.true_and, mFor, iSeq, srcOf, vals, forGo_n, forGo_c, gSet, mRaise1, mSetF, setF, lim_le, Nat.reduceLeDiff, Bool.not_false, Bool.not_true, Nat.lt_irrefl, List.length_append, List.append_assoc, ht, hn, mLc, wipeE, cm, ga, gUnpack, gCons', gNil', h1, h2, h3, h4, h5, k1, k2]
          exact gc_ok (cl _)
        by_cases k3 : hi ≤ 2880
        rotate_left
        · rw [decide_eq_false (by omega)]
          simp only [mSeq, RS.seq, mIfS, mTest, mSet, mRet, mVar, mC, mNil, mCons, Lk.m1, Lk.m2, mB, mAnd, mOr, mNot, mAndT, mOrT, mNotT, mIf, mAsg, mNext, mCall, R.bind, R.bindS, R.nxt, asB, gSub', mTup, mLst, List.getElem?_cons_succ, List.getElem?_cons_zero, List.getElem?_nil, List.set_cons_succ, List.set_cons_zero, List.map_cons, List.map_nil, List.cons_append, List.nil_append, List.length_cons, List.length_nil, List.replicate, Lk.gIx, Lk.gAdd, Lk.gSub, Lk.gMul, Lk.gDiv, Lk.gMod, gInt, gCmp, gNeg, gAbs, gGcd, gLen, List.length_map, Lk.listOf, stIx, if_true, if_false, Bool.false_eq_true, reduceIte, Nat.reduceAdd, Nat.reduceSub, Nat.zero_add, eqz_int, pow1010, pow1018, pow1019, Int.reduceMul, Int.reduceAdd, ix40, ix41, ix42, ix43, at40, at41, at42, at43, and_true, true_and, and_self, ne_eq, not_false_eq_true, decide_true, decide_false, decide_eq_true_eq, Bool.and_true, Bool.true_and, mFor, iSeq, srcOf, vals, forGo_n, forGo_c, gSet, mRaise1, mSetF, setF, lim_le, Nat.reduceLeDiff, Bool.not_false, Bool.not_true, Nat.lt_irrefl, List.length_append, List.append_assoc, ht, hn, mLc, wipeE, cm, ga, gUnpack, gCons', gNil', h1, h2, h3, h4, h5, k1, k2, k3]
          exact gc_ok (cl _)
        by_cases k4 : hi - lo ≤ b - 2
        · rw [decide_eq_true (by omega)]
          simp only [mSeq, RS.seq, mIfS, mTest, mSet, mRet, mVar, mC, mNil, mCons, Lk.m1, Lk.m2, mB, mAnd, mOr, mNot, mAndT, mOrT, mNotT, mIf, mAsg, mNext, mCall, R.bind, R.bindS, R.nxt, asB, gSub', mTup, mLst, List.getElem?_cons_succ, List.getElem?_cons_zero, List.getElem?_nil, List.set_cons_succ, List.set_cons_zero, List.map_cons, List.map_nil, List.cons_append, List.nil_append, List.length_cons, List.length_nil, List.replicate, Lk.gIx, Lk.gAdd, Lk.gSub, Lk.gMul, Lk.gDiv, Lk.gMod, gInt, gCmp, gNeg, gAbs, gGcd, gLen, List.length_map, Lk.listOf, stIx, if_true, if_false, Bool.false_eq_true, reduceIte, Nat.reduceAdd, Nat.reduceSub, Nat.zero_add, eqz_int, pow1010, pow1018, pow1019, Int.reduceMul, Int.reduceAdd, ix40, ix41, ix42, ix43, at40, at41, at42, at43, and_true, true_and, and_self, ne_eq, not_false_eq_true, decide_true, decide_false, decide_eq_true_eq, Bool.and_true, Bool.true_and, mFor, iSeq, srcOf, vals, forGo_n, forGo_c, gSet, mRaise1, mSetF, setF, lim_le, Nat.reduceLeDiff, Bool.not_false, Bool.not_true, Nat.lt_irrefl, List.length_append, List.append_assoc, ht, hn, mLc, wipeE, cm, ga, gUnpack, gCons', gNil', h1, h2, h3, h4, h5, k1, k2, k3, k4]
          exact gc_ok (cl _)
        · rw [decide_eq_false (by omega)]
          simp only [mSeq, RS.seq, mIfS, mTest, mSet, mRet, mVar, mC, mNil, mCons, Lk.m1, Lk.m2, mB, mAnd, mOr, mNot, mAndT, mOrT, mNotT, mIf, mAsg, mNext, mCall, R.bind, R.bindS, R.nxt, asB, gSub', mTup, mLst, List.getElem?_cons_succ, List.getElem?_cons_zero, List.getElem?_nil, List.set_cons_succ, List.set_cons_zero, List.map_cons, List.map_nil, List.cons_append, List.nil_append, List.length_cons, List.length_nil, List.replicate, Lk.gIx, Lk.gAdd, Lk.gSub, Lk.gMul, Lk.gDiv, Lk.gMod, gInt, gCmp, gNeg, gAbs, gGcd, gLen, List.length_map, Lk.listOf, stIx, if_true, if_false, Bool.false_eq_true, reduceIte, Nat.reduceAdd, Nat.reduceSub, Nat.zero_add, eqz_int, pow1010, pow1018, pow1019, Int.reduceMul, Int.reduceAdd, ix40, ix41, ix42, ix43, at40, at41, at42, at43, and_true, true_and, and_self, ne_eq, not_false_eq_true, decide_true, decide_false, decide_eq_true_eq, Bool.and_true, Bool.true_and, mFor, iSeq, srcOf, vals, forGo_n, forGo_c, gSet, mRaise1, mSetF, setF, lim_le, Nat.reduceLeDiff, Bool.not_false, Bool.not_true, Nat.lt_irrefl, List.length_append, List.append_assoc, ht, hn, mLc, wipeE, cm, ga, gUnpack, gCons', gNil', h1, h2, h3, h4, h5, k1, k2, k3, k4]
          exact gc_ok (cl _)
      · have ai : (xs.map isInt).all id = false := eq_false_of_ne_true ai
        rw [ai] at ga
        have eb : spanB b e (.tup xs) = false := by
          unfold spanB
          split
          · rename_i i j lo hi heq
            cases heq
            simp [isInt] at ai
          · rfl
        rw [eb]
        simp only [mSeq, RS.seq, mIfS, mTest, mSet, mRet, mVar, mC, mNil, mCons, Lk.m1, Lk.m2, mB, mAnd, mOr, mNot, mAndT, mOrT, mNotT, mIf, mAsg, mNext, mCall, R.bind, R.bindS, R.nxt, asB, gSub', mTup, mLst, List.getElem?_cons_succ, List.getElem?_cons_zero, List.getElem?_nil, List.set_cons_succ, List.set_cons_zero, List.map_cons, List.map_nil, List.cons_append, List.nil_append, List.length_cons, List.length_nil, List.replicate, Lk.gIx, Lk.gAdd, Lk.gSub, Lk.gMul, Lk.gDiv, Lk.gMod, gInt, gCmp, gNeg, gAbs, gGcd, gLen, List.length_map, Lk.listOf, stIx, if_true, if_false, Bool.false_eq_true, reduceIte, Nat.reduceAdd, Nat.reduceSub, Nat.zero_add, eqz_int, pow1010, pow1018, pow1019, Int.reduceMul, Int.reduceAdd, ix40, ix41, ix42, ix43, at40, at41, at42, at43, and_true, true_and, and_self, ne_eq, not_false_eq_true, decide_true, decide_false, decide_eq_true_eq, Bool.and_true, Bool.true_and, mFor, iSeq, srcOf, vals, forGo_n, forGo_c, gSet, mRaise1, mSetF, setF, lim_le, Nat.reduceLeDiff, Bool.not_false, Bool.not_true, Nat.lt_irrefl, List.length_append, List.append_assoc, ht, hn, mLc, wipeE, cm, ga]
        exact gc_ok (by simp [D.cl])
    · have hn : gNeX oe (.int (xs.length : Nat)) (.int 4) S = .ok (.bl true) S := by
        rw [gn_int, decide_eq_false (by omega)]
        rfl
      have eb : spanB b e (.tup xs) = false := by
        unfold spanB
        split
        · rename_i heq
          cases heq
          exact absurd rfl l4
        · rfl
      rw [eb]
      unfold f__law_is_span mDef b__law_is_span
      simp only [mSeq, RS.seq, mIfS, mTest, mSet, mRet, mVar, mC, mNil, mCons, Lk.m1, Lk.m2, mB, mAnd, mOr, mNot, mAndT, mOrT, mNotT, mIf, mAsg, mNext, mCall, R.bind, R.bindS, R.nxt, asB, gSub', mTup, mLst, List.getElem?_cons_succ, List.getElem?_cons_zero, List.getElem?_nil, List.set_cons_succ, List.set_cons_zero, List.map_cons, List.map_nil, List.cons_append, List.nil_append, List.length_cons, List.length_nil, List.replicate, Lk.gIx, Lk.gAdd, Lk.gSub, Lk.gMul, Lk.gDiv, Lk.gMod, gInt, gCmp, gNeg, gAbs, gGcd, gLen, List.length_map, Lk.listOf, stIx, if_true, if_false, Bool.false_eq_true, reduceIte, Nat.reduceAdd, Nat.reduceSub, Nat.zero_add, eqz_int, pow1010, pow1018, pow1019, Int.reduceMul, Int.reduceAdd, ix40, ix41, ix42, ix43, at40, at41, at42, at43, and_true, true_and, and_self, ne_eq, not_false_eq_true, decide_true, decide_false, decide_eq_true_eq, Bool.and_true, Bool.true_and, mFor, iSeq, srcOf, vals, forGo_n, forGo_c, gSet, mRaise1, mSetF, setF, lim_le, Nat.reduceLeDiff, Bool.not_false, Bool.not_true, Nat.lt_irrefl, List.length_append, List.append_assoc, ht, hn]
      exact gc_self
  · have tp : isTup d = false := eq_false_of_ne_true tp
    rw [tp] at ht
    have eb : spanB b e d = false := by
      cases d <;> first | rfl | cases tp
    rw [eb]
    unfold f__law_is_span mDef b__law_is_span
    simp only [mSeq, RS.seq, mIfS, mTest, mSet, mRet, mVar, mC, mNil, mCons, Lk.m1, Lk.m2, mB, mAnd, mOr, mNot, mAndT, mOrT, mNotT, mIf, mAsg, mNext, mCall, R.bind, R.bindS, R.nxt, asB, gSub', mTup, mLst, List.getElem?_cons_succ, List.getElem?_cons_zero, List.getElem?_nil, List.set_cons_succ, List.set_cons_zero, List.map_cons, List.map_nil, List.cons_append, List.nil_append, List.length_cons, List.length_nil, List.replicate, Lk.gIx, Lk.gAdd, Lk.gSub, Lk.gMul, Lk.gDiv, Lk.gMod, gInt, gCmp, gNeg, gAbs, gGcd, gLen, List.length_map, Lk.listOf, stIx, if_true, if_false, Bool.false_eq_true, reduceIte, Nat.reduceAdd, Nat.reduceSub, Nat.zero_add, eqz_int, pow1010, pow1018, pow1019, Int.reduceMul, Int.reduceAdd, ix40, ix41, ix42, ix43, at40, at41, at42, at43, and_true, true_and, and_self, ne_eq, not_false_eq_true, decide_true, decide_false, decide_eq_true_eq, Bool.and_true, Bool.true_and, mFor, iSeq, srcOf, vals, forGo_n, forGo_c, gSet, mRaise1, mSetF, setF, lim_le, Nat.reduceLeDiff, Bool.not_false, Bool.not_true, Nat.lt_irrefl, List.length_append, List.append_assoc, ht]
    exact gc_self
end Mi_k02

set_option linter.all false
set_option autoImplicit false
set_option maxRecDepth 100000
set_option maxHeartbeats 4000000
namespace Mi_k02
open PySem Lk L2
theorem gc_bl {S : Store} {v : Bool} {T : Store} : gc S (.bl v) (S ++ T) = .ok (.bl v) S := gc_ok (by simp [D.cl])
theorem below {S : Store} {l i : Int} : f_is_below [.int l, .int i] S = .ok (.bl (decide (0 ≤ i ∧ i < l))) S := by
  have hi := isint (kn_int S i)
  simp only [isInt] at hi
  unfold f_is_below mDef b_is_below
  by_cases h1 : 0 ≤ i
  · by_cases h2 : i < l
    · rw [decide_eq_true ⟨h1, h2⟩]
      simp only [mSeq, RS.seq, mIfS, mTest, mSet, mRet, mVar, mC, mNil, mCons, Lk.m1, Lk.m2, mB, mAnd, mOr, mNot, mAndT, mOrT, mNotT, mIf, mAsg, mNext, mCall, R.bind, R.bindS, R.nxt, asB, gSub', mTup, mLst, List.getElem?_cons_succ, List.getElem?_cons_zero, List.getElem?_nil, List.set_cons_succ, List.set_cons_zero, List.map_cons, List.map_nil, List.cons_append, List.nil_append, List.length_cons, List.length_nil, List.replicate, Lk.gIx, Lk.gAdd, Lk.gSub, Lk.gMul, Lk.gDiv, Lk.gMod, gInt, gCmp, gNeg, gAbs, gGcd, gLen, List.length_map, Lk.listOf, stIx, if_true, if_false, Bool.false_eq_true, reduceIte, Nat.reduceAdd, Nat.reduceSub, Nat.zero_add, eqz_int, pow1010, pow1018, pow1019, Int.reduceMul, Int.reduceAdd, ix40, ix41, ix42, ix43, at40, at41, at42, at43, and_true, true_and, and_self, ne_eq, not_false_eq_true, decide_true, decide_false, decide_eq_true_eq, Bool.and_true, Bool.true_and, mFor, iSeq, srcOf, vals, forGo_n, forGo_c, gSet, mRaise1, mSetF, setF, lim_le, Nat.reduceLeDiff, Bool.not_false, Bool.not_true, Nat.lt_irrefl, List.length_append, List.append_assoc, hi, mCh2, mLink, mLast, h1, h2]
      exact gc_self
    · rw [decide_eq_false (fun z => h2 z.2)]
      simp only [mSeq, RS.seq, mIfS, mTest, mSet, mRet, mVar, mC, mNil, mCons, Lk.m1, Lk.m2, mB, mAnd, mOr, mNot, mAndT, mOrT, mNotT, mIf, mAsg, mNext, mCall, R.bind, R.bindS, R.nxt, asB, gSub', mTup, mLst, List.getElem?_cons_succ, List.getElem?_cons_zero, List.getElem?_nil, List.set_cons_succ, List.set_cons_zero, List.map_cons, List.map_nil, List.cons_append, List.nil_append, List.length_cons, List.length_nil, List.replicate, Lk.gIx, Lk.gAdd, Lk.gSub, Lk.gMul, Lk.gDiv, Lk.gMod, gInt, gCmp, gNeg, gAbs, gGcd, gLen, List.length_map, Lk.listOf, stIx, if_true, if_false, Bool.false_eq_true, reduceIte, Nat.reduceAdd, Nat.reduceSub, Nat.zero_add, eqz_int, pow1010, pow1018, pow1019, Int.reduceMul, Int.reduceAdd, ix40, ix41, ix42, ix43, at40, at41, at42, at43, and_true, true_and, and_self, ne_eq, not_false_eq_true, decide_true, decide_false, decide_eq_true_eq, Bool.and_true, Bool.true_and, mFor, iSeq, srcOf, vals, forGo_n, forGo_c, gSet, mRaise1, mSetF, setF, lim_le, Nat.reduceLeDiff, Bool.not_false, Bool.not_true, Nat.lt_irrefl, List.length_append, List.append_assoc, hi, mCh2, mLink, mLast, h1, h2]
      exact gc_self
  · rw [decide_eq_false (fun z => h1 z.1)]
    simp only [mSeq, RS.seq, mIfS, mTest, mSet, mRet, mVar, mC, mNil, mCons, Lk.m1, Lk.m2, mB, mAnd, mOr, mNot, mAndT, mOrT, mNotT, mIf, mAsg, mNext, mCall, R.bind, R.bindS, R.nxt, asB, gSub', mTup, mLst, List.getElem?_cons_succ, List.getElem?_cons_zero, List.getElem?_nil, List.set_cons_succ, List.set_cons_zero, List.map_cons, List.map_nil, List.cons_append, List.nil_append, List.length_cons, List.length_nil, List.replicate, Lk.gIx, Lk.gAdd, Lk.gSub, Lk.gMul, Lk.gDiv, Lk.gMod, gInt, gCmp, gNeg, gAbs, gGcd, gLen, List.length_map, Lk.listOf, stIx, if_true, if_false, Bool.false_eq_true, reduceIte, Nat.reduceAdd, Nat.reduceSub, Nat.zero_add, eqz_int, pow1010, pow1018, pow1019, Int.reduceMul, Int.reduceAdd, ix40, ix41, ix42, ix43, at40, at41, at42, at43, and_true, true_and, and_self, ne_eq, not_false_eq_true, decide_true, decide_false, decide_eq_true_eq, Bool.and_true, Bool.true_and, mFor, iSeq, srcOf, vals, forGo_n, forGo_c, gSet, mRaise1, mSetF, setF, lim_le, Nat.reduceLeDiff, Bool.not_false, Bool.not_true, Nat.lt_irrefl, List.length_append, List.append_assoc, hi, mCh2, mLink, mLast, h1]
    exact gc_self
theorem own_span {S : Store} {d : D} {b e : Int} (h : SV S d) : f_is_span [.int b, .int e, d] S = .ok (.bl (spanB b e d)) S := by
  have ht := gIt h.kn
  by_cases tp : isTup d = true
  · rw [tp] at ht
    obtain ⟨xs, rfl⟩ : ∃ xs, d = .tup xs := by cases d <;> first | exact ⟨_, rfl⟩ | cases tp
    have hp : xs.length ≤ 5 ∧ ∀ x ∈ xs, Pt S x := by
      cases h with
      | odd h =>
        cases h with
        | t0 => exact ⟨by simp, by simp⟩
        | t1 => exact ⟨by simp, fun x hx => .inl ⟨3, by simpa using hx⟩⟩
      | tup h1 h2 => exact ⟨h1, h2⟩
    by_cases l4 : xs.length = 4
    · have hl : ([] : List D).length + xs.length ≤ lim := by
        have : lim = 16777216 := rfl
        simp only [List.length_nil]
        omega
      have cm := lc_map (i := 3) (env := [some (.int b), some (.int e), some (D.tup xs), none, none, none, none, none]) (me := mCall 1 f_is_integer (mCons (mVar 3) mNil)) (S := S) (fun d => D.bl (isInt d)) xs [] hl fun x hx a => by
        have hi := isint ((hp.2 x hx).kn.app (T := [.lst a]))
        simp only [mSeq, RS.seq, mIfS, mTest, mSet, mRet, mVar, mC, mNil, mCons, Lk.m1, Lk.m2, mB, mAnd, mOr, mNot, mAndT, mOrT, mNotT, mIf, mAsg, mNext, mCall, R.bind, R.bindS, R.nxt, asB, gSub', mTup, mLst, List.getElem?_cons_succ, List.getElem?_cons_zero, List.getElem?_nil, List.set_cons_succ, List.set_cons_zero, List.map_cons, List.map_nil, List.cons_append, List.nil_append, List.length_cons, List.length_nil, List.replicate, Lk.gIx, Lk.gAdd, Lk.gSub, Lk.gMul, Lk.gDiv, Lk.gMod, gInt, gCmp, gNeg, gAbs, gGcd, gLen, List.length_map, Lk.listOf, stIx, if_true, if_false, Bool.false_eq_true, reduceIte, Nat.reduceAdd, Nat.reduceSub, Nat.zero_add, eqz_int, pow1010, pow1018, pow1019, Int.reduceMul, Int.reduceAdd, ix40, ix41, ix42, ix43, at40, at41, at42, at43, and_true, true_and, and_self, ne_eq, not_false_eq_true, decide_true, decide_false, decide_eq_true_eq, Bool.and_true, Bool.true_and, mFor, iSeq, srcOf, vals, forGo_n, forGo_c, gSet, mRaise1, mSetF, setF, lim_le, Nat.reduceLeDiff, Bool.not_false, Bool.not_true, Nat.lt_irrefl, List.length_append, List.append_assoc, hi]
      have em : xs.map (fun d => D.bl (isInt d)) = (xs.map isInt).map D.bl := by simp
      rw [List.nil_append, em] at cm
      have ga := all_ints (S := S) (bs := xs.map isInt)
      have hn : gNeX oe (.int (xs.length : Nat)) (.int 4) S = .ok (.bl false) S := by
        rw [l4]
        exact gn_int
      unfold f_is_span mDef b_is_span
      by_cases ai : (xs.map isInt).all id = true
      · rw [ai] at ga
        obtain ⟨i, j, lo, hi, rfl⟩ : ∃ i j lo hi, xs = [.int i, .int j, .int lo, .int hi] := by
          match xs, l4, ai with
          | [x1, x2, x3, x4], _, ai =>
            simp only [List.map_cons, List.map_nil, List.all_cons, List.all_nil, Bool.and_true, Bool.and_eq_true, id] at ai
            obtain ⟨a1, a2, a3, a4⟩ := ai
            cases x1 <;> first | cases a1 | skip
            cases x2 <;> first | cases a2 | skip
            cases x3 <;> first | cases a3 | skip
            cases x4 <;> first | cases a4 | skip
            exact ⟨_, _, _, _, rfl⟩
        simp only [List.map_cons, List.map_nil, isInt, List.length_cons, List.length_nil, Nat.zero_add, Nat.reduceAdd] at cm ga hn
        have tr : spanB b e (.tup [.int i, .int j, .int lo, .int hi]) = decide (0 ≤ i ∧ i < e ∧ 0 ≤ j ∧ j < e ∧ i ≠ j ∧ 0 ≤ lo ∧ lo ≤ hi ∧ hi ≤ 2880 ∧ hi - lo ≤ b - 2) := rfl
        rw [tr]
        have b1 : ∀ S : Store, f_is_below [.int e, .int i] S = .ok (.bl (decide (0 ≤ i ∧ i < e))) S := fun S => below
        have b2 : ∀ S : Store, f_is_below [.int e, .int j] S = .ok (.bl (decide (0 ≤ j ∧ j < e))) S := fun S => below
        by_cases h1 : 0 ≤ i ∧ i < e
        rotate_left
        · rw [decide_eq_false (by omega)]
          rw [decide_eq_false h1] at b1
          simp only [mSeq, RS.seq, mIfS, mTest, mSet, mRet, mVar, mC, mNil, mCons, Lk.m1, Lk.m2, mB, mAnd, mOr, mNot, mAndT, mOrT, mNotT, mIf, mAsg, mNext, mCall, R.bind, R.bindS, R.nxt, asB, gSub', mTup, mLst, List.getElem?_cons_succ, List.getElem?_cons_zero, List.getElem?_nil, List.set_cons_succ, List.set_cons_zero, List.map_cons, List.map_nil, List.cons_append, List.nil_append, List.length_cons, List.length_nil, List.replicate, Lk.gIx, Lk.gAdd, Lk.gSub, Lk.gMul, Lk.gDiv, Lk.gMod, gInt, gCmp, gNeg, gAbs, gGcd, gLen, List.length_map, Lk.listOf, stIx, if_true, if_false, Bool.false_eq_true, reduceIte, Nat.reduceAdd, Nat.reduceSub, Nat.zero_add, eqz_int, pow1010, pow1018, pow1019, Int.reduceMul, Int.reduceAdd, ix40, ix41, ix42, ix43, at40, at41, at42, at43, and_true, true_and, and_self, ne_eq, not_false_eq_true, decide_true, decide_false, decide_eq_true_eq, Bool.and_true, Bool.true_and, mFor, iSeq, srcOf, vals, forGo_n, forGo_c, gSet, mRaise1, mSetF, setF, lim_le, Nat.reduceLeDiff, Bool.not_false, Bool.not_true, Nat.lt_irrefl, List.length_append, List.append_assoc, ht, hn, mLc, wipeE, cm, ga, gUnpack, gCons', gNil', b1]
          exact gc_bl
        rw [decide_eq_true h1] at b1
        by_cases h2 : 0 ≤ j ∧ j < e
        rotate_left
        · rw [decide_eq_false (by omega)]
          rw [decide_eq_false h2] at b2
          simp only [mSeq, RS.seq, mIfS, mTest, mSet, mRet, mVar, mC, mNil, mCons, Lk.m1, Lk.m2, mB, mAnd, mOr, mNot, mAndT, mOrT, mNotT, mIf, mAsg, mNext, mCall, R.bind, R.bindS, R.nxt, asB, gSub', mTup, mLst, List.getElem?_cons_succ, List.getElem?_cons_zero, List.getElem?_nil, List.set_cons_succ, List.set_cons_zero, List.map_cons, List.map_nil, List.cons_append, List.nil_append, List.length_cons, List.length_nil, List.replicate, Lk.gIx, Lk.gAdd, Lk.gSub, Lk.gMul, Lk.gDiv, Lk.gMod, gInt, gCmp, gNeg, gAbs, gGcd, gLen, List.length_map, Lk.listOf, stIx, if_true, if_false, Bool.false_eq_true, reduceIte, Nat.reduceAdd, Nat.reduceSub, Nat.zero_add, eqz_int, pow1010, pow1018, pow1019, Int.reduceMul, Int.reduceAdd, ix40, ix41, ix42, ix43, at40, at41, at42, at43, and_true, true_and, and_self, ne_eq, not_false_eq_true, decide_true, decide_false, decide_eq_true_eq, Bool.and_true, Bool.true_and, mFor, iSeq, srcOf, vals, forGo_n, forGo_c, gSet, mRaise1, mSetF, setF, lim_le, Nat.reduceLeDiff, Bool.not_false, Bool.not_true, Nat.lt_irrefl, List.length_append, List.append_assoc, ht, hn, mLc, wipeE, cm, ga, gUnpack, gCons', gNil', b1, b2]
          exact gc_bl
        rw [decide_eq_true h2] at b2
        by_cases h5 : i = j
        · subst h5
          rw [decide_eq_false (by omega)]
          simp only [mSeq, RS.seq, mIfS, mTest, mSet, mRet, mVar, mC, mNil, mCons, Lk.m1, Lk.m2, mB, mAnd, mOr, mNot, mAndT, mOrT, mNotT, mIf, mAsg, mNext, mCall, R.bind, R.bindS, R.nxt, asB, gSub', mTup, mLst, List.getElem?_cons_succ, List.getElem?_cons_zero, List.getElem?_nil, List.set_cons_succ, List.set_cons_zero, List.map_cons, List.map_nil, List.cons_append, List.nil_append, List.length_cons, List.length_nil, List.replicate, Lk.gIx, Lk.gAdd, Lk.gSub, Lk.gMul, Lk.gDiv, Lk.gMod, gInt, gCmp, gNeg, gAbs, gGcd, gLen, List.length_map, Lk.listOf, stIx, if_true, if_false, Bool.false_eq_true, reduceIte, Nat.reduceAdd, Nat.reduceSub, Nat.zero_add, eqz_int, pow1010, pow1018, pow1019, Int.reduceMul, Int.reduceAdd, ix40, ix41, ix42, ix43, at40, at41, at42, at43, and_true, true_and, and_self, ne_eq, not_false_eq_true, decide_true, decide_false, decide_eq_true_eq, Bool.and_true, Bool.true_and, mFor, iSeq, srcOf, vals, forGo_n, forGo_c, gSet, mRaise1, mSetF, setF, lim_le, Nat.reduceLeDiff, Bool.not_false, Bool.not_true, Nat.lt_irrefl, List.length_append, List.append_assoc, ht, hn, mLc, wipeE, cm, ga, gUnpack, gCons', gNil', b1, b2, eq_self]
          exact gc_bl
        by_cases k1 : 0 ≤ lo
        rotate_left
        · rw [decide_eq_false (by omega)]
          simp only [mSeq, RS.seq, mIfS, mTest, mSet, mRet, mVar, mC, mNil, mCons, Lk.m1, Lk.m2, mB, mAnd, mOr, mNot, mAndT, mOrT, mNotT, mIf, mAsg, mNext, mCall, R.bind, R.bindS, R.nxt, asB, gSub', mTup, mLst, List.getElem?_cons_succ, List.getElem?_cons_zero, List.getElem?_nil, List.set_cons_succ, List.set_cons_zero, List.map_cons, List.map_nil, List.cons_append, List.nil_append, List.length_cons, List.length_nil, List.replicate, Lk.gIx, Lk.gAdd, Lk.gSub, Lk.gMul, Lk.gDiv, Lk.gMod, gInt, gCmp, gNeg, gAbs, gGcd, gLen, List.length_map, Lk.listOf, stIx, if_true, if_false, Bool.false_eq_true, reduceIte, Nat.reduceAdd, Nat.reduceSub, Nat.zero_add, eqz_int, pow1010, pow1018, pow1019, Int.reduceMul, Int.reduceAdd, ix40, ix41, ix42, ix43, at40, at41, at42, at43, and_true, true_and, and_self, ne_eq, not_false_eq_true, decide_true, decide_false, decide_eq_true_eq, Bool.and_true, Bool.true_and, mFor, iSeq, srcOf, vals, forGo_n, forGo_c, gSet, mRaise1, mSetF, setF, lim_le, Nat.reduceLeDiff, Bool.not_false, Bool.not_true, Nat.lt_irrefl, List.length_append, List.append_assoc, ht, hn, mLc, wipeE, cm, ga, gUnpack, gCons', gNil', b1, b2, h5, mCh3, mLink, mLast, k1]
          exact gc_bl
        by_cases k2 : lo ≤ hi
        rotate_left
        · rw [decide_eq_false (by omega)]
          simp only [mSeq, RS.seq, mIfS, mTest, mSet, mRet, mVar, mC, mNil, mCons, Lk.m1, Lk.m2, mB, mAnd, mOr, mNot, mAndT, mOrT, mNotT, mIf, mAsg, mNext, mCall, R.bind, R.bindS, R.nxt, asB, gSub', mTup, mLst, List.getElem?_cons_succ, List.getElem?_cons_zero, List.getElem?_nil, List.set_cons_succ, List.set_cons_zero, List.map_cons, List.map_nil, List.cons_append, List.nil_append, List.length_cons, List.length_nil, List.replicate, Lk.gIx, Lk.gAdd, Lk.gSub, Lk.gMul, Lk.gDiv, Lk.gMod, gInt, gCmp, gNeg, gAbs, gGcd, gLen, List.length_map, Lk.listOf, stIx, if_true, if_false, Bool.false_eq_true, reduceIte, Nat.reduceAdd, Nat.reduceSub, Nat.zero_add, eqz_int, pow1010, pow1018, pow1019, Int.reduceMul, Int.reduceAdd, ix40, ix41, ix42, ix43, at40, at41, at42, at43, and_true, true_and, and_self, ne_eq, not_false_eq_true, decide_true, decide_false, decide_eq_true_eq, Bool.and_true, Bool.true_and, mFor, iSeq, srcOf, vals, forGo_n, forGo_c, gSet, mRaise1, mSetF, setF, lim_le, Nat.reduceLeDiff, Bool.not_false, Bool.not_true, Nat.lt_irrefl, List.length_append, List.append_assoc, ht, hn, mLc, wipeE, cm, ga, gUnpack, gCons', gNil', b1, b2, h5, mCh3, mLink, mLast, k1, k2]
          exact gc_bl
        by_cases k3 : hi ≤ 2880
        rotate_left
        · rw [decide_eq_false (by omega)]
          simp only [mSeq, RS.seq, mIfS, mTest, mSet, mRet, mVar, mC, mNil, mCons, Lk.m1, Lk.m2, mB, mAnd, mOr, mNot, mAndT, mOrT, mNotT, mIf, mAsg, mNext, mCall, R.bind, R.bindS, R.nxt, asB, gSub', mTup, mLst, List.getElem?_cons_succ, List.getElem?_cons_zero, List.getElem?_nil, List.set_cons_succ, List.set_cons_zero, List.map_cons, List.map_nil, List.cons_append, List.nil_append, List.length_cons, List.length_nil, List.replicate, Lk.gIx, Lk.gAdd, Lk.gSub, Lk.gMul, Lk.gDiv, Lk.gMod, gInt, gCmp, gNeg, gAbs, gGcd, gLen, List.length_map, Lk.listOf, stIx, if_true, if_false, Bool.false_eq_true, reduceIte, Nat.reduceAdd, Nat.reduceSub, Nat.zero_add, eqz_int, pow1010, pow1018, pow1019, Int.reduceMul, Int.reduceAdd, ix40, ix41, ix42, ix43, at40, at41, at42, at43, and_true, true_and, and_self, ne_eq, not_false_eq_true, decide_true, decide_false, decide_eq_true_eq, Bool.and_true, Bool.true_and, mFor, iSeq, srcOf, vals, forGo_n, forGo_c, gSet, mRaise1, mSetF, setF, lim_le, Nat.reduceLeDiff, Bool.not_false, Bool.not_true, Nat.lt_irrefl, List.length_append, List.append_assoc, ht, hn, mLc, wipeE, cm, ga, gUnpack, gCons', gNil', b1, b2, h5, mCh3, mLink, mLast, k1, k2, k3]
          exact gc_bl
        by_cases k4 : hi - lo ≤ b - 2
        · rw [decide_eq_true (by omega)]
          simp only [mSeq, RS.seq, mIfS, mTest, mSet, mRet, mVar, mC, mNil, mCons, Lk.m1, Lk.m2, mB, mAnd, mOr, mNot, mAndT, mOrT, mNotT, mIf, mAsg, mNext, mCall, R.bind, R.bindS, R.nxt, asB, gSub', mTup, mLst, List.getElem?_cons_succ, List.getElem?_cons_zero, List.getElem?_nil, List.set_cons_succ, List.set_cons_zero, List.map_cons, List.map_nil, List.cons_append, List.nil_append, List.length_cons, List.length_nil, List.replicate, Lk.gIx, Lk.gAdd, Lk.gSub, Lk.gMul, Lk.gDiv, Lk.gMod, gInt, gCmp, gNeg, gAbs, gGcd, gLen, List.length_map, Lk.listOf, stIx, if_true, if_false, Bool.false_eq_true, reduceIte, Nat.reduceAdd, Nat.reduceSub, Nat.zero_add, eqz_int, pow1010, pow1018, pow1019, Int.reduceMul, Int.reduceAdd, ix40, ix41, ix42, ix43, at40, at41, at42, at43, and_true, true_and, and_self, ne_eq, not_false_eq_true, decide_true, decide_false, decide_eq_true_eq, Bool.and_true, Bool.true_and, mFor, iSeq, srcOf, vals, forGo_n, forGo_c, gSet, mRaise1, mSetF, setF, lim_le, Nat.reduceLeDiff, Bool.not_false, Bool.not_true, Nat.lt_irrefl, List.length_append, List.append_assoc, ht, hn, mLc, wipeE, cm, ga, gUnpack, gCons', gNil', b1, b2, h5, mCh3, mLink, mLast, k1, k2, k3, k4]
          exact gc_bl
        · rw [decide_eq_false (by omega)]
          simp only [mSeq, RS.seq, mIfS, mTest, mSet, mRet, mVar, mC, mNil, mCons, Lk.m1, Lk.m2, mB, mAnd, mOr, mNot, mAndT, mOrT, mNotT, mIf, mAsg, mNext, mCall, R.bind, R.bindS, R.nxt, asB, gSub', mTup, mLst, List.getElem?_cons_succ, List.getElem?_cons_zero, List.getElem?_nil, List.set_cons_succ, List.set_cons_zero, List.map_cons, List.map_nil, List.cons_append, List.nil_append, List.length_cons, List.length_nil, List.replicate, Lk.gIx, Lk.gAdd, Lk.gSub, Lk.gMul, Lk.gDiv, Lk.gMod, gInt, gCmp, gNeg, gAbs, gGcd, gLen, List.length_map, Lk.listOf, stIx, if_true, if_false, Bool.false_eq_true, reduceIte, Nat.reduceAdd, Nat.reduceSub, Nat.zero_add, eqz_int, pow1010, pow1018, pow1019, Int.reduceMul, Int.reduceAdd, ix40, ix41, ix42, ix43, at40, at41, at42, at43, and_true, true_and, and_self, ne_eq, not_false_eq_true, decide_true, decide_false, decide_eq_true_eq, Bool.and_true, Bool.true_and, mFor, iSeq, srcOf, vals, forGo_n, forGo_c, gSet, mRaise1, mSetF, setF, lim_le, Nat.reduceLeDiff, Bool.not_false, Bool.not_true, Nat.lt_irrefl, List.length_append, List.append_assoc, ht, hn, mLc, wipeE, cm, ga, gUnpack, gCons', gNil', b1, b2, h5, mCh3, mLink, mLast, k1, k2, k3, k4]
          exact gc_bl
      · have ai : (xs.map isInt).all id = false := eq_false_of_ne_true ai
        rw [ai] at ga
        have eb : spanB b e (.tup xs) = false := by
          unfold spanB
          split
          · rename_i i j lo hi heq
            cases heq
            simp [isInt] at ai
          · rfl
        rw [eb]
        simp only [mSeq, RS.seq, mIfS, mTest, mSet, mRet, mVar, mC, mNil, mCons, Lk.m1, Lk.m2, mB, mAnd, mOr, mNot, mAndT, mOrT, mNotT, mIf, mAsg, mNext, mCall, R.bind, R.bindS, R.nxt, asB, gSub', mTup, mLst, List.getElem?_cons_succ, List.getElem?_cons_zero, List.getElem?_nil, List.set_cons_succ, List.set_cons_zero, List.map_cons, List.map_nil, List.cons_append, List.nil_append, List.length_cons, List.length_nil, List.replicate, Lk.gIx, Lk.gAdd, Lk.gSub, Lk.gMul, Lk.gDiv, Lk.gMod, gInt, gCmp, gNeg, gAbs, gGcd, gLen, List.length_map, Lk.listOf, stIx, if_true, if_false, Bool.false_eq_true, reduceIte, Nat.reduceAdd, Nat.reduceSub, Nat.zero_add, eqz_int, pow1010, pow1018, pow1019, Int.reduceMul, Int.reduceAdd, ix40, ix41, ix42, ix43, at40, at41, at42, at43, and_true, true_and, and_self, ne_eq, not_false_eq_true, decide_true, decide_false, decide_eq_true_eq, Bool.and_true, Bool.true_and, mFor, iSeq, srcOf, vals, forGo_n, forGo_c, gSet, mRaise1, mSetF, setF, lim_le, Nat.reduceLeDiff, Bool.not_false, Bool.not_true, Nat.lt_irrefl, List.length_append, List.append_assoc, ht, hn, mLc, wipeE, cm, ga]
        exact gc_ok (by simp [D.cl])
    · have hn : gNeX oe (.int (xs.length : Nat)) (.int 4) S = .ok (.bl true) S := by
        rw [gn_int, decide_eq_false (by omega)]
        rfl
      have eb : spanB b e (.tup xs) = false := by
        unfold spanB
        split
        · rename_i heq
          cases heq
          exact absurd rfl l4
        · rfl
      rw [eb]
      unfold f_is_span mDef b_is_span
      simp only [mSeq, RS.seq, mIfS, mTest, mSet, mRet, mVar, mC, mNil, mCons, Lk.m1, Lk.m2, mB, mAnd, mOr, mNot, mAndT, mOrT, mNotT, mIf, mAsg, mNext, mCall, R.bind, R.bindS, R.nxt, asB, gSub', mTup, mLst, List.getElem?_cons_succ, List.getElem?_cons_zero, List.getElem?_nil, List.set_cons_succ, List.set_cons_zero, List.map_cons, List.map_nil, List.cons_append, List.nil_append, List.length_cons, List.length_nil, List.replicate, Lk.gIx, Lk.gAdd, Lk.gSub, Lk.gMul, Lk.gDiv, Lk.gMod, gInt, gCmp, gNeg, gAbs, gGcd, gLen, List.length_map, Lk.listOf, stIx, if_true, if_false, Bool.false_eq_true, reduceIte, Nat.reduceAdd, Nat.reduceSub, Nat.zero_add, eqz_int, pow1010, pow1018, pow1019, Int.reduceMul, Int.reduceAdd, ix40, ix41, ix42, ix43, at40, at41, at42, at43, and_true, true_and, and_self, ne_eq, not_false_eq_true, decide_true, decide_false, decide_eq_true_eq, Bool.and_true, Bool.true_and, mFor, iSeq, srcOf, vals, forGo_n, forGo_c, gSet, mRaise1, mSetF, setF, lim_le, Nat.reduceLeDiff, Bool.not_false, Bool.not_true, Nat.lt_irrefl, List.length_append, List.append_assoc, ht, hn]
      exact gc_self
  · have tp : isTup d = false := eq_false_of_ne_true tp
    rw [tp] at ht
    have eb : spanB b e d = false := by
      cases d <;> first | rfl | cases tp
    rw [eb]
    unfold f_is_span mDef b_is_span
    simp only [mSeq, RS.seq, mIfS, mTest, mSet, mRet, mVar, mC, mNil, mCons, Lk.m1, Lk.m2, mB, mAnd, mOr, mNot, mAndT, mOrT, mNotT, mIf, mAsg, mNext, mCall, R.bind, R.bindS, R.nxt, asB, gSub', mTup, mLst, List.getElem?_cons_succ, List.getElem?_cons_zero, List.getElem?_nil, List.set_cons_succ, List.set_cons_zero, List.map_cons, List.map_nil, List.cons_append, List.nil_append, List.length_cons, List.length_nil, List.replicate, Lk.gIx, Lk.gAdd, Lk.gSub, Lk.gMul, Lk.gDiv, Lk.gMod, gInt, gCmp, gNeg, gAbs, gGcd, gLen, List.length_map, Lk.listOf, stIx, if_true, if_false, Bool.false_eq_true, reduceIte, Nat.reduceAdd, Nat.reduceSub, Nat.zero_add, eqz_int, pow1010, pow1018, pow1019, Int.reduceMul, Int.reduceAdd, ix40, ix41, ix42, ix43, at40, at41, at42, at43, and_true, true_and, and_self, ne_eq, not_false_eq_true, decide_true, decide_false, decide_eq_true_eq, Bool.and_true, Bool.true_and, mFor, iSeq, srcOf, vals, forGo_n, forGo_c, gSet, mRaise1, mSetF, setF, lim_le, Nat.reduceLeDiff, Bool.not_false, Bool.not_true, Nat.lt_irrefl, List.length_append, List.append_assoc, ht]
    exact gc_self
end Mi_k02

set_option linter.all false
set_option autoImplicit false
set_option maxRecDepth 100000
set_option maxHeartbeats 4000000
namespace Mi_k02
open PySem Lk L2
/-- a row: a tuple, or a list in the store -/
def Row (S : Store) (th : D) (ds : List D) : Prop := th = .tup ds ∨ ∃ n, th = .ref n ∧ S[n]? = some (.lst ds)
theorem Row.app {S T : Store} {th : D} {ds : List D} (h : Row S th ds) : Row (S ++ T) th ds := by
  rcases h with h | ⟨n, e, h⟩
  · exact .inl h
  · exact .inr ⟨n, e, by rw [List.getElem?_append_left (getlt h)]; exact h⟩
def V4 (d : D) : Prop := ∃ i j lo hi, d = .tup [.int i, .int j, .int lo, .int hi]
def pv : D → PyData
  | .tup [.int i, .int j, .int lo, .int hi] => .tuple [.int i, .int j, .int lo, .int hi]
  | _ => .none
theorem spanB_v4 {b e : Int} {d : D} (h : spanB b e d = true) : V4 d := by
  unfold spanB at h
  split at h
  · exact ⟨_, _, _, _, rfl⟩
  · cases h
theorem pyD_v4 {S : Store} {d : D} {n : Nat} (h : V4 d) : pyD S (n + 2) d = some (pv d) := by
  obtain ⟨i, j, lo, hi, rfl⟩ := h
  simp [pyD, pv]
theorem pyD_all {S : Store} {n : Nat} : ∀ {ds : List D}, (∀ d ∈ ds, V4 d) → ds.mapM (pyD S (n + 2)) = some (ds.map pv)
  | [], _ => rfl
  | d :: ds, h => by
    rw [List.mapM_cons, pyD_v4 (h d List.mem_cons_self), pyD_all fun x hx => h x (List.mem_cons_of_mem _ hx)]
    rfl
theorem lay_v4 {d : D} (h : V4 d) : (pv d).canLay0 = true ∧ (pv d).depth ≤ 2 := by
  obtain ⟨i, j, lo, hi, rfl⟩ := h
  simp [pv, PyData.canLay0, PyData.depth, PyData.canLayAll0, PyData.depthAll]
theorem lay_all : ∀ {ds : List D}, (∀ d ∈ ds, V4 d) → PyData.canLayAll0 (ds.map pv) = true ∧ PyData.depthAll (ds.map pv) ≤ 2
  | [], _ => by simp [PyData.canLayAll0, PyData.depthAll]
  | d :: ds, h => by
    obtain ⟨a1, a2⟩ := lay_v4 (h d List.mem_cons_self)
    obtain ⟨b1, b2⟩ := lay_all fun x hx => h x (List.mem_cons_of_mem _ hx)
    simp only [List.map_cons, PyData.canLayAll0, PyData.depthAll, a1, b1, Bool.and_true]
    exact ⟨trivial, by omega⟩
def inB (d : D) (ds : List D) : Bool := (ds.map pv).any fun z => PyData.eqv z (pv d)
theorem sh1 {d : D} (h : V4 d) : SeqAt.shaped (pv d) = true := by
  obtain ⟨a, b⟩ := lay_v4 h
  have b' : (pv d).depth ≤ 64 := by omega
  simp [SeqAt.shaped, a, b']
theorem sh2 {ds : List D} (h : ∀ d ∈ ds, V4 d) : SeqAt.shaped (.list (ds.map pv)) = true := by
  obtain ⟨a, b⟩ := lay_all h
  have b' : (PyData.list (ds.map pv)).depth ≤ 64 := by simp only [PyData.depth]; omega
  have a' : (PyData.list (ds.map pv)).canLay0 = true := by simpa only [PyData.canLay0] using a
  simp [SeqAt.shaped, a', b']
theorem sh3 {ds : List D} (h : ∀ d ∈ ds, V4 d) : SeqAt.shaped (.tuple (ds.map pv)) = true := by
  obtain ⟨a, b⟩ := lay_all h
  have b' : (PyData.tuple (ds.map pv)).depth ≤ 64 := by simp only [PyData.depth]; omega
  have a' : (PyData.tuple (ds.map pv)).canLay0 = true := by simpa only [PyData.canLay0] using a
  simp [SeqAt.shaped, a', b']
/-- in, not in: of a span, in a row of spans -/
theorem in_row {S : Store} {th d : D} {ds : List D} {neg : Bool} (hr : Row S th ds) (hd : V4 d) (hs : ∀ x ∈ ds, V4 x) : gInZ neg d th S = .ok (.bl (if neg then !inB d ds else inB d ds)) S := by
  have f1 : flatD d = none := by obtain ⟨i, j, lo, hi, rfl⟩ := hd; rfl
  have g1 : gIn neg d th S = .bad := by
    unfold gIn
    rcases hr with e | ⟨n, e, h⟩
    · subst e
      simp [Lk.listOf, f1]
    · subst e
      simp [Lk.listOf, h, f1]
  have p1 : pyD S 12 d = some (pv d) := pyD_v4 (n := 10) hd
  have p2 : ds.mapM (pyD S 11) = some (ds.map pv) := pyD_all (n := 9) hs
  unfold gInZ
  rw [g1]
  dsimp only
  rcases hr with e | ⟨n, e, h⟩
  · subst e
    have q : pyD S 12 (.tup ds) = some (.tuple (ds.map pv)) := by
      show (ds.mapM (pyD S 11)).map PyData.tuple = _
      rw [p2]
      rfl
    have g2 : gInD neg d (.tup ds) S = .bad := by
      unfold gInD
      rw [p1, q]
    rw [g2]
    dsimp only
    unfold gInT
    rw [p1, q]
    dsimp only
    rw [if_pos ⟨sh1 hd, sh3 hs⟩]
    rfl
  · subst e
    have q : pyD S 12 (.ref n) = some (.list (ds.map pv)) := by
      show (match S[n]? with
        | some (.lst ds) => (ds.mapM (pyD S 11)).map PyData.list
        | _ => none) = _
      rw [h]
      dsimp only
      rw [p2]
      rfl
    have g2 : gInD neg d (.ref n) S = .ok (.bl (if neg then !inB d ds else inB d ds)) S := by
      unfold gInD
      rw [p1, q]
      dsimp only
      rw [if_pos ⟨sh1 hd, sh2 hs⟩]
      rfl
    rw [g2]
/-- the first fault of a row: k told, pre gone through -/
def fault (b e : Int) : List D → Nat → List D → Option Nat
  | _, _, [] => none
  | pre, k, d :: ds => if spanB b e d = true ∧ inB d pre = false then fault b e (pre ++ [d]) (k + 1) ds else some k
end Mi_k02

set_option linter.all false
set_option autoImplicit false
set_option maxRecDepth 100000
set_option maxHeartbeats 4000000
namespace Mi_k02
open PySem Lk L2
theorem Odd.app {S T : Store} {d : D} (h : Odd S d) : Odd (S ++ T) d := by
  have k : ∀ {n : Nat} {o : Ob}, S[n]? = some o → (S ++ T)[n]? = some o := fun h => by rw [List.getElem?_append_left (getlt h)]; exact h
  cases h with
  | l0 h => exact .l0 (k h)
  | l1 h => exact .l1 (k h)
  | d0 h => exact .d0 (k h)
  | d1 h => exact .d1 (k h)
  | non => exact .non
  | bl b => exact .bl b
  | str x hx => exact .str x hx
  | rt p q => exact .rt p q
  | t0 => exact .t0
  | t1 => exact .t1
theorem SV.app {S T : Store} {d : D} (h : SV S d) : SV (S ++ T) d := by
  cases h with
  | odd h => exact .odd h.app
  | int i => exact .int i
  | tup h1 h2 => exact .tup h1 fun x hx => (h2 x hx).imp (fun z => z) fun z => z.app
  | lst h => exact .lst (by rw [List.getElem?_append_left (getlt h)]; exact h)
theorem cut_pre {pre rest : List D} : cutD (pre ++ rest) none (some (pre.length : Nat)) = pre := by
  unfold cutD
  rw [HT.sIx_none, HT.sIx_nat]
  simp
theorem slice_row {S : Store} {th : D} {pre rest : List D} (h : Row S th (pre ++ rest)) : ∃ th' T, gSl th none (some (pre.length : Nat)) S = .ok th' (S ++ T) ∧ Row (S ++ T) th' pre := by
  rcases h with e | ⟨n, e, h⟩
  · subst e
    refine ⟨.tup pre, [], ?_, .inl rfl⟩
    simp [gSl, Lk.listOf, cut_pre]
  · subst e
    refine ⟨.ref S.length, [.lst pre], ?_, .inr ⟨S.length, rfl, by simp⟩⟩
    simp [gSl, Lk.listOf, h, cut_pre]
def pairI (p : D × Nat) : D := .tup [.int (p.2 : Nat), p.1]
theorem forGo_gn {gd : Store → Prop} {g : MG} {mb : MS} {env : Lk.Env} {S : Store} (h : gd S) : forGo gd g mb [] env S = .nx env S := by unfold forGo; exact if_pos h
theorem forGo_gc {gd : Store → Prop} {g : MG} {mb : MS} {env e1 : Lk.Env} {S S1 : Store} {d : D} {ds : List D} (h : gd S) (hg : g d env S = .ok e1 S1) : forGo gd g mb (d :: ds) env S = (match mb e1 S1 with
    | .nx e2 S2 => forGo gd g mb ds e2 S2
    | .ct e2 S2 => forGo gd g mb ds e2 S2
    | .bk e2 S2 => .nx e2 S2
    | r => r) := by
  rw [forGo, if_pos h, hg]
  all_goals (dsimp only; cases mb e1 S1 <;> rfl)
theorem own_loop {b e : Int} {th : D} {ds : List D} {S0 : Store} {gd : Store → Prop} (hgd : ∀ T, gd (S0 ++ T)) (hr : Row S0 th ds) : ∀ (ds' pre : List D) (T : Store) (r3 r4 : Option D), pre ++ ds' = ds → (∀ x ∈ pre, V4 x) → (∀ x ∈ ds', SV S0 x) →
    ∃ T', match fault b e pre pre.length ds' with
      | some k => forGo gd (gUnpack 2 (gCons' (gSet 3) (gCons' (gSet 4) gNil'))) (mIfS (mOrT (mNotT (mTest (mCall 3 f_is_span (mCons (mVar 0) (mCons (mVar 1) (mCons (mVar 4) mNil)))))) (mTest (m2 (gInZ false) (mVar 4) (mSl (mVar 2) none (some (mVar 3)))))) (mRet (mVar 3)) mNext) ((ds'.zipIdx pre.length).map pairI) [some (.int b), some (.int e), some th, r3, r4] (S0 ++ T) = .rt (.int (k : Nat)) (S0 ++ T')
      | none => ∃ q3 q4, forGo gd (gUnpack 2 (gCons' (gSet 3) (gCons' (gSet 4) gNil'))) (mIfS (mOrT (mNotT (mTest (mCall 3 f_is_span (mCons (mVar 0) (mCons (mVar 1) (mCons (mVar 4) mNil)))))) (mTest (m2 (gInZ false) (mVar 4) (mSl (mVar 2) none (some (mVar 3)))))) (mRet (mVar 3)) mNext) ((ds'.zipIdx pre.length).map pairI) [some (.int b), some (.int e), some th, r3, r4] (S0 ++ T) = .nx [some (.int b), some (.int e), some th, q3, q4] (S0 ++ T')
  | [], pre, T, r3, r4, hp, hv, hs => ⟨T, r3, r4, by rw [List.zipIdx_nil, List.map_nil, forGo_gn (hgd T)]⟩
  | d :: ds', pre, T, r3, r4, hp, hv, hs => by
    have hsp := own_span (b := b) (e := e) (SV.app (T := T) (hs d List.mem_cons_self))
    have hg : gUnpack 2 (gCons' (gSet 3) (gCons' (gSet 4) gNil')) (pairI (d, pre.length)) [some (.int b), some (.int e), some th, r3, r4] (S0 ++ T) = .ok [some (.int b), some (.int e), some th, some (.int (pre.length : Nat)), some d] (S0 ++ T) := by
      unfold pairI
      simp only [mSeq, RS.seq, mIfS, mTest, mSet, mRet, mVar, mC, mNil, mCons, Lk.m1, Lk.m2, mB, mAnd, mOr, mNot, mAndT, mOrT, mNotT, mIf, mAsg, mNext, mCall, R.bind, R.bindS, R.nxt, asB, gSub', mTup, mLst, List.getElem?_cons_succ, List.getElem?_cons_zero, List.getElem?_nil, List.set_cons_succ, List.set_cons_zero, List.map_cons, List.map_nil, List.cons_append, List.nil_append, List.length_cons, List.length_nil, List.replicate, Lk.gIx, Lk.gAdd, Lk.gSub, Lk.gMul, Lk.gDiv, Lk.gMod, gInt, gCmp, gNeg, gAbs, gGcd, gLen, List.length_map, Lk.listOf, stIx, if_true, if_false, Bool.false_eq_true, reduceIte, Nat.reduceAdd, Nat.reduceSub, Nat.zero_add, eqz_int, pow1010, pow1018, pow1019, Int.reduceMul, Int.reduceAdd, ix40, ix41, ix42, ix43, at40, at41, at42, at43, and_true, true_and, and_self, ne_eq, not_false_eq_true, decide_true, decide_false, decide_eq_true_eq, Bool.and_true, Bool.true_and, mFor, iSeq, srcOf, vals, forGo_n, forGo_c, gSet, mRaise1, mSetF, setF, lim_le, Nat.reduceLeDiff, Bool.not_false, Bool.not_true, Nat.lt_irrefl, List.length_append, List.append_assoc, gUnpack, gCons', gNil']
    rw [List.zipIdx_cons, List.map_cons, forGo_gc (hgd T) hg]
    by_cases sp : spanB b e d = true
    · rw [sp] at hsp
      have hv4 := spanB_v4 sp
      obtain ⟨th', T1, hsl, hrow⟩ := slice_row (S := S0 ++ T) (th := th) (pre := pre) (rest := d :: ds') (by rw [hp]; exact hr.app)
      have hin := in_row (neg := false) hrow hv4 hv
      simp only [Bool.false_eq_true, if_false] at hin
      have hsl' : mSl (mVar 2) none (some (mVar 3)) [some (.int b), some (.int e), some th, some (.int (pre.length : Nat)), some d] (S0 ++ T) = .ok th' (S0 ++ T ++ T1) := by
        unfold mSl
        simp only [mSeq, RS.seq, mIfS, mTest, mSet, mRet, mVar, mC, mNil, mCons, Lk.m1, Lk.m2, mB, mAnd, mOr, mNot, mAndT, mOrT, mNotT, mIf, mAsg, mNext, mCall, R.bind, R.bindS, R.nxt, asB, gSub', mTup, mLst, List.getElem?_cons_succ, List.getElem?_cons_zero, List.getElem?_nil, List.set_cons_succ, List.set_cons_zero, List.map_cons, List.map_nil, List.cons_append, List.nil_append, List.length_cons, List.length_nil, List.replicate, Lk.gIx, Lk.gAdd, Lk.gSub, Lk.gMul, Lk.gDiv, Lk.gMod, gInt, gCmp, gNeg, gAbs, gGcd, gLen, List.length_map, Lk.listOf, stIx, if_true, if_false, Bool.false_eq_true, reduceIte, Nat.reduceAdd, Nat.reduceSub, Nat.zero_add, eqz_int, pow1010, pow1018, pow1019, Int.reduceMul, Int.reduceAdd, ix40, ix41, ix42, ix43, at40, at41, at42, at43, and_true, true_and, and_self, ne_eq, not_false_eq_true, decide_true, decide_false, decide_eq_true_eq, Bool.and_true, Bool.true_and, mFor, iSeq, srcOf, vals, forGo_n, forGo_c, gSet, mRaise1, mSetF, setF, lim_le, Nat.reduceLeDiff, Bool.not_false, Bool.not_true, Nat.lt_irrefl, List.length_append, List.append_assoc, toO, hsl]
      by_cases ib : inB d pre = true
      · rw [ib] at hin
        have ef : fault b e pre pre.length (d :: ds') = some pre.length := by
          unfold fault
          rw [if_neg (fun z => by rw [ib] at z; cases z.2)]
        rw [ef]
        refine ⟨T ++ T1, ?_⟩
        dsimp only
        rw [List.append_assoc] at hin hsl'
        simp only [mSeq, RS.seq, mIfS, mTest, mSet, mRet, mVar, mC, mNil, mCons, Lk.m1, Lk.m2, mB, mAnd, mOr, mNot, mAndT, mOrT, mNotT, mIf, mAsg, mNext, mCall, R.bind, R.bindS, R.nxt, asB, gSub', mTup, mLst, List.getElem?_cons_succ, List.getElem?_cons_zero, List.getElem?_nil, List.set_cons_succ, List.set_cons_zero, List.map_cons, List.map_nil, List.cons_append, List.nil_append, List.length_cons, List.length_nil, List.replicate, Lk.gIx, Lk.gAdd, Lk.gSub, Lk.gMul, Lk.gDiv, Lk.gMod, gInt, gCmp, gNeg, gAbs, gGcd, gLen, List.length_map, Lk.listOf, stIx, if_true, if_false, Bool.false_eq_true, reduceIte, Nat.reduceAdd, Nat.reduceSub, Nat.zero_add, eqz_int, pow1010, pow1018, pow1019, Int.reduceMul, Int.reduceAdd, ix40, ix41, ix42, ix43, at40, at41, at42, at43, and_true, true_and, and_self, ne_eq, not_false_eq_true, decide_true, decide_false, decide_eq_true_eq, Bool.and_true, Bool.true_and, mFor, iSeq, srcOf, vals, forGo_n, forGo_c, gSet, mRaise1, mSetF, setF, lim_le, Nat.reduceLeDiff, Bool.not_false, Bool.not_true, Nat.lt_irrefl, List.length_append, List.append_assoc, hsp, hsl', hin]
      · have ib : inB d pre = false := eq_false_of_ne_true ib
        rw [ib] at hin
        have ef : fault b e pre pre.length (d :: ds') = fault b e (pre ++ [d]) (pre ++ [d]).length ds' := by
          rw [fault, if_pos ⟨sp, ib⟩, List.length_append]
          rfl
        rw [ef]
        rw [List.append_assoc] at hin hsl'
        have ih := own_loop (b := b) (e := e) hgd hr ds' (pre ++ [d]) (T ++ T1) (some (.int (pre.length : Nat))) (some d) (by rw [← hp]; simp) (fun x hx => by
          rcases List.mem_append.mp hx with z | z
          · exact hv x z
          · rw [List.mem_singleton.mp z]; exact hv4) (fun x hx => hs x (List.mem_cons_of_mem _ hx))
        have el : (pre ++ [d]).length = pre.length + 1 := by simp
        rw [el] at ih ⊢
        have eb : (mIfS (mOrT (mNotT (mTest (mCall 3 f_is_span (mCons (mVar 0) (mCons (mVar 1) (mCons (mVar 4) mNil)))))) (mTest (m2 (gInZ false) (mVar 4) (mSl (mVar 2) none (some (mVar 3)))))) (mRet (mVar 3)) mNext) [some (.int b), some (.int e), some th, some (.int (pre.length : Nat)), some d] (S0 ++ T) = .nx [some (.int b), some (.int e), some th, some (.int (pre.length : Nat)), some d] (S0 ++ (T ++ T1)) := by
          simp only [mSeq, RS.seq, mIfS, mTest, mSet, mRet, mVar, mC, mNil, mCons, Lk.m1, Lk.m2, mB, mAnd, mOr, mNot, mAndT, mOrT, mNotT, mIf, mAsg, mNext, mCall, R.bind, R.bindS, R.nxt, asB, gSub', mTup, mLst, List.getElem?_cons_succ, List.getElem?_cons_zero, List.getElem?_nil, List.set_cons_succ, List.set_cons_zero, List.map_cons, List.map_nil, List.cons_append, List.nil_append, List.length_cons, List.length_nil, List.replicate, Lk.gIx, Lk.gAdd, Lk.gSub, Lk.gMul, Lk.gDiv, Lk.gMod, gInt, gCmp, gNeg, gAbs, gGcd, gLen, List.length_map, Lk.listOf, stIx, if_true, if_false, Bool.false_eq_true, reduceIte, Nat.reduceAdd, Nat.reduceSub, Nat.zero_add, eqz_int, pow1010, pow1018, pow1019, Int.reduceMul, Int.reduceAdd, ix40, ix41, ix42, ix43, at40, at41, at42, at43, and_true, true_and, and_self, ne_eq, not_false_eq_true, decide_true, decide_false, decide_eq_true_eq, Bool.and_true, Bool.true_and, mFor, iSeq, srcOf, vals, forGo_n, forGo_c, gSet, mRaise1, mSetF, setF, lim_le, Nat.reduceLeDiff, Bool.not_false, Bool.not_true, Nat.lt_irrefl, List.length_append, List.append_assoc, hsp, hsl', hin]
        rw [eb]
        exact ih
    · have sp : spanB b e d = false := eq_false_of_ne_true sp
      rw [sp] at hsp
      have ef : fault b e pre pre.length (d :: ds') = some pre.length := by
        unfold fault
        rw [if_neg (fun z => by rw [sp] at z; cases z.1)]
      rw [ef]
      refine ⟨T, ?_⟩
      dsimp only
      simp only [mSeq, RS.seq, mIfS, mTest, mSet, mRet, mVar, mC, mNil, mCons, Lk.m1, Lk.m2, mB, mAnd, mOr, mNot, mAndT, mOrT, mNotT, mIf, mAsg, mNext, mCall, R.bind, R.bindS, R.nxt, asB, gSub', mTup, mLst, List.getElem?_cons_succ, List.getElem?_cons_zero, List.getElem?_nil, List.set_cons_succ, List.set_cons_zero, List.map_cons, List.map_nil, List.cons_append, List.nil_append, List.length_cons, List.length_nil, List.replicate, Lk.gIx, Lk.gAdd, Lk.gSub, Lk.gMul, Lk.gDiv, Lk.gMod, gInt, gCmp, gNeg, gAbs, gGcd, gLen, List.length_map, Lk.listOf, stIx, if_true, if_false, Bool.false_eq_true, reduceIte, Nat.reduceAdd, Nat.reduceSub, Nat.zero_add, eqz_int, pow1010, pow1018, pow1019, Int.reduceMul, Int.reduceAdd, ix40, ix41, ix42, ix43, at40, at41, at42, at43, and_true, true_and, and_self, ne_eq, not_false_eq_true, decide_true, decide_false, decide_eq_true_eq, Bool.and_true, Bool.true_and, mFor, iSeq, srcOf, vals, forGo_n, forGo_c, gSet, mRaise1, mSetF, setF, lim_le, Nat.reduceLeDiff, Bool.not_false, Bool.not_true, Nat.lt_irrefl, List.length_append, List.append_assoc, hsp]
end Mi_k02

set_option linter.all false
set_option autoImplicit false
set_option maxRecDepth 100000
set_option maxHeartbeats 4000000
namespace Mi_k02
open PySem Lk L2
theorem Row.kn {S : Store} {th : D} {ds : List D} (h : Row S th ds) : Kn S th := by
  rcases h with e | ⟨n, e, h⟩
  · subst e; exact ⟨.bi "tuple", rfl, by decide⟩
  · subst e; exact ⟨.bi "list", by simp [tyK, h], by decide⟩
theorem gSeq {S : Store} {th : D} {ds : List D} (h : Row S th ds) : gIsi cs [.bi "list", .bi "tuple"] th S = .ok (.bl true) S := by
  rcases h with e | ⟨n, e, h⟩
  · subst e
    unfold gIsi
    show (if okK cs (.bi "tuple") = true then R.ok (D.bl _) S else R.bad) = _
    rw [if_pos (by decide)]
    congr 2
  · subst e
    have ht : tyK S (.ref n) = some (.bi "list") := by simp [tyK, h]
    unfold gIsi
    rw [ht]
    dsimp only
    rw [if_pos (by decide)]
    congr 2
theorem gLenR {S : Store} {th : D} {ds : List D} (h : Row S th ds) : gLen [th] S = .ok (.int (ds.length : Nat)) S := by
  rcases h with e | ⟨n, e, h⟩
  · subst e; rfl
  · subst e; simp [gLen, h]
theorem srcR {S : Store} {th : D} {ds : List D} (h : Row S th ds) : ∃ gd : Store → Prop, srcEZ th S = .ok ⟨enumD ds, gd⟩ S ∧ ∀ T, gd (S ++ T) := by
  rcases h with e | ⟨n, e, h⟩
  · subst e; exact ⟨fun _ => True, rfl, fun _ => trivial⟩
  · subst e
    refine ⟨fun S => S[n]? = some (.lst ds), ?_, fun T => by
      show (S ++ T)[n]? = some (.lst ds)
      rw [List.getElem?_append_left (getlt h)]; exact h⟩
    simp [srcEZ, srcE, h]
def res (o : Option Nat) : D := match o with
  | some k => .int (k : Nat)
  | none => .non
theorem own_fault {S : Store} {th : D} {ds : List D} {b e : Int} (h : Row S th ds) (hs : ∀ x ∈ ds, SV S x) : f_spans_fault [.int b, .int e, th] S = .ok (if 60 < ds.length then .int (-1) else res (fault b e [] 0 ds)) S := by
  have g1 := gSeq h
  have g2 := gLenR h
  have cl : ∀ i : Int, (D.int i).cl S.length = true := fun i => by simp [D.cl]
  unfold f_spans_fault mDef b_spans_fault
  by_cases hl : 60 < ds.length
  · have hl' : (60 : Int) < (ds.length : Nat) := by omega
    rw [if_pos hl]
    rcases h with z | ⟨n, z, hn⟩ <;> subst z
    · simp only [mSeq, RS.seq, mIfS, mTest, mSet, mRet, mVar, mC, mNil, mCons, Lk.m1, Lk.m2, mB, mAnd, mOr, mNot, mAndT, mOrT, mNotT, mIf, mAsg, mNext, mCall, R.bind, R.bindS, R.nxt, asB, gSub', mTup, mLst, List.getElem?_cons_succ, List.getElem?_cons_zero, List.getElem?_nil, List.set_cons_succ, List.set_cons_zero, List.map_cons, List.map_nil, List.cons_append, List.nil_append, List.length_cons, List.length_nil, List.replicate, Lk.gIx, Lk.gAdd, Lk.gSub, Lk.gMul, Lk.gDiv, Lk.gMod, gInt, gCmp, gNeg, gAbs, gGcd, gLen, List.length_map, Lk.listOf, stIx, if_true, if_false, Bool.false_eq_true, reduceIte, Nat.reduceAdd, Nat.reduceSub, Nat.zero_add, eqz_int, pow1010, pow1018, pow1019, Int.reduceMul, Int.reduceAdd, ix40, ix41, ix42, ix43, at40, at41, at42, at43, and_true, true_and, and_self, ne_eq, not_false_eq_true, decide_true, decide_false, decide_eq_true_eq, Bool.and_true, Bool.true_and, mFor, iSeq, srcOf, vals, forGo_n, forGo_c, gSet, mRaise1, mSetF, setF, lim_le, Nat.reduceLeDiff, Bool.not_false, Bool.not_true, Nat.lt_irrefl, List.length_append, List.append_assoc, g1, hl']
      exact gc_self
    · simp only [mSeq, RS.seq, mIfS, mTest, mSet, mRet, mVar, mC, mNil, mCons, Lk.m1, Lk.m2, mB, mAnd, mOr, mNot, mAndT, mOrT, mNotT, mIf, mAsg, mNext, mCall, R.bind, R.bindS, R.nxt, asB, gSub', mTup, mLst, List.getElem?_cons_succ, List.getElem?_cons_zero, List.getElem?_nil, List.set_cons_succ, List.set_cons_zero, List.map_cons, List.map_nil, List.cons_append, List.nil_append, List.length_cons, List.length_nil, List.replicate, Lk.gIx, Lk.gAdd, Lk.gSub, Lk.gMul, Lk.gDiv, Lk.gMod, gInt, gCmp, gNeg, gAbs, gGcd, gLen, List.length_map, Lk.listOf, stIx, if_true, if_false, Bool.false_eq_true, reduceIte, Nat.reduceAdd, Nat.reduceSub, Nat.zero_add, eqz_int, pow1010, pow1018, pow1019, Int.reduceMul, Int.reduceAdd, ix40, ix41, ix42, ix43, at40, at41, at42, at43, and_true, true_and, and_self, ne_eq, not_false_eq_true, decide_true, decide_false, decide_eq_true_eq, Bool.and_true, Bool.true_and, mFor, iSeq, srcOf, vals, forGo_n, forGo_c, gSet, mRaise1, mSetF, setF, lim_le, Nat.reduceLeDiff, Bool.not_false, Bool.not_true, Nat.lt_irrefl, List.length_append, List.append_assoc, g1, hn, hl']
      exact gc_self
  · have hl' : ¬ (60 : Int) < (ds.length : Nat) := by omega
    rw [if_neg hl]
    obtain ⟨gd, s1, s2⟩ := srcR h
    obtain ⟨T', lp⟩ := own_loop (b := b) (e := e) (th := th) s2 h ds [] [] none none (by simp) (by simp) hs
    have en : (ds.zipIdx ([] : List D).length).map pairI = enumD ds := rfl
    rw [en, List.append_nil] at lp
    have e0 : ([] : List D).length = 0 := rfl
    rw [e0] at lp
    cases q : fault b e [] 0 ds with
    | some k =>
      rw [q] at lp
      dsimp only at lp
      rcases h with z | ⟨n, z, hn⟩ <;> subst z
      · simp only [mSeq, RS.seq, mIfS, mTest, mSet, mRet, mVar, mC, mNil, mCons, Lk.m1, Lk.m2, mB, mAnd, mOr, mNot, mAndT, mOrT, mNotT, mIf, mAsg, mNext, mCall, R.bind, R.bindS, R.nxt, asB, gSub', mTup, mLst, List.getElem?_cons_succ, List.getElem?_cons_zero, List.getElem?_nil, List.set_cons_succ, List.set_cons_zero, List.map_cons, List.map_nil, List.cons_append, List.nil_append, List.length_cons, List.length_nil, List.replicate, Lk.gIx, Lk.gAdd, Lk.gSub, Lk.gMul, Lk.gDiv, Lk.gMod, gInt, gCmp, gNeg, gAbs, gGcd, gLen, List.length_map, Lk.listOf, stIx, if_true, if_false, Bool.false_eq_true, reduceIte, Nat.reduceAdd, Nat.reduceSub, Nat.zero_add, eqz_int, pow1010, pow1018, pow1019, Int.reduceMul, Int.reduceAdd, ix40, ix41, ix42, ix43, at40, at41, at42, at43, and_true, true_and, and_self, ne_eq, not_false_eq_true, decide_true, decide_false, decide_eq_true_eq, Bool.and_true, Bool.true_and, mFor, iSeq, srcOf, vals, forGo_n, forGo_c, gSet, mRaise1, mSetF, setF, lim_le, Nat.reduceLeDiff, Bool.not_false, Bool.not_true, Nat.lt_irrefl, List.length_append, List.append_assoc, g1, hl', iEnuZ, s1, lp]
        exact gc_ok (cl _)
      · simp only [mSeq, RS.seq, mIfS, mTest, mSet, mRet, mVar, mC, mNil, mCons, Lk.m1, Lk.m2, mB, mAnd, mOr, mNot, mAndT, mOrT, mNotT, mIf, mAsg, mNext, mCall, R.bind, R.bindS, R.nxt, asB, gSub', mTup, mLst, List.getElem?_cons_succ, List.getElem?_cons_zero, List.getElem?_nil, List.set_cons_succ, List.set_cons_zero, List.map_cons, List.map_nil, List.cons_append, List.nil_append, List.length_cons, List.length_nil, List.replicate, Lk.gIx, Lk.gAdd, Lk.gSub, Lk.gMul, Lk.gDiv, Lk.gMod, gInt, gCmp, gNeg, gAbs, gGcd, gLen, List.length_map, Lk.listOf, stIx, if_true, if_false, Bool.false_eq_true, reduceIte, Nat.reduceAdd, Nat.reduceSub, Nat.zero_add, eqz_int, pow1010, pow1018, pow1019, Int.reduceMul, Int.reduceAdd, ix40, ix41, ix42, ix43, at40, at41, at42, at43, and_true, true_and, and_self, ne_eq, not_false_eq_true, decide_true, decide_false, decide_eq_true_eq, Bool.and_true, Bool.true_and, mFor, iSeq, srcOf, vals, forGo_n, forGo_c, gSet, mRaise1, mSetF, setF, lim_le, Nat.reduceLeDiff, Bool.not_false, Bool.not_true, Nat.lt_irrefl, List.length_append, List.append_assoc, g1, hn, hl', iEnuZ, s1, lp]
        exact gc_ok (cl _)
    | none =>
      rw [q] at lp
      obtain ⟨q3, q4, lp⟩ := lp
      rcases h with z | ⟨n, z, hn⟩ <;> subst z
      · simp only [mSeq, RS.seq, mIfS, mTest, mSet, mRet, mVar, mC, mNil, mCons, Lk.m1, Lk.m2, mB, mAnd, mOr, mNot, mAndT, mOrT, mNotT, mIf, mAsg, mNext, mCall, R.bind, R.bindS, R.nxt, asB, gSub', mTup, mLst, List.getElem?_cons_succ, List.getElem?_cons_zero, List.getElem?_nil, List.set_cons_succ, List.set_cons_zero, List.map_cons, List.map_nil, List.cons_append, List.nil_append, List.length_cons, List.length_nil, List.replicate, Lk.gIx, Lk.gAdd, Lk.gSub, Lk.gMul, Lk.gDiv, Lk.gMod, gInt, gCmp, gNeg, gAbs, gGcd, gLen, List.length_map, Lk.listOf, stIx, if_true, if_false, Bool.false_eq_true, reduceIte, Nat.reduceAdd, Nat.reduceSub, Nat.zero_add, eqz_int, pow1010, pow1018, pow1019, Int.reduceMul, Int.reduceAdd, ix40, ix41, ix42, ix43, at40, at41, at42, at43, and_true, true_and, and_self, ne_eq, not_false_eq_true, decide_true, decide_false, decide_eq_true_eq, Bool.and_true, Bool.true_and, mFor, iSeq, srcOf, vals, forGo_n, forGo_c, gSet, mRaise1, mSetF, setF, lim_le, Nat.reduceLeDiff, Bool.not_false, Bool.not_true, Nat.lt_irrefl, List.length_append, List.append_assoc, g1, hl', iEnuZ, s1, lp]
        exact gc_ok (by simp [D.cl, res])
      · simp only [mSeq, RS.seq, mIfS, mTest, mSet, mRet, mVar, mC, mNil, mCons, Lk.m1, Lk.m2, mB, mAnd, mOr, mNot, mAndT, mOrT, mNotT, mIf, mAsg, mNext, mCall, R.bind, R.bindS, R.nxt, asB, gSub', mTup, mLst, List.getElem?_cons_succ, List.getElem?_cons_zero, List.getElem?_nil, List.set_cons_succ, List.set_cons_zero, List.map_cons, List.map_nil, List.cons_append, List.nil_append, List.length_cons, List.length_nil, List.replicate, Lk.gIx, Lk.gAdd, Lk.gSub, Lk.gMul, Lk.gDiv, Lk.gMod, gInt, gCmp, gNeg, gAbs, gGcd, gLen, List.length_map, Lk.listOf, stIx, if_true, if_false, Bool.false_eq_true, reduceIte, Nat.reduceAdd, Nat.reduceSub, Nat.zero_add, eqz_int, pow1010, pow1018, pow1019, Int.reduceMul, Int.reduceAdd, ix40, ix41, ix42, ix43, at40, at41, at42, at43, and_true, true_and, and_self, ne_eq, not_false_eq_true, decide_true, decide_false, decide_eq_true_eq, Bool.and_true, Bool.true_and, mFor, iSeq, srcOf, vals, forGo_n, forGo_c, gSet, mRaise1, mSetF, setF, lim_le, Nat.reduceLeDiff, Bool.not_false, Bool.not_true, Nat.lt_irrefl, List.length_append, List.append_assoc, g1, hn, hl', iEnuZ, s1, lp]
        exact gc_ok (by simp [D.cl, res])
end Mi_k02

set_option linter.all false
set_option autoImplicit false
set_option maxRecDepth 100000
set_option maxHeartbeats 4000000
namespace Mi_k02
open PySem Lk L2
def idxs (k : Nat) (ds : List D) : List D := (ds.zipIdx k).map fun p => D.int (p.2 : Nat)
theorem rng_idx (ds : List D) : rngI 0 ds.length = idxs 0 ds := by
  apply List.ext_getElem
  · simp [rngI, idxs]
  · intro i h1 h2
    simp [rngI, idxs]
theorem at_row {S : Store} {th d : D} {pre rest : List D} (h : Row S th (pre ++ d :: rest)) : gIx th (.int (pre.length : Nat)) S = .ok d S := by
  have e : atI (pre ++ d :: rest) ((pre.length : Nat) : Int) = some d := by
    have z : ((pre.length : Nat) : Int) < (pre.length : Nat) + ((rest.length : Nat) + 1 : Int) := by omega
    unfold atI ixN
    simp [z]
  rcases h with z | ⟨n, z, hn⟩
  · subst z
    simp [Lk.gIx, Lk.listOf, e]
  · subst z
    simp [Lk.gIx, Lk.listOf, hn, e]
def tFFT (d : D) : D := .tup [.tup [.bl false, .bl false, .bl true], d]
theorem due_loop {b e : Int} {th : D} {ds : List D} {S : Store} (hr : Row S th ds) : ∀ (ds' pre : List D) (r4 : Option D), pre ++ ds' = ds → pre.length + ds'.length ≤ 60 → (∀ x ∈ pre, V4 x) → (∀ x ∈ ds', SV S x) →
    ∃ a, match fault b e pre pre.length ds' with
      | some k => forGo (fun _ => True) (gSet 4) (mSeq (mIfS (mOrT (mNotT (mTest (mCall 3 f__law_is_span (mCons (m2 gIx (mVar 2) (mVar 4)) (mCons (mVar 0) (mCons (mVar 1) mNil)))))) (mTest (m2 (gInZ false) (m2 gIx (mVar 2) (mVar 4)) (mVar 3)))) (mRet (mTup (mCons (mTup (mCons (mC (.bl false)) (mCons (mC (.bl false)) (mCons (mC (.bl true)) mNil)))) (mCons (mVar 4) mNil)))) mNext)
  (mDrop (mBM gAppend (mVar 3) (mCons (m2 gIx (mVar 2) (mVar 4)) mNil)))) (idxs pre.length ds') [some (.int b), some (.int e), some th, some (.ref S.length), r4] (S ++ [.lst pre]) = .rt (tFFT (.int (k : Nat))) (S ++ [.lst a])
      | none => ∃ q4, forGo (fun _ => True) (gSet 4) (mSeq (mIfS (mOrT (mNotT (mTest (mCall 3 f__law_is_span (mCons (m2 gIx (mVar 2) (mVar 4)) (mCons (mVar 0) (mCons (mVar 1) mNil)))))) (mTest (m2 (gInZ false) (m2 gIx (mVar 2) (mVar 4)) (mVar 3)))) (mRet (mTup (mCons (mTup (mCons (mC (.bl false)) (mCons (mC (.bl false)) (mCons (mC (.bl true)) mNil)))) (mCons (mVar 4) mNil)))) mNext)
  (mDrop (mBM gAppend (mVar 3) (mCons (m2 gIx (mVar 2) (mVar 4)) mNil)))) (idxs pre.length ds') [some (.int b), some (.int e), some th, some (.ref S.length), r4] (S ++ [.lst pre]) = .nx [some (.int b), some (.int e), some th, some (.ref S.length), q4] (S ++ [.lst a])
  | [], pre, r4, hp, hl, hv, hs => ⟨pre, r4, by rw [idxs, List.zipIdx_nil, List.map_nil, forGo_n]⟩
  | d :: ds', pre, r4, hp, hl, hv, hs => by
    have hsp := law_span (b := b) (e := e) (SV.app (T := [.lst pre]) (hs d List.mem_cons_self))
    have hix := at_row (S := S ++ [.lst pre]) (th := th) (d := d) (pre := pre) (rest := ds') (by rw [hp]; exact hr.app)
    have hix2 : ∀ env1 : List (Option D), (m2 gIx (mVar 2) (mVar 4)) [some (.int b), some (.int e), some th, some (.ref S.length), some (.int (pre.length : Nat))] (S ++ [.lst pre]) = .ok d (S ++ [.lst pre]) := fun _ => by
      simp only [Lk.m2, mVar, R.bind, List.getElem?_cons_succ, List.getElem?_cons_zero]
      exact hix
    have hix3 := hix2 []
    have ei : idxs pre.length (d :: ds') = .int (pre.length : Nat) :: idxs (pre.length + 1) ds' := rfl
    have hlim : pre.length < lim := by
      have : lim = 16777216 := rfl
      simp only [List.length_cons] at hl
      omega
    rw [ei, forGo_c]
    generalize hm : (m2 gIx (mVar 2) (mVar 4) : ME) = ix at hix3 ⊢
    by_cases sp : spanB b e d = true
    · rw [sp] at hsp
      have hv4 := spanB_v4 sp
      have hrow : Row (S ++ [Ob.lst pre]) (.ref S.length) pre := .inr ⟨S.length, rfl, by simp⟩
      have hin := in_row (neg := false) hrow hv4 hv
      simp only [Bool.false_eq_true, if_false] at hin
      by_cases ib : inB d pre = true
      · rw [ib] at hin
        have ef : fault b e pre pre.length (d :: ds') = some pre.length := by
          unfold fault
          rw [if_neg (fun z => by rw [ib] at z; cases z.2)]
        rw [ef]
        refine ⟨pre, ?_⟩
        dsimp only
        simp only [mSeq, RS.seq, mIfS, mTest, mSet, mRet, mVar, mC, mNil, mCons, Lk.m1, Lk.m2, mB, mAnd, mOr, mNot, mAndT, mOrT, mNotT, mIf, mAsg, mNext, mCall, R.bind, R.bindS, R.nxt, asB, gSub', mTup, mLst, List.getElem?_cons_succ, List.getElem?_cons_zero, List.getElem?_nil, List.set_cons_succ, List.set_cons_zero, List.map_cons, List.map_nil, List.cons_append, List.nil_append, List.length_cons, List.length_nil, List.replicate, Lk.gIx, Lk.gAdd, Lk.gSub, Lk.gMul, Lk.gDiv, Lk.gMod, gInt, gCmp, gNeg, gAbs, gGcd, gLen, List.length_map, Lk.listOf, stIx, if_true, if_false, Bool.false_eq_true, reduceIte, Nat.reduceAdd, Nat.reduceSub, Nat.zero_add, eqz_int, pow1010, pow1018, pow1019, Int.reduceMul, Int.reduceAdd, ix40, ix41, ix42, ix43, at40, at41, at42, at43, and_true, true_and, and_self, ne_eq, not_false_eq_true, decide_true, decide_false, decide_eq_true_eq, Bool.and_true, Bool.true_and, mFor, iSeq, srcOf, vals, forGo_n, forGo_c, gSet, mRaise1, mSetF, setF, lim_le, Nat.reduceLeDiff, Bool.not_false, Bool.not_true, Nat.lt_irrefl, List.length_append, List.append_assoc, hix3, hsp, hin, mDrop, tFFT]
      · have ib : inB d pre = false := eq_false_of_ne_true ib
        rw [ib] at hin
        have ef : fault b e pre pre.length (d :: ds') = fault b e (pre ++ [d]) (pre ++ [d]).length ds' := by
          rw [fault, if_pos ⟨sp, ib⟩, List.length_append]
          rfl
        rw [ef]
        have el : (pre ++ [d]).length = pre.length + 1 := by simp
        have ih := due_loop (b := b) (e := e) hr ds' (pre ++ [d]) (some (.int (pre.length : Nat))) (by rw [← hp]; simp) (by rw [el]; simp only [List.length_cons] at hl; omega) (fun x hx => by
          rcases List.mem_append.mp hx with z | z
          · exact hv x z
          · rw [List.mem_singleton.mp z]; exact hv4) (fun x hx => hs x (List.mem_cons_of_mem _ hx))
        rw [el] at ih ⊢
        rw [hm] at ih
        have g1 : (S ++ [Ob.lst pre])[S.length]? = some (.lst pre) := by simp
        have g2 : (S ++ [Ob.lst pre]).set S.length (.lst (pre ++ [d])) = S ++ [.lst (pre ++ [d])] := by simp
        have eb : (mSeq (mIfS (mOrT (mNotT (mTest (mCall 3 f__law_is_span (mCons ix (mCons (mVar 0) (mCons (mVar 1) mNil)))))) (mTest (m2 (gInZ false) ix (mVar 3)))) (mRet (mTup (mCons (mTup (mCons (mC (.bl false)) (mCons (mC (.bl false)) (mCons (mC (.bl true)) mNil)))) (mCons (mVar 4) mNil)))) mNext)
  (mDrop (mBM gAppend (mVar 3) (mCons ix mNil)))) [some (.int b), some (.int e), some th, some (.ref S.length), some (.int (pre.length : Nat))] (S ++ [.lst pre]) = .nx [some (.int b), some (.int e), some th, some (.ref S.length), some (.int (pre.length : Nat))] (S ++ [.lst (pre ++ [d])]) := by
          simp only [mSeq, RS.seq, mIfS, mTest, mSet, mRet, mVar, mC, mNil, mCons, Lk.m1, Lk.m2, mB, mAnd, mOr, mNot, mAndT, mOrT, mNotT, mIf, mAsg, mNext, mCall, R.bind, R.bindS, R.nxt, asB, gSub', mTup, mLst, List.getElem?_cons_succ, List.getElem?_cons_zero, List.getElem?_nil, List.set_cons_succ, List.set_cons_zero, List.map_cons, List.map_nil, List.cons_append, List.nil_append, List.length_cons, List.length_nil, List.replicate, Lk.gIx, Lk.gAdd, Lk.gSub, Lk.gMul, Lk.gDiv, Lk.gMod, gInt, gCmp, gNeg, gAbs, gGcd, gLen, List.length_map, Lk.listOf, stIx, if_true, if_false, Bool.false_eq_true, reduceIte, Nat.reduceAdd, Nat.reduceSub, Nat.zero_add, eqz_int, pow1010, pow1018, pow1019, Int.reduceMul, Int.reduceAdd, ix40, ix41, ix42, ix43, at40, at41, at42, at43, and_true, true_and, and_self, ne_eq, not_false_eq_true, decide_true, decide_false, decide_eq_true_eq, Bool.and_true, Bool.true_and, mFor, iSeq, srcOf, vals, forGo_n, forGo_c, gSet, mRaise1, mSetF, setF, lim_le, Nat.reduceLeDiff, Bool.not_false, Bool.not_true, Nat.lt_irrefl, List.length_append, List.append_assoc, hix3, hsp, hin, mDrop, mBM, gAppend, g1, hlim, g2]
        have es : gSet 4 (.int (pre.length : Nat)) [some (.int b), some (.int e), some th, some (.ref S.length), r4] (S ++ [.lst pre]) = .ok [some (.int b), some (.int e), some th, some (.ref S.length), some (.int (pre.length : Nat))] (S ++ [.lst pre]) := rfl
        rw [es]
        dsimp only
        rw [eb]
        exact ih
    · have sp : spanB b e d = false := eq_false_of_ne_true sp
      rw [sp] at hsp
      have ef : fault b e pre pre.length (d :: ds') = some pre.length := by
        unfold fault
        rw [if_neg (fun z => by rw [sp] at z; cases z.1)]
      rw [ef]
      refine ⟨pre, ?_⟩
      dsimp only
      simp only [mSeq, RS.seq, mIfS, mTest, mSet, mRet, mVar, mC, mNil, mCons, Lk.m1, Lk.m2, mB, mAnd, mOr, mNot, mAndT, mOrT, mNotT, mIf, mAsg, mNext, mCall, R.bind, R.bindS, R.nxt, asB, gSub', mTup, mLst, List.getElem?_cons_succ, List.getElem?_cons_zero, List.getElem?_nil, List.set_cons_succ, List.set_cons_zero, List.map_cons, List.map_nil, List.cons_append, List.nil_append, List.length_cons, List.length_nil, List.replicate, Lk.gIx, Lk.gAdd, Lk.gSub, Lk.gMul, Lk.gDiv, Lk.gMod, gInt, gCmp, gNeg, gAbs, gGcd, gLen, List.length_map, Lk.listOf, stIx, if_true, if_false, Bool.false_eq_true, reduceIte, Nat.reduceAdd, Nat.reduceSub, Nat.zero_add, eqz_int, pow1010, pow1018, pow1019, Int.reduceMul, Int.reduceAdd, ix40, ix41, ix42, ix43, at40, at41, at42, at43, and_true, true_and, and_self, ne_eq, not_false_eq_true, decide_true, decide_false, decide_eq_true_eq, Bool.and_true, Bool.true_and, mFor, iSeq, srcOf, vals, forGo_n, forGo_c, gSet, mRaise1, mSetF, setF, lim_le, Nat.reduceLeDiff, Bool.not_false, Bool.not_true, Nat.lt_irrefl, List.length_append, List.append_assoc, hix3, hsp, mDrop, tFFT]
theorem iRng1_of {m : MA} {env : Lk.Env} {S S1 : Store} {j : Int} (h : m env S = .ok [.int j] S1) (hb : bd j) : iRng1' m env S = .ok (vals (rngI 0 j.toNat)) S1 := by
  unfold iRng1'
  rw [h]
  exact if_pos hb
theorem bd_small {n : Nat} (h : n ≤ 60) : bd ((n : Nat) : Int) := by
  have e : (2 : Int) ^ 62 = 4611686018427387904 := by decide
  unfold bd
  rw [e]
  constructor <;> omega
theorem due_row {S : Store} {th : D} {ds : List D} {b e : Int} (hb : 3 ≤ b ∧ b ≤ 1440) (he : 1 ≤ e ∧ e ≤ 24) (h : Row S th ds) (hs : ∀ x ∈ ds, SV S x) :
    f__law_due [.int b, .int e, th] S = .ok (if 60 < ds.length then tFFT (.int (-1)) else (match fault b e [] 0 ds with
      | some k => tFFT (.int (k : Nat))
      | none => .non)) S := by
  have g1 := gSeq h
  have h5 := isint (kn_int S b)
  have h6 := isint (kn_int S e)
  rw [← lint] at h5 h6
  simp only [isInt] at h5 h6
  have b1 : ¬ b < 3 := by omega
  have b2 : ¬ 1440 < b := by omega
  have e1 : ¬ e < 1 := by omega
  have e2 : ¬ 24 < e := by omega
  unfold f__law_due mDef b__law_due
  by_cases hl : 60 < ds.length
  · have hl' : (60 : Int) < (ds.length : Nat) := by omega
    rw [if_pos hl]
    rcases h with z | ⟨n, z, hn⟩ <;> subst z
    · simp only [mSeq, RS.seq, mIfS, mTest, mSet, mRet, mVar, mC, mNil, mCons, Lk.m1, Lk.m2, mB, mAnd, mOr, mNot, mAndT, mOrT, mNotT, mIf, mAsg, mNext, mCall, R.bind, R.bindS, R.nxt, asB, gSub', mTup, mLst, List.getElem?_cons_succ, List.getElem?_cons_zero, List.getElem?_nil, List.set_cons_succ, List.set_cons_zero, List.map_cons, List.map_nil, List.cons_append, List.nil_append, List.length_cons, List.length_nil, List.replicate, Lk.gIx, Lk.gAdd, Lk.gSub, Lk.gMul, Lk.gDiv, Lk.gMod, gInt, gCmp, gNeg, gAbs, gGcd, gLen, List.length_map, Lk.listOf, stIx, if_true, if_false, Bool.false_eq_true, reduceIte, Nat.reduceAdd, Nat.reduceSub, Nat.zero_add, eqz_int, pow1010, pow1018, pow1019, Int.reduceMul, Int.reduceAdd, ix40, ix41, ix42, ix43, at40, at41, at42, at43, and_true, true_and, and_self, ne_eq, not_false_eq_true, decide_true, decide_false, decide_eq_true_eq, Bool.and_true, Bool.true_and, mFor, iSeq, srcOf, vals, forGo_n, forGo_c, gSet, mRaise1, mSetF, setF, lim_le, Nat.reduceLeDiff, Bool.not_false, Bool.not_true, Nat.lt_irrefl, List.length_append, List.append_assoc, g1, h5, h6, b1, b2, e1, e2, hl', tFFT]
      exact gc_self
    · simp only [mSeq, RS.seq, mIfS, mTest, mSet, mRet, mVar, mC, mNil, mCons, Lk.m1, Lk.m2, mB, mAnd, mOr, mNot, mAndT, mOrT, mNotT, mIf, mAsg, mNext, mCall, R.bind, R.bindS, R.nxt, asB, gSub', mTup, mLst, List.getElem?_cons_succ, List.getElem?_cons_zero, List.getElem?_nil, List.set_cons_succ, List.set_cons_zero, List.map_cons, List.map_nil, List.cons_append, List.nil_append, List.length_cons, List.length_nil, List.replicate, Lk.gIx, Lk.gAdd, Lk.gSub, Lk.gMul, Lk.gDiv, Lk.gMod, gInt, gCmp, gNeg, gAbs, gGcd, gLen, List.length_map, Lk.listOf, stIx, if_true, if_false, Bool.false_eq_true, reduceIte, Nat.reduceAdd, Nat.reduceSub, Nat.zero_add, eqz_int, pow1010, pow1018, pow1019, Int.reduceMul, Int.reduceAdd, ix40, ix41, ix42, ix43, at40, at41, at42, at43, and_true, true_and, and_self, ne_eq, not_false_eq_true, decide_true, decide_false, decide_eq_true_eq, Bool.and_true, Bool.true_and, mFor, iSeq, srcOf, vals, forGo_n, forGo_c, gSet, mRaise1, mSetF, setF, lim_le, Nat.reduceLeDiff, Bool.not_false, Bool.not_true, Nat.lt_irrefl, List.length_append, List.append_assoc, g1, h5, h6, b1, b2, e1, e2, hn, hl', tFFT]
      exact gc_self
  · have hl' : ¬ (60 : Int) < (ds.length : Nat) := by omega
    rw [if_neg hl]
    obtain ⟨a, lp⟩ := due_loop (b := b) (e := e) (th := th) h ds [] none (by simp) (by simp; omega) (by simp) hs
    have e0 : ([] : List D).length = 0 := rfl
    rw [e0, ← rng_idx] at lp
    have bdl : bd ((ds.length : Nat) : Int) := bd_small (by omega)
    have tn : ((ds.length : Nat) : Int).toNat = ds.length := by omega
    have cl1 : ∀ k : Nat, (tFFT (.int (k : Nat))).cl S.length = true := fun k => by simp [tFFT, D.cl, clL]
    have cl2 : D.non.cl S.length = true := by simp [D.cl]
    have hi : iRng1' (mCons (mB gLen (mCons (mVar 2) mNil)) mNil) [some (.int b), some (.int e), some th, some (.ref S.length), none] (S ++ [.lst []]) = .ok (vals (rngI 0 ds.length)) (S ++ [.lst []]) := by
      have gl := gLenR (h.app (T := [.lst []]))
      have ga : mCons (mB gLen (mCons (mVar 2) mNil)) mNil [some (.int b), some (.int e), some th, some (.ref S.length), none] (S ++ [.lst []]) = .ok [.int (ds.length : Nat)] (S ++ [.lst []]) := by
        simp only [mCons, mB, mNil, mVar, R.bind, List.getElem?_cons_succ, List.getElem?_cons_zero]
        rw [gl]
      have := iRng1_of ga bdl
      rw [tn] at this
      exact this
    have hF : mFor (iRng1' (mCons (mB gLen (mCons (mVar 2) mNil)) mNil)) (gSet 4) (mSeq (mIfS (mOrT (mNotT (mTest (mCall 3 f__law_is_span (mCons (m2 gIx (mVar 2) (mVar 4)) (mCons (mVar 0) (mCons (mVar 1) mNil)))))) (mTest (m2 (gInZ false) (m2 gIx (mVar 2) (mVar 4)) (mVar 3)))) (mRet (mTup (mCons (mTup (mCons (mC (.bl false)) (mCons (mC (.bl false)) (mCons (mC (.bl true)) mNil)))) (mCons (mVar 4) mNil)))) mNext)
  (mDrop (mBM gAppend (mVar 3) (mCons (m2 gIx (mVar 2) (mVar 4)) mNil)))) [some (.int b), some (.int e), some th, some (.ref S.length), none] (S ++ [.lst []]) = forGo (fun _ => True) (gSet 4) (mSeq (mIfS (mOrT (mNotT (mTest (mCall 3 f__law_is_span (mCons (m2 gIx (mVar 2) (mVar 4)) (mCons (mVar 0) (mCons (mVar 1) mNil)))))) (mTest (m2 (gInZ false) (m2 gIx (mVar 2) (mVar 4)) (mVar 3)))) (mRet (mTup (mCons (mTup (mCons (mC (.bl false)) (mCons (mC (.bl false)) (mCons (mC (.bl true)) mNil)))) (mCons (mVar 4) mNil)))) mNext)
  (mDrop (mBM gAppend (mVar 3) (mCons (m2 gIx (mVar 2) (mVar 4)) mNil)))) (rngI 0 ds.length) [some (.int b), some (.int e), some th, some (.ref S.length), none] (S ++ [.lst []]) := by
      unfold mFor
      rw [hi]
      rfl
    generalize mFor (iRng1' (mCons (mB gLen (mCons (mVar 2) mNil)) mNil)) (gSet 4) (mSeq (mIfS (mOrT (mNotT (mTest (mCall 3 f__law_is_span (mCons (m2 gIx (mVar 2) (mVar 4)) (mCons (mVar 0) (mCons (mVar 1) mNil)))))) (mTest (m2 (gInZ false) (m2 gIx (mVar 2) (mVar 4)) (mVar 3)))) (mRet (mTup (mCons (mTup (mCons (mC (.bl false)) (mCons (mC (.bl false)) (mCons (mC (.bl true)) mNil)))) (mCons (mVar 4) mNil)))) mNext)
  (mDrop (mBM gAppend (mVar 3) (mCons (m2 gIx (mVar 2) (mVar 4)) mNil)))) = FF at hF ⊢
    have hgl : gLen [th] S = .ok (.int (ds.length : Nat)) S := gLenR h
    have h3 : (mIfS (mOrT (mNotT (mTest (m1 (gIsi cs [(.bi "list"), (.bi "tuple")]) (mVar 2)))) (mTest (m2 (gCmp fun i j => decide (j < i)) (mB gLen (mCons (mVar 2) mNil)) (mC (.int 60))))) (mRet (mTup (mCons (mTup (mCons (mC (.bl false)) (mCons (mC (.bl false)) (mCons (mC (.bl true)) mNil)))) (mCons (m1 gNeg (mC (.int 1))) mNil)))) mNext) [some (.int b), some (.int e), some th, none, none] S = .nx [some (.int b), some (.int e), some th, none, none] S := by
      rcases h with z | ⟨n, z, hn⟩ <;> subst z
      · simp only [mSeq, RS.seq, mIfS, mTest, mSet, mRet, mVar, mC, mNil, mCons, Lk.m1, Lk.m2, mB, mAnd, mOr, mNot, mAndT, mOrT, mNotT, mIf, mAsg, mNext, mCall, R.bind, R.bindS, R.nxt, asB, gSub', mTup, mLst, List.getElem?_cons_succ, List.getElem?_cons_zero, List.getElem?_nil, List.set_cons_succ, List.set_cons_zero, List.map_cons, List.map_nil, List.cons_append, List.nil_append, List.length_cons, List.length_nil, List.replicate, Lk.gIx, Lk.gAdd, Lk.gSub, Lk.gMul, Lk.gDiv, Lk.gMod, gInt, gCmp, gNeg, gAbs, gGcd, gLen, List.length_map, Lk.listOf, stIx, if_true, if_false, Bool.false_eq_true, reduceIte, Nat.reduceAdd, Nat.reduceSub, Nat.zero_add, eqz_int, pow1010, pow1018, pow1019, Int.reduceMul, Int.reduceAdd, ix40, ix41, ix42, ix43, at40, at41, at42, at43, and_true, true_and, and_self, ne_eq, not_false_eq_true, decide_true, decide_false, decide_eq_true_eq, Bool.and_true, Bool.true_and, mFor, iSeq, srcOf, vals, forGo_n, forGo_c, gSet, mRaise1, mSetF, setF, lim_le, Nat.reduceLeDiff, Bool.not_false, Bool.not_true, Nat.lt_irrefl, List.length_append, List.append_assoc, g1, hl']
      · simp only [mSeq, RS.seq, mIfS, mTest, mSet, mRet, mVar, mC, mNil, mCons, Lk.m1, Lk.m2, mB, mAnd, mOr, mNot, mAndT, mOrT, mNotT, mIf, mAsg, mNext, mCall, R.bind, R.bindS, R.nxt, asB, gSub', mTup, mLst, List.getElem?_cons_succ, List.getElem?_cons_zero, List.getElem?_nil, List.set_cons_succ, List.set_cons_zero, List.map_cons, List.map_nil, List.cons_append, List.nil_append, List.length_cons, List.length_nil, List.replicate, Lk.gIx, Lk.gAdd, Lk.gSub, Lk.gMul, Lk.gDiv, Lk.gMod, gInt, gCmp, gNeg, gAbs, gGcd, gLen, List.length_map, Lk.listOf, stIx, if_true, if_false, Bool.false_eq_true, reduceIte, Nat.reduceAdd, Nat.reduceSub, Nat.zero_add, eqz_int, pow1010, pow1018, pow1019, Int.reduceMul, Int.reduceAdd, ix40, ix41, ix42, ix43, at40, at41, at42, at43, and_true, true_and, and_self, ne_eq, not_false_eq_true, decide_true, decide_false, decide_eq_true_eq, Bool.and_true, Bool.true_and, mFor, iSeq, srcOf, vals, forGo_n, forGo_c, gSet, mRaise1, mSetF, setF, lim_le, Nat.reduceLeDiff, Bool.not_false, Bool.not_true, Nat.lt_irrefl, List.length_append, List.append_assoc, g1, hn, hl']
    generalize (mIfS (mOrT (mNotT (mTest (m1 (gIsi cs [(.bi "list"), (.bi "tuple")]) (mVar 2)))) (mTest (m2 (gCmp fun i j => decide (j < i)) (mB gLen (mCons (mVar 2) mNil)) (mC (.int 60))))) (mRet (mTup (mCons (mTup (mCons (mC (.bl false)) (mCons (mC (.bl false)) (mCons (mC (.bl true)) mNil)))) (mCons (m1 gNeg (mC (.int 1))) mNil)))) mNext) = GG at h3 ⊢
    cases q : fault b e [] 0 ds with
    | some k =>
      rw [q] at lp
      dsimp only at lp
      rw [lp] at hF
      simp only [mSeq, RS.seq, mIfS, mTest, mSet, mRet, mVar, mC, mNil, mCons, Lk.m1, Lk.m2, mB, mAnd, mOr, mNot, mAndT, mOrT, mNotT, mIf, mAsg, mNext, mCall, R.bind, R.bindS, R.nxt, asB, gSub', mTup, mLst, List.getElem?_cons_succ, List.getElem?_cons_zero, List.getElem?_nil, List.set_cons_succ, List.set_cons_zero, List.map_cons, List.map_nil, List.cons_append, List.nil_append, List.length_cons, List.length_nil, List.replicate, Lk.gIx, Lk.gAdd, Lk.gSub, Lk.gMul, Lk.gDiv, Lk.gMod, gInt, gCmp, gNeg, gAbs, gGcd, gLen, List.length_map, Lk.listOf, stIx, if_true, if_false, Bool.false_eq_true, reduceIte, Nat.reduceAdd, Nat.reduceSub, Nat.zero_add, eqz_int, pow1010, pow1018, pow1019, Int.reduceMul, Int.reduceAdd, ix40, ix41, ix42, ix43, at40, at41, at42, at43, and_true, true_and, and_self, ne_eq, not_false_eq_true, decide_true, decide_false, decide_eq_true_eq, Bool.and_true, Bool.true_and, mFor, iSeq, srcOf, vals, forGo_n, forGo_c, gSet, mRaise1, mSetF, setF, lim_le, Nat.reduceLeDiff, Bool.not_false, Bool.not_true, Nat.lt_irrefl, List.length_append, List.append_assoc, h5, h6, b1, b2, e1, e2, h3, hF]
      exact gc_ok (cl1 k)
    | none =>
      rw [q] at lp
      obtain ⟨q4, lp⟩ := lp
      rw [lp] at hF
      simp only [mSeq, RS.seq, mIfS, mTest, mSet, mRet, mVar, mC, mNil, mCons, Lk.m1, Lk.m2, mB, mAnd, mOr, mNot, mAndT, mOrT, mNotT, mIf, mAsg, mNext, mCall, R.bind, R.bindS, R.nxt, asB, gSub', mTup, mLst, List.getElem?_cons_succ, List.getElem?_cons_zero, List.getElem?_nil, List.set_cons_succ, List.set_cons_zero, List.map_cons, List.map_nil, List.cons_append, List.nil_append, List.length_cons, List.length_nil, List.replicate, Lk.gIx, Lk.gAdd, Lk.gSub, Lk.gMul, Lk.gDiv, Lk.gMod, gInt, gCmp, gNeg, gAbs, gGcd, gLen, List.length_map, Lk.listOf, stIx, if_true, if_false, Bool.false_eq_true, reduceIte, Nat.reduceAdd, Nat.reduceSub, Nat.zero_add, eqz_int, pow1010, pow1018, pow1019, Int.reduceMul, Int.reduceAdd, ix40, ix41, ix42, ix43, at40, at41, at42, at43, and_true, true_and, and_self, ne_eq, not_false_eq_true, decide_true, decide_false, decide_eq_true_eq, Bool.and_true, Bool.true_and, mFor, iSeq, srcOf, vals, forGo_n, forGo_c, gSet, mRaise1, mSetF, setF, lim_le, Nat.reduceLeDiff, Bool.not_false, Bool.not_true, Nat.lt_irrefl, List.length_append, List.append_assoc, h5, h6, b1, b2, e1, e2, h3, hF]
      exact gc_ok cl2
end Mi_k02

set_option linter.all false
set_option autoImplicit false
set_option maxRecDepth 100000
set_option maxHeartbeats 4000000
namespace Mi_k02
open PySem Lk L2
theorem gcX_self {S : Store} {C : Str} {ds : List D} : gcX S C ds S = .ex C ds S := by
  unfold Lk.gcX
  split <;> rfl
theorem gcX_app {S T : Store} {C : Str} {ds : List D} (h : clL S.length ds = true) : gcX S C ds (S ++ T) = .ex C ds S := by
  unfold Lk.gcX
  rw [if_pos ⟨h, by simp⟩]
theorem are_ev {S : Store} {e : Int} (he : 1 ≤ e ∧ e ≤ 24) : f_are_events [.int e] S = .ok (.bl true) S := by
  have h6 := isint (kn_int S e)
  simp only [isInt] at h6
  unfold f_are_events mDef b_are_events
  simp only [mSeq, RS.seq, mIfS, mTest, mSet, mRet, mVar, mC, mNil, mCons, Lk.m1, Lk.m2, mB, mAnd, mOr, mNot, mAndT, mOrT, mNotT, mIf, mAsg, mNext, mCall, R.bind, R.bindS, R.nxt, asB, gSub', mTup, mLst, List.getElem?_cons_succ, List.getElem?_cons_zero, List.getElem?_nil, List.set_cons_succ, List.set_cons_zero, List.map_cons, List.map_nil, List.cons_append, List.nil_append, List.length_cons, List.length_nil, List.replicate, Lk.gIx, Lk.gAdd, Lk.gSub, Lk.gMul, Lk.gDiv, Lk.gMod, gInt, gCmp, gNeg, gAbs, gGcd, gLen, List.length_map, Lk.listOf, stIx, if_true, if_false, Bool.false_eq_true, reduceIte, Nat.reduceAdd, Nat.reduceSub, Nat.zero_add, eqz_int, pow1010, pow1018, pow1019, Int.reduceMul, Int.reduceAdd, ix40, ix41, ix42, ix43, at40, at41, at42, at43, and_true, true_and, and_self, ne_eq, not_false_eq_true, decide_true, decide_false, decide_eq_true_eq, Bool.and_true, Bool.true_and, mFor, iSeq, srcOf, vals, forGo_n, forGo_c, gSet, mRaise1, mSetF, setF, lim_le, Nat.reduceLeDiff, Bool.not_false, Bool.not_true, Nat.lt_irrefl, List.length_append, List.append_assoc, h6, mCh2, mLink, mLast, he.1, he.2]
  exact gc_self
theorem are_ev_no {S : Store} {e : Int} (he : ¬ (1 ≤ e ∧ e ≤ 24)) : f_are_events [.int e] S = .ok (.bl false) S := by
  have h6 := isint (kn_int S e)
  simp only [isInt] at h6
  unfold f_are_events mDef b_are_events
  by_cases h1 : 1 ≤ e
  · have h2 : ¬ e ≤ 24 := fun z => he ⟨h1, z⟩
    simp only [mSeq, RS.seq, mIfS, mTest, mSet, mRet, mVar, mC, mNil, mCons, Lk.m1, Lk.m2, mB, mAnd, mOr, mNot, mAndT, mOrT, mNotT, mIf, mAsg, mNext, mCall, R.bind, R.bindS, R.nxt, asB, gSub', mTup, mLst, List.getElem?_cons_succ, List.getElem?_cons_zero, List.getElem?_nil, List.set_cons_succ, List.set_cons_zero, List.map_cons, List.map_nil, List.cons_append, List.nil_append, List.length_cons, List.length_nil, List.replicate, Lk.gIx, Lk.gAdd, Lk.gSub, Lk.gMul, Lk.gDiv, Lk.gMod, gInt, gCmp, gNeg, gAbs, gGcd, gLen, List.length_map, Lk.listOf, stIx, if_true, if_false, Bool.false_eq_true, reduceIte, Nat.reduceAdd, Nat.reduceSub, Nat.zero_add, eqz_int, pow1010, pow1018, pow1019, Int.reduceMul, Int.reduceAdd, ix40, ix41, ix42, ix43, at40, at41, at42, at43, and_true, true_and, and_self, ne_eq, not_false_eq_true, decide_true, decide_false, decide_eq_true_eq, Bool.and_true, Bool.true_and, mFor, iSeq, srcOf, vals, forGo_n, forGo_c, gSet, mRaise1, mSetF, setF, lim_le, Nat.reduceLeDiff, Bool.not_false, Bool.not_true, Nat.lt_irrefl, List.length_append, List.append_assoc, h6, mCh2, mLink, mLast, h1, h2]
    exact gc_self
  · simp only [mSeq, RS.seq, mIfS, mTest, mSet, mRet, mVar, mC, mNil, mCons, Lk.m1, Lk.m2, mB, mAnd, mOr, mNot, mAndT, mOrT, mNotT, mIf, mAsg, mNext, mCall, R.bind, R.bindS, R.nxt, asB, gSub', mTup, mLst, List.getElem?_cons_succ, List.getElem?_cons_zero, List.getElem?_nil, List.set_cons_succ, List.set_cons_zero, List.map_cons, List.map_nil, List.cons_append, List.nil_append, List.length_cons, List.length_nil, List.replicate, Lk.gIx, Lk.gAdd, Lk.gSub, Lk.gMul, Lk.gDiv, Lk.gMod, gInt, gCmp, gNeg, gAbs, gGcd, gLen, List.length_map, Lk.listOf, stIx, if_true, if_false, Bool.false_eq_true, reduceIte, Nat.reduceAdd, Nat.reduceSub, Nat.zero_add, eqz_int, pow1010, pow1018, pow1019, Int.reduceMul, Int.reduceAdd, ix40, ix41, ix42, ix43, at40, at41, at42, at43, and_true, true_and, and_self, ne_eq, not_false_eq_true, decide_true, decide_false, decide_eq_true_eq, Bool.and_true, Bool.true_and, mFor, iSeq, srcOf, vals, forGo_n, forGo_c, gSet, mRaise1, mSetF, setF, lim_le, Nat.reduceLeDiff, Bool.not_false, Bool.not_true, Nat.lt_irrefl, List.length_append, List.append_assoc, h6, mCh2, mLink, mLast, h1]
    exact gc_self
theorem are_ev_odd {S : Store} {x : D} (h : Odd S x) : f_are_events [x] S = .ok (.bl false) S := by
  have h6 := isint h.kn
  rw [h.notInt] at h6
  unfold f_are_events mDef b_are_events
  simp only [mSeq, RS.seq, mIfS, mTest, mSet, mRet, mVar, mC, mNil, mCons, Lk.m1, Lk.m2, mB, mAnd, mOr, mNot, mAndT, mOrT, mNotT, mIf, mAsg, mNext, mCall, R.bind, R.bindS, R.nxt, asB, gSub', mTup, mLst, List.getElem?_cons_succ, List.getElem?_cons_zero, List.getElem?_nil, List.set_cons_succ, List.set_cons_zero, List.map_cons, List.map_nil, List.cons_append, List.nil_append, List.length_cons, List.length_nil, List.replicate, Lk.gIx, Lk.gAdd, Lk.gSub, Lk.gMul, Lk.gDiv, Lk.gMod, gInt, gCmp, gNeg, gAbs, gGcd, gLen, List.length_map, Lk.listOf, stIx, if_true, if_false, Bool.false_eq_true, reduceIte, Nat.reduceAdd, Nat.reduceSub, Nat.zero_add, eqz_int, pow1010, pow1018, pow1019, Int.reduceMul, Int.reduceAdd, ix40, ix41, ix42, ix43, at40, at41, at42, at43, and_true, true_and, and_self, ne_eq, not_false_eq_true, decide_true, decide_false, decide_eq_true_eq, Bool.and_true, Bool.true_and, mFor, iSeq, srcOf, vals, forGo_n, forGo_c, gSet, mRaise1, mSetF, setF, lim_le, Nat.reduceLeDiff, Bool.not_false, Bool.not_true, Nat.lt_irrefl, List.length_append, List.append_assoc, h6]
  exact gc_self
/-- Net(b, e, th): the row's fault is told, else the net is made -/
theorem net_bad {S : Store} {th : D} {ds : List D} {b e : Int} {k : Int} (hb : 3 ≤ b ∧ b ≤ 1440) (he : 1 ≤ e ∧ e ≤ 24) (h : Row S th ds) (hs : ∀ x ∈ ds, SV S x)
    (hf : (if 60 < ds.length then D.int (-1) else res (fault b e [] 0 ds)) = .int k) : mkOf "Net" f_Net___init__ [.int b, .int e, th] S = .ex "BadSpan" [.int k] S := by
  have hf1 := own_fault (b := b) (e := e) (h.app (T := [.obj "Net" []])) fun x hx => (hs x hx).app
  rw [hf] at hf1
  have h5 := isint (kn_int (S ++ [Ob.obj "Net" []]) b)
  have h6 := isint (kn_int (S ++ [Ob.obj "Net" []]) e)
  simp only [isInt] at h5 h6
  have ei : f_Net___init__ [.ref S.length, .int b, .int e, th] (S ++ [Ob.obj "Net" []]) = .ex "BadSpan" [.int k] (S ++ [Ob.obj "Net" []]) := by
    unfold f_Net___init__ mDef b_Net___init__
    simp only [mSeq, RS.seq, mIfS, mTest, mSet, mRet, mVar, mC, mNil, mCons, Lk.m1, Lk.m2, mB, mAnd, mOr, mNot, mAndT, mOrT, mNotT, mIf, mAsg, mNext, mCall, R.bind, R.bindS, R.nxt, asB, gSub', mTup, mLst, List.getElem?_cons_succ, List.getElem?_cons_zero, List.getElem?_nil, List.set_cons_succ, List.set_cons_zero, List.map_cons, List.map_nil, List.cons_append, List.nil_append, List.length_cons, List.length_nil, List.replicate, Lk.gIx, Lk.gAdd, Lk.gSub, Lk.gMul, Lk.gDiv, Lk.gMod, gInt, gCmp, gNeg, gAbs, gGcd, gLen, List.length_map, Lk.listOf, stIx, if_true, if_false, Bool.false_eq_true, reduceIte, Nat.reduceAdd, Nat.reduceSub, Nat.zero_add, eqz_int, pow1010, pow1018, pow1019, Int.reduceMul, Int.reduceAdd, ix40, ix41, ix42, ix43, at40, at41, at42, at43, and_true, true_and, and_self, ne_eq, not_false_eq_true, decide_true, decide_false, decide_eq_true_eq, Bool.and_true, Bool.true_and, mFor, iSeq, srcOf, vals, forGo_n, forGo_c, gSet, mRaise1, mSetF, setF, lim_le, Nat.reduceLeDiff, Bool.not_false, Bool.not_true, Nat.lt_irrefl, List.length_append, List.append_assoc, h5, are_ev he, mCh2, mLink, mLast, hb.1, hb.2, hf1, gNotN, isNonD]
    exact gcX_self
  unfold mkOf
  rw [ei]
  exact gcX_app (by simp [clL, D.cl])
theorem net_good {S : Store} {th : D} {ds : List D} {b e : Int} (hb : 3 ≤ b ∧ b ≤ 1440) (he : 1 ≤ e ∧ e ≤ 24) (h : Row S th ds) (hs : ∀ x ∈ ds, SV S x) (hv : ∀ x ∈ ds, V4 x)
    (hl : ¬ 60 < ds.length) (hf : fault b e [] 0 ds = none) : mkOf "Net" f_Net___init__ [.int b, .int e, th] S = .ok (.ins "Net" [.int b, .int e, .tup ds]) S := by
  have hf1 := own_fault (b := b) (e := e) (h.app (T := [.obj "Net" []])) fun x hx => (hs x hx).app
  rw [if_neg hl, hf] at hf1
  have h5 := isint (kn_int (S ++ [Ob.obj "Net" []]) b)
  have h6 := isint (kn_int (S ++ [Ob.obj "Net" []]) e)
  simp only [isInt] at h5 h6
  have hg : ∀ x, (S ++ [x])[S.length]? = some x := fun x => by simp
  have hset : ∀ x y : Ob, (S ++ [x]).set S.length y = S ++ [y] := fun x y => by simp
  have f0 : (flds "Net")[0]? = some (Str.ofString "beat") := by decide
  have f1 : (flds "Net")[1]? = some (Str.ofString "events") := by decide
  have f2 : (flds "Net")[2]? = some (Str.ofString "spans") := by decide
  have t0 : (flds "Net").take 0 = [] := rfl
  have t1 : (flds "Net").take 1 = [Str.ofString "beat"] := by decide
  have t2 : (flds "Net").take 2 = [Str.ofString "beat", Str.ofString "events"] := by decide
  have n0 : Str.ofString "beat" ∉ ([] : List Str) := by decide
  have n1 : Str.ofString "events" ∉ ([Str.ofString "beat"] : List Str) := by decide
  have n2 : Str.ofString "spans" ∉ ([Str.ofString "beat", Str.ofString "events"] : List Str) := by decide
  have q0 : (0 : Nat) < 900 := by decide
  have q1 : (1 : Nat) < 900 := by decide
  have q2 : (2 : Nat) < 900 := by decide
  have hrow : ∀ o : Ob, gTuple [th] (S ++ [o]) = .ok (.tup ds) (S ++ [o]) := fun o => by
    rcases h with z | ⟨n, z, hn⟩
    · subst z; rfl
    · subst z
      have : (S ++ [o])[n]? = some (.lst ds) := by rw [List.getElem?_append_left (getlt hn)]; exact hn
      unfold gTuple
      simp [Lk.listOf, this]
  have ei : f_Net___init__ [.ref S.length, .int b, .int e, th] (S ++ [Ob.obj "Net" []]) = .ok .non (S ++ [Ob.obj "Net" [.int b, .int e, .tup ds]]) := by
    unfold f_Net___init__ mDef b_Net___init__
    simp only [mSeq, RS.seq, mIfS, mTest, mSet, mRet, mVar, mC, mNil, mCons, Lk.m1, Lk.m2, mB, mAnd, mOr, mNot, mAndT, mOrT, mNotT, mIf, mAsg, mNext, mCall, R.bind, R.bindS, R.nxt, asB, gSub', mTup, mLst, List.getElem?_cons_succ, List.getElem?_cons_zero, List.getElem?_nil, List.set_cons_succ, List.set_cons_zero, List.map_cons, List.map_nil, List.cons_append, List.nil_append, List.length_cons, List.length_nil, List.replicate, Lk.gIx, Lk.gAdd, Lk.gSub, Lk.gMul, Lk.gDiv, Lk.gMod, gInt, gCmp, gNeg, gAbs, gGcd, gLen, List.length_map, Lk.listOf, stIx, if_true, if_false, Bool.false_eq_true, reduceIte, Nat.reduceAdd, Nat.reduceSub, Nat.zero_add, eqz_int, pow1010, pow1018, pow1019, Int.reduceMul, Int.reduceAdd, ix40, ix41, ix42, ix43, at40, at41, at42, at43, and_true, true_and, and_self, ne_eq, not_false_eq_true, decide_true, decide_false, decide_eq_true_eq, Bool.and_true, Bool.true_and, mFor, iSeq, srcOf, vals, forGo_n, forGo_c, gSet, mRaise1, mSetF, setF, lim_le, Nat.reduceLeDiff, Bool.not_false, Bool.not_true, Nat.lt_irrefl, List.length_append, List.append_assoc, h5, are_ev he, mCh2, mLink, mLast, hb.1, hb.2, hf1, res, gNotN, isNonD, hg, hset, f0, f1, f2, t0, t1, t2, n0, n1, n2, q0, q1, q2, hrow]
    refine gc_len ?_
    simp
  have cv : ∀ d ∈ ds, d.cl S.length = true := fun d hd => by
    obtain ⟨i, j, lo, hi, z⟩ := hv d hd
    subst z
    simp [D.cl, clL]
  have call : ∀ l : List D, (∀ d ∈ l, d.cl S.length = true) → clL S.length l = true := fun l => by
    induction l with
    | nil => intro _; simp [clL]
    | cons d l ih => intro hl; simp [clL, hl d List.mem_cons_self, ih fun x hx => hl x (List.mem_cons_of_mem _ hx)]
  unfold mkOf
  rw [ei]
  simp only [hg, if_true]
  unfold mkEnd
  rw [if_pos ⟨by simp [clL, D.cl, call ds cv], by simp⟩]
end Mi_k02

set_option linter.all false
set_option autoImplicit false
set_option maxRecDepth 100000
set_option maxHeartbeats 4000000
namespace Mi_k02
open PySem Lk L2
theorem eq3 {S : Store} {a b c a' b' c' : Bool} : gEqD (.tup [.bl a, .bl b, .bl c]) (.tup [.bl a', .bl b', .bl c']) S = .ok (.bl (a == a' && (b == b' && c == c'))) S := by
  simp [gEqD, eqData, pyD, SeqAt.shaped, PyData.canLay0, PyData.depth, PyData.eqv, PyData.canLayAll0, PyData.depthAll, PyData.eqvAll]
def sRef (a b c : Bool) (d : D) : D := .tup [.str (Str.ofString "refused"), .tup [.bl a, .bl b, .bl c], d]
theorem told_span {S : Store} {b e th x : D} (hc : x.cl S.length = true) (em : mkOf "Net" f_Net___init__ [b, e, th] S = .ex "BadSpan" [x] S) : f__law_told [b, e, th] S = .ok (sRef false false true x) S := by
  have k1 : xk "BadSpan" (.own "BadBeat") = some false := by decide
  have k2 : xk "BadSpan" (.own "BadEvents") = some false := by decide
  have k3 : xk "BadSpan" (.own "BadSpan") = some true := by decide
  have k4 : sb "SpansError" "BadSpan" = some true := by decide
  have k5 : ((xfl "BadSpan").zip [x]).lookup (Str.ofString "index") = some x := by
    have e : xfl "BadSpan" = ([Str.ofString "index"] : List Str) := by decide
    rw [e]
    simp [List.lookup]
  have c0 : gEqD (.tup [.bl false, .bl false, .bl true]) (.tup [.bl true, .bl false, .bl false]) S = .ok (.bl false) S := eq3
  have c1 : gEqD (.tup [.bl false, .bl false, .bl true]) (.tup [.bl false, .bl true, .bl false]) S = .ok (.bl false) S := eq3
  have c2 : gEqD (.tup [.bl false, .bl false, .bl true]) (.tup [.bl false, .bl false, .bl true]) S = .ok (.bl true) S := eq3
  unfold f__law_told mDef b__law_told
  simp only [mSeq, RS.seq, mIfS, mTest, mSet, mRet, mVar, mC, mNil, mCons, Lk.m1, Lk.m2, mB, mAnd, mOr, mNot, mAndT, mOrT, mNotT, mIf, mAsg, mNext, mCall, R.bind, R.bindS, R.nxt, asB, gSub', mTup, mLst, List.getElem?_cons_succ, List.getElem?_cons_zero, List.getElem?_nil, List.set_cons_succ, List.set_cons_zero, List.map_cons, List.map_nil, List.cons_append, List.nil_append, List.length_cons, List.length_nil, List.replicate, Lk.gIx, Lk.gAdd, Lk.gSub, Lk.gMul, Lk.gDiv, Lk.gMod, gInt, gCmp, gNeg, gAbs, gGcd, gLen, List.length_map, Lk.listOf, stIx, if_true, if_false, Bool.false_eq_true, reduceIte, Nat.reduceAdd, Nat.reduceSub, Nat.zero_add, eqz_int, pow1010, pow1018, pow1019, Int.reduceMul, Int.reduceAdd, ix40, ix41, ix42, ix43, at40, at41, at42, at43, and_true, true_and, and_self, ne_eq, not_false_eq_true, decide_true, decide_false, decide_eq_true_eq, Bool.and_true, Bool.true_and, mFor, iSeq, srcOf, vals, forGo_n, forGo_c, gSet, mRaise1, mSetF, setF, lim_le, Nat.reduceLeDiff, Bool.not_false, Bool.not_true, Nat.lt_irrefl, List.length_append, List.append_assoc, mTryAs, mMake, em, mXis, mXfld, endAs, k1, k2, k3, k4, k5, c0, c1, c2]
  exact gc_self
theorem told_beat {S : Store} {b e th x : D} (hc : x.cl S.length = true) (em : mkOf "Net" f_Net___init__ [b, e, th] S = .ex "BadBeat" [x] S) : f__law_told [b, e, th] S = .ok (sRef true false false x) S := by
  have k1 : xk "BadBeat" (.own "BadBeat") = some true := by decide
  have k2 : xk "BadBeat" (.own "BadEvents") = some false := by decide
  have k3 : xk "BadBeat" (.own "BadSpan") = some false := by decide
  have k4 : sb "SpansError" "BadBeat" = some true := by decide
  have k5 : ((xfl "BadBeat").zip [x]).lookup (Str.ofString "beat") = some x := by
    have e : xfl "BadBeat" = ([Str.ofString "beat"] : List Str) := by decide
    rw [e]
    simp [List.lookup]
  have c0 : gEqD (.tup [.bl true, .bl false, .bl false]) (.tup [.bl true, .bl false, .bl false]) S = .ok (.bl true) S := eq3
  have c1 : gEqD (.tup [.bl true, .bl false, .bl false]) (.tup [.bl false, .bl true, .bl false]) S = .ok (.bl false) S := eq3
  have c2 : gEqD (.tup [.bl true, .bl false, .bl false]) (.tup [.bl false, .bl false, .bl true]) S = .ok (.bl false) S := eq3
  unfold f__law_told mDef b__law_told
  simp only [mSeq, RS.seq, mIfS, mTest, mSet, mRet, mVar, mC, mNil, mCons, Lk.m1, Lk.m2, mB, mAnd, mOr, mNot, mAndT, mOrT, mNotT, mIf, mAsg, mNext, mCall, R.bind, R.bindS, R.nxt, asB, gSub', mTup, mLst, List.getElem?_cons_succ, List.getElem?_cons_zero, List.getElem?_nil, List.set_cons_succ, List.set_cons_zero, List.map_cons, List.map_nil, List.cons_append, List.nil_append, List.length_cons, List.length_nil, List.replicate, Lk.gIx, Lk.gAdd, Lk.gSub, Lk.gMul, Lk.gDiv, Lk.gMod, gInt, gCmp, gNeg, gAbs, gGcd, gLen, List.length_map, Lk.listOf, stIx, if_true, if_false, Bool.false_eq_true, reduceIte, Nat.reduceAdd, Nat.reduceSub, Nat.zero_add, eqz_int, pow1010, pow1018, pow1019, Int.reduceMul, Int.reduceAdd, ix40, ix41, ix42, ix43, at40, at41, at42, at43, and_true, true_and, and_self, ne_eq, not_false_eq_true, decide_true, decide_false, decide_eq_true_eq, Bool.and_true, Bool.true_and, mFor, iSeq, srcOf, vals, forGo_n, forGo_c, gSet, mRaise1, mSetF, setF, lim_le, Nat.reduceLeDiff, Bool.not_false, Bool.not_true, Nat.lt_irrefl, List.length_append, List.append_assoc, mTryAs, mMake, em, mXis, mXfld, endAs, k1, k2, k3, k4, k5, c0, c1, c2]
  exact gc_self
theorem told_events {S : Store} {b e th x : D} (hc : x.cl S.length = true) (em : mkOf "Net" f_Net___init__ [b, e, th] S = .ex "BadEvents" [x] S) : f__law_told [b, e, th] S = .ok (sRef false true false x) S := by
  have k1 : xk "BadEvents" (.own "BadBeat") = some false := by decide
  have k2 : xk "BadEvents" (.own "BadEvents") = some true := by decide
  have k3 : xk "BadEvents" (.own "BadSpan") = some false := by decide
  have k4 : sb "SpansError" "BadEvents" = some true := by decide
  have k5 : ((xfl "BadEvents").zip [x]).lookup (Str.ofString "events") = some x := by
    have e : xfl "BadEvents" = ([Str.ofString "events"] : List Str) := by decide
    rw [e]
    simp [List.lookup]
  have c0 : gEqD (.tup [.bl false, .bl true, .bl false]) (.tup [.bl true, .bl false, .bl false]) S = .ok (.bl false) S := eq3
  have c1 : gEqD (.tup [.bl false, .bl true, .bl false]) (.tup [.bl false, .bl true, .bl false]) S = .ok (.bl true) S := eq3
  have c2 : gEqD (.tup [.bl false, .bl true, .bl false]) (.tup [.bl false, .bl false, .bl true]) S = .ok (.bl false) S := eq3
  unfold f__law_told mDef b__law_told
  simp only [mSeq, RS.seq, mIfS, mTest, mSet, mRet, mVar, mC, mNil, mCons, Lk.m1, Lk.m2, mB, mAnd, mOr, mNot, mAndT, mOrT, mNotT, mIf, mAsg, mNext, mCall, R.bind, R.bindS, R.nxt, asB, gSub', mTup, mLst, List.getElem?_cons_succ, List.getElem?_cons_zero, List.getElem?_nil, List.set_cons_succ, List.set_cons_zero, List.map_cons, List.map_nil, List.cons_append, List.nil_append, List.length_cons, List.length_nil, List.replicate, Lk.gIx, Lk.gAdd, Lk.gSub, Lk.gMul, Lk.gDiv, Lk.gMod, gInt, gCmp, gNeg, gAbs, gGcd, gLen, List.length_map, Lk.listOf, stIx, if_true, if_false, Bool.false_eq_true, reduceIte, Nat.reduceAdd, Nat.reduceSub, Nat.zero_add, eqz_int, pow1010, pow1018, pow1019, Int.reduceMul, Int.reduceAdd, ix40, ix41, ix42, ix43, at40, at41, at42, at43, and_true, true_and, and_self, ne_eq, not_false_eq_true, decide_true, decide_false, decide_eq_true_eq, Bool.and_true, Bool.true_and, mFor, iSeq, srcOf, vals, forGo_n, forGo_c, gSet, mRaise1, mSetF, setF, lim_le, Nat.reduceLeDiff, Bool.not_false, Bool.not_true, Nat.lt_irrefl, List.length_append, List.append_assoc, mTryAs, mMake, em, mXis, mXfld, endAs, k1, k2, k3, k4, k5, c0, c1, c2]
  exact gc_self
theorem told_made {S : Store} {b e th x : D} (em : mkOf "Net" f_Net___init__ [b, e, th] S = .ok x S) : f__law_told [b, e, th] S = .ok (.tup [.str (Str.ofString "made"), x, .non]) S := by
  unfold f__law_told mDef b__law_told
  simp only [mSeq, RS.seq, mIfS, mTest, mSet, mRet, mVar, mC, mNil, mCons, Lk.m1, Lk.m2, mB, mAnd, mOr, mNot, mAndT, mOrT, mNotT, mIf, mAsg, mNext, mCall, R.bind, R.bindS, R.nxt, asB, gSub', mTup, mLst, List.getElem?_cons_succ, List.getElem?_cons_zero, List.getElem?_nil, List.set_cons_succ, List.set_cons_zero, List.map_cons, List.map_nil, List.cons_append, List.nil_append, List.length_cons, List.length_nil, List.replicate, Lk.gIx, Lk.gAdd, Lk.gSub, Lk.gMul, Lk.gDiv, Lk.gMod, gInt, gCmp, gNeg, gAbs, gGcd, gLen, List.length_map, Lk.listOf, stIx, if_true, if_false, Bool.false_eq_true, reduceIte, Nat.reduceAdd, Nat.reduceSub, Nat.zero_add, eqz_int, pow1010, pow1018, pow1019, Int.reduceMul, Int.reduceAdd, ix40, ix41, ix42, ix43, at40, at41, at42, at43, and_true, true_and, and_self, ne_eq, not_false_eq_true, decide_true, decide_false, decide_eq_true_eq, Bool.and_true, Bool.true_and, mFor, iSeq, srcOf, vals, forGo_n, forGo_c, gSet, mRaise1, mSetF, setF, lim_le, Nat.reduceLeDiff, Bool.not_false, Bool.not_true, Nat.lt_irrefl, List.length_append, List.append_assoc, mTryAs, mMake, em]
  exact gc_self
end Mi_k02

set_option linter.all false
set_option autoImplicit false
set_option maxRecDepth 100000
set_option maxHeartbeats 4000000
namespace Mi_k02
open PySem Lk L2
theorem made_ex {S : Store} {C : Str} {b e th x : D} (hc : x.cl S.length = true) (ei : f_Net___init__ [.ref S.length, b, e, th] (S ++ [Ob.obj "Net" []]) = .ex C [x] (S ++ [Ob.obj "Net" []])) : mkOf "Net" f_Net___init__ [b, e, th] S = .ex C [x] S := by
  unfold mkOf
  rw [ei]
  exact gcX_app (by simp [clL, hc])
theorem beat_odd {S : Store} {x e th : D} (h : Odd S x) : mkOf "Net" f_Net___init__ [x, e, th] S = .ex "BadBeat" [x] S := by
  refine made_ex h.clo ?_
  have h5 := isint (h.kn.app (T := [Ob.obj "Net" []]))
  rw [h.notInt] at h5
  unfold f_Net___init__ mDef b_Net___init__
  simp only [mSeq, RS.seq, mIfS, mTest, mSet, mRet, mVar, mC, mNil, mCons, Lk.m1, Lk.m2, mB, mAnd, mOr, mNot, mAndT, mOrT, mNotT, mIf, mAsg, mNext, mCall, R.bind, R.bindS, R.nxt, asB, gSub', mTup, mLst, List.getElem?_cons_succ, List.getElem?_cons_zero, List.getElem?_nil, List.set_cons_succ, List.set_cons_zero, List.map_cons, List.map_nil, List.cons_append, List.nil_append, List.length_cons, List.length_nil, List.replicate, Lk.gIx, Lk.gAdd, Lk.gSub, Lk.gMul, Lk.gDiv, Lk.gMod, gInt, gCmp, gNeg, gAbs, gGcd, gLen, List.length_map, Lk.listOf, stIx, if_true, if_false, Bool.false_eq_true, reduceIte, Nat.reduceAdd, Nat.reduceSub, Nat.zero_add, eqz_int, pow1010, pow1018, pow1019, Int.reduceMul, Int.reduceAdd, ix40, ix41, ix42, ix43, at40, at41, at42, at43, and_true, true_and, and_self, ne_eq, not_false_eq_true, decide_true, decide_false, decide_eq_true_eq, Bool.and_true, Bool.true_and, mFor, iSeq, srcOf, vals, forGo_n, forGo_c, gSet, mRaise1, mSetF, setF, lim_le, Nat.reduceLeDiff, Bool.not_false, Bool.not_true, Nat.lt_irrefl, List.length_append, List.append_assoc, h5]
  exact gcX_self
theorem beat_int {S : Store} {b : Int} {e th : D} (h : ¬ (3 ≤ b ∧ b ≤ 1440)) : mkOf "Net" f_Net___init__ [.int b, e, th] S = .ex "BadBeat" [.int b] S := by
  refine made_ex (by simp [D.cl]) ?_
  have h5 := isint (kn_int (S ++ [Ob.obj "Net" []]) b)
  simp only [isInt] at h5
  unfold f_Net___init__ mDef b_Net___init__
  by_cases h1 : 3 ≤ b
  · have h2 : ¬ b ≤ 1440 := fun z => h ⟨h1, z⟩
    simp only [mSeq, RS.seq, mIfS, mTest, mSet, mRet, mVar, mC, mNil, mCons, Lk.m1, Lk.m2, mB, mAnd, mOr, mNot, mAndT, mOrT, mNotT, mIf, mAsg, mNext, mCall, R.bind, R.bindS, R.nxt, asB, gSub', mTup, mLst, List.getElem?_cons_succ, List.getElem?_cons_zero, List.getElem?_nil, List.set_cons_succ, List.set_cons_zero, List.map_cons, List.map_nil, List.cons_append, List.nil_append, List.length_cons, List.length_nil, List.replicate, Lk.gIx, Lk.gAdd, Lk.gSub, Lk.gMul, Lk.gDiv, Lk.gMod, gInt, gCmp, gNeg, gAbs, gGcd, gLen, List.length_map, Lk.listOf, stIx, if_true, if_false, Bool.false_eq_true, reduceIte, Nat.reduceAdd, Nat.reduceSub, Nat.zero_add, eqz_int, pow1010, pow1018, pow1019, Int.reduceMul, Int.reduceAdd, ix40, ix41, ix42, ix43, at40, at41, at42, at43, and_true, true_and, and_self, ne_eq, not_false_eq_true, decide_true, decide_false, decide_eq_true_eq, Bool.and_true, Bool.true_and, mFor, iSeq, srcOf, vals, forGo_n, forGo_c, gSet, mRaise1, mSetF, setF, lim_le, Nat.reduceLeDiff, Bool.not_false, Bool.not_true, Nat.lt_irrefl, List.length_append, List.append_assoc, h5, mCh2, mLink, mLast, h1, h2]
    exact gcX_self
  · simp only [mSeq, RS.seq, mIfS, mTest, mSet, mRet, mVar, mC, mNil, mCons, Lk.m1, Lk.m2, mB, mAnd, mOr, mNot, mAndT, mOrT, mNotT, mIf, mAsg, mNext, mCall, R.bind, R.bindS, R.nxt, asB, gSub', mTup, mLst, List.getElem?_cons_succ, List.getElem?_cons_zero, List.getElem?_nil, List.set_cons_succ, List.set_cons_zero, List.map_cons, List.map_nil, List.cons_append, List.nil_append, List.length_cons, List.length_nil, List.replicate, Lk.gIx, Lk.gAdd, Lk.gSub, Lk.gMul, Lk.gDiv, Lk.gMod, gInt, gCmp, gNeg, gAbs, gGcd, gLen, List.length_map, Lk.listOf, stIx, if_true, if_false, Bool.false_eq_true, reduceIte, Nat.reduceAdd, Nat.reduceSub, Nat.zero_add, eqz_int, pow1010, pow1018, pow1019, Int.reduceMul, Int.reduceAdd, ix40, ix41, ix42, ix43, at40, at41, at42, at43, and_true, true_and, and_self, ne_eq, not_false_eq_true, decide_true, decide_false, decide_eq_true_eq, Bool.and_true, Bool.true_and, mFor, iSeq, srcOf, vals, forGo_n, forGo_c, gSet, mRaise1, mSetF, setF, lim_le, Nat.reduceLeDiff, Bool.not_false, Bool.not_true, Nat.lt_irrefl, List.length_append, List.append_assoc, h5, mCh2, mLink, mLast, h1]
    exact gcX_self
theorem ev_odd {S : Store} {b : Int} {x th : D} (hb : 3 ≤ b ∧ b ≤ 1440) (h : Odd S x) : mkOf "Net" f_Net___init__ [.int b, x, th] S = .ex "BadEvents" [x] S := by
  refine made_ex h.clo ?_
  have h5 := isint (kn_int (S ++ [Ob.obj "Net" []]) b)
  have h6 := are_ev_odd (h.app (T := [Ob.obj "Net" []]))
  simp only [isInt] at h5
  unfold f_Net___init__ mDef b_Net___init__
  simp only [mSeq, RS.seq, mIfS, mTest, mSet, mRet, mVar, mC, mNil, mCons, Lk.m1, Lk.m2, mB, mAnd, mOr, mNot, mAndT, mOrT, mNotT, mIf, mAsg, mNext, mCall, R.bind, R.bindS, R.nxt, asB, gSub', mTup, mLst, List.getElem?_cons_succ, List.getElem?_cons_zero, List.getElem?_nil, List.set_cons_succ, List.set_cons_zero, List.map_cons, List.map_nil, List.cons_append, List.nil_append, List.length_cons, List.length_nil, List.replicate, Lk.gIx, Lk.gAdd, Lk.gSub, Lk.gMul, Lk.gDiv, Lk.gMod, gInt, gCmp, gNeg, gAbs, gGcd, gLen, List.length_map, Lk.listOf, stIx, if_true, if_false, Bool.false_eq_true, reduceIte, Nat.reduceAdd, Nat.reduceSub, Nat.zero_add, eqz_int, pow1010, pow1018, pow1019, Int.reduceMul, Int.reduceAdd, ix40, ix41, ix42, ix43, at40, at41, at42, at43, and_true, true_and, and_self, ne_eq, not_false_eq_true, decide_true, decide_false, decide_eq_true_eq, Bool.and_true, Bool.true_and, mFor, iSeq, srcOf, vals, forGo_n, forGo_c, gSet, mRaise1, mSetF, setF, lim_le, Nat.reduceLeDiff, Bool.not_false, Bool.not_true, Nat.lt_irrefl, List.length_append, List.append_assoc, h5, h6, mCh2, mLink, mLast, hb.1, hb.2]
  exact gcX_self
theorem ev_int {S : Store} {b e : Int} {th : D} (hb : 3 ≤ b ∧ b ≤ 1440) (h : ¬ (1 ≤ e ∧ e ≤ 24)) : mkOf "Net" f_Net___init__ [.int b, .int e, th] S = .ex "BadEvents" [.int e] S := by
  refine made_ex (by simp [D.cl]) ?_
  have h5 := isint (kn_int (S ++ [Ob.obj "Net" []]) b)
  simp only [isInt] at h5
  unfold f_Net___init__ mDef b_Net___init__
  simp only [mSeq, RS.seq, mIfS, mTest, mSet, mRet, mVar, mC, mNil, mCons, Lk.m1, Lk.m2, mB, mAnd, mOr, mNot, mAndT, mOrT, mNotT, mIf, mAsg, mNext, mCall, R.bind, R.bindS, R.nxt, asB, gSub', mTup, mLst, List.getElem?_cons_succ, List.getElem?_cons_zero, List.getElem?_nil, List.set_cons_succ, List.set_cons_zero, List.map_cons, List.map_nil, List.cons_append, List.nil_append, List.length_cons, List.length_nil, List.replicate, Lk.gIx, Lk.gAdd, Lk.gSub, Lk.gMul, Lk.gDiv, Lk.gMod, gInt, gCmp, gNeg, gAbs, gGcd, gLen, List.length_map, Lk.listOf, stIx, if_true, if_false, Bool.false_eq_true, reduceIte, Nat.reduceAdd, Nat.reduceSub, Nat.zero_add, eqz_int, pow1010, pow1018, pow1019, Int.reduceMul, Int.reduceAdd, ix40, ix41, ix42, ix43, at40, at41, at42, at43, and_true, true_and, and_self, ne_eq, not_false_eq_true, decide_true, decide_false, decide_eq_true_eq, Bool.and_true, Bool.true_and, mFor, iSeq, srcOf, vals, forGo_n, forGo_c, gSet, mRaise1, mSetF, setF, lim_le, Nat.reduceLeDiff, Bool.not_false, Bool.not_true, Nat.lt_irrefl, List.length_append, List.append_assoc, h5, are_ev_no h, mCh2, mLink, mLast, hb.1, hb.2]
  exact gcX_self
def tTFF (d : D) : D := .tup [.tup [.bl true, .bl false, .bl false], d]
def tFTF (d : D) : D := .tup [.tup [.bl false, .bl true, .bl false], d]
theorem due_beat_odd {S : Store} {x e th : D} (h : Odd S x) : f__law_due [x, e, th] S = .ok (tTFF x) S := by
  have h5 := isint h.kn
  rw [h.notInt, ← lint] at h5
  unfold f__law_due mDef b__law_due
  simp only [mSeq, RS.seq, mIfS, mTest, mSet, mRet, mVar, mC, mNil, mCons, Lk.m1, Lk.m2, mB, mAnd, mOr, mNot, mAndT, mOrT, mNotT, mIf, mAsg, mNext, mCall, R.bind, R.bindS, R.nxt, asB, gSub', mTup, mLst, List.getElem?_cons_succ, List.getElem?_cons_zero, List.getElem?_nil, List.set_cons_succ, List.set_cons_zero, List.map_cons, List.map_nil, List.cons_append, List.nil_append, List.length_cons, List.length_nil, List.replicate, Lk.gIx, Lk.gAdd, Lk.gSub, Lk.gMul, Lk.gDiv, Lk.gMod, gInt, gCmp, gNeg, gAbs, gGcd, gLen, List.length_map, Lk.listOf, stIx, if_true, if_false, Bool.false_eq_true, reduceIte, Nat.reduceAdd, Nat.reduceSub, Nat.zero_add, eqz_int, pow1010, pow1018, pow1019, Int.reduceMul, Int.reduceAdd, ix40, ix41, ix42, ix43, at40, at41, at42, at43, and_true, true_and, and_self, ne_eq, not_false_eq_true, decide_true, decide_false, decide_eq_true_eq, Bool.and_true, Bool.true_and, mFor, iSeq, srcOf, vals, forGo_n, forGo_c, gSet, mRaise1, mSetF, setF, lim_le, Nat.reduceLeDiff, Bool.not_false, Bool.not_true, Nat.lt_irrefl, List.length_append, List.append_assoc, h5, tTFF]
  exact gc_self
theorem due_beat_int {S : Store} {b : Int} {e th : D} (h : ¬ (3 ≤ b ∧ b ≤ 1440)) : f__law_due [.int b, e, th] S = .ok (tTFF (.int b)) S := by
  have h5 := isint (kn_int S b)
  rw [← lint] at h5
  simp only [isInt] at h5
  unfold f__law_due mDef b__law_due
  by_cases h1 : b < 3
  · simp only [mSeq, RS.seq, mIfS, mTest, mSet, mRet, mVar, mC, mNil, mCons, Lk.m1, Lk.m2, mB, mAnd, mOr, mNot, mAndT, mOrT, mNotT, mIf, mAsg, mNext, mCall, R.bind, R.bindS, R.nxt, asB, gSub', mTup, mLst, List.getElem?_cons_succ, List.getElem?_cons_zero, List.getElem?_nil, List.set_cons_succ, List.set_cons_zero, List.map_cons, List.map_nil, List.cons_append, List.nil_append, List.length_cons, List.length_nil, List.replicate, Lk.gIx, Lk.gAdd, Lk.gSub, Lk.gMul, Lk.gDiv, Lk.gMod, gInt, gCmp, gNeg, gAbs, gGcd, gLen, List.length_map, Lk.listOf, stIx, if_true, if_false, Bool.false_eq_true, reduceIte, Nat.reduceAdd, Nat.reduceSub, Nat.zero_add, eqz_int, pow1010, pow1018, pow1019, Int.reduceMul, Int.reduceAdd, ix40, ix41, ix42, ix43, at40, at41, at42, at43, and_true, true_and, and_self, ne_eq, not_false_eq_true, decide_true, decide_false, decide_eq_true_eq, Bool.and_true, Bool.true_and, mFor, iSeq, srcOf, vals, forGo_n, forGo_c, gSet, mRaise1, mSetF, setF, lim_le, Nat.reduceLeDiff, Bool.not_false, Bool.not_true, Nat.lt_irrefl, List.length_append, List.append_assoc, h5, tTFF, h1]
    exact gc_self
  · have h2 : 1440 < b := by omega
    simp only [mSeq, RS.seq, mIfS, mTest, mSet, mRet, mVar, mC, mNil, mCons, Lk.m1, Lk.m2, mB, mAnd, mOr, mNot, mAndT, mOrT, mNotT, mIf, mAsg, mNext, mCall, R.bind, R.bindS, R.nxt, asB, gSub', mTup, mLst, List.getElem?_cons_succ, List.getElem?_cons_zero, List.getElem?_nil, List.set_cons_succ, List.set_cons_zero, List.map_cons, List.map_nil, List.cons_append, List.nil_append, List.length_cons, List.length_nil, List.replicate, Lk.gIx, Lk.gAdd, Lk.gSub, Lk.gMul, Lk.gDiv, Lk.gMod, gInt, gCmp, gNeg, gAbs, gGcd, gLen, List.length_map, Lk.listOf, stIx, if_true, if_false, Bool.false_eq_true, reduceIte, Nat.reduceAdd, Nat.reduceSub, Nat.zero_add, eqz_int, pow1010, pow1018, pow1019, Int.reduceMul, Int.reduceAdd, ix40, ix41, ix42, ix43, at40, at41, at42, at43, and_true, true_and, and_self, ne_eq, not_false_eq_true, decide_true, decide_false, decide_eq_true_eq, Bool.and_true, Bool.true_and, mFor, iSeq, srcOf, vals, forGo_n, forGo_c, gSet, mRaise1, mSetF, setF, lim_le, Nat.reduceLeDiff, Bool.not_false, Bool.not_true, Nat.lt_irrefl, List.length_append, List.append_assoc, h5, tTFF, h1, h2]
    exact gc_self
theorem due_ev_odd {S : Store} {b : Int} {x th : D} (hb : 3 ≤ b ∧ b ≤ 1440) (h : Odd S x) : f__law_due [.int b, x, th] S = .ok (tFTF x) S := by
  have h5 := isint (kn_int S b)
  have h6 := isint h.kn
  rw [← lint] at h5
  rw [h.notInt, ← lint] at h6
  simp only [isInt] at h5
  have b1 : ¬ b < 3 := by omega
  have b2 : ¬ 1440 < b := by omega
  unfold f__law_due mDef b__law_due
  simp only [mSeq, RS.seq, mIfS, mTest, mSet, mRet, mVar, mC, mNil, mCons, Lk.m1, Lk.m2, mB, mAnd, mOr, mNot, mAndT, mOrT, mNotT, mIf, mAsg, mNext, mCall, R.bind, R.bindS, R.nxt, asB, gSub', mTup, mLst, List.getElem?_cons_succ, List.getElem?_cons_zero, List.getElem?_nil, List.set_cons_succ, List.set_cons_zero, List.map_cons, List.map_nil, List.cons_append, List.nil_append, List.length_cons, List.length_nil, List.replicate, Lk.gIx, Lk.gAdd, Lk.gSub, Lk.gMul, Lk.gDiv, Lk.gMod, gInt, gCmp, gNeg, gAbs, gGcd, gLen, List.length_map, Lk.listOf, stIx, if_true, if_false, Bool.false_eq_true, reduceIte, Nat.reduceAdd, Nat.reduceSub, Nat.zero_add, eqz_int, pow1010, pow1018, pow1019, Int.reduceMul, Int.reduceAdd, ix40, ix41, ix42, ix43, at40, at41, at42, at43, and_true, true_and, and_self, ne_eq, not_false_eq_true, decide_true, decide_false, decide_eq_true_eq, Bool.and_true, Bool.true_and, mFor, iSeq, srcOf, vals, forGo_n, forGo_c, gSet, mRaise1, mSetF, setF, lim_le, Nat.reduceLeDiff, Bool.not_false, Bool.not_true, Nat.lt_irrefl, List.length_append, List.append_assoc, h5, h6, tFTF, b1, b2]
  exact gc_self
theorem due_ev_int {S : Store} {b e : Int} {th : D} (hb : 3 ≤ b ∧ b ≤ 1440) (h : ¬ (1 ≤ e ∧ e ≤ 24)) : f__law_due [.int b, .int e, th] S = .ok (tFTF (.int e)) S := by
  have h5 := isint (kn_int S b)
  have h6 := isint (kn_int S e)
  rw [← lint] at h5 h6
  simp only [isInt] at h5 h6
  have b1 : ¬ b < 3 := by omega
  have b2 : ¬ 1440 < b := by omega
  unfold f__law_due mDef b__law_due
  by_cases h1 : e < 1
  · simp only [mSeq, RS.seq, mIfS, mTest, mSet, mRet, mVar, mC, mNil, mCons, Lk.m1, Lk.m2, mB, mAnd, mOr, mNot, mAndT, mOrT, mNotT, mIf, mAsg, mNext, mCall, R.bind, R.bindS, R.nxt, asB, gSub', mTup, mLst, List.getElem?_cons_succ, List.getElem?_cons_zero, List.getElem?_nil, List.set_cons_succ, List.set_cons_zero, List.map_cons, List.map_nil, List.cons_append, List.nil_append, List.length_cons, List.length_nil, List.replicate, Lk.gIx, Lk.gAdd, Lk.gSub, Lk.gMul, Lk.gDiv, Lk.gMod, gInt, gCmp, gNeg, gAbs, gGcd, gLen, List.length_map, Lk.listOf, stIx, if_true, if_false, Bool.false_eq_true, reduceIte, Nat.reduceAdd, Nat.reduceSub, Nat.zero_add, eqz_int, pow1010, pow1018, pow1019, Int.reduceMul, Int.reduceAdd, ix40, ix41, ix42, ix43, at40, at41, at42, at43, and_true, true_and, and_self, ne_eq, not_false_eq_true, decide_true, decide_false, decide_eq_true_eq, Bool.and_true, Bool.true_and, mFor, iSeq, srcOf, vals, forGo_n, forGo_c, gSet, mRaise1, mSetF, setF, lim_le, Nat.reduceLeDiff, Bool.not_false, Bool.not_true, Nat.lt_irrefl, List.length_append, List.append_assoc, h5, h6, tFTF, b1, b2, h1]
    exact gc_self
  · have h2 : 24 < e := by omega
    simp only [mSeq, RS.seq, mIfS, mTest, mSet, mRet, mVar, mC, mNil, mCons, Lk.m1, Lk.m2, mB, mAnd, mOr, mNot, mAndT, mOrT, mNotT, mIf, mAsg, mNext, mCall, R.bind, R.bindS, R.nxt, asB, gSub', mTup, mLst, List.getElem?_cons_succ, List.getElem?_cons_zero, List.getElem?_nil, List.set_cons_succ, List.set_cons_zero, List.map_cons, List.map_nil, List.cons_append, List.nil_append, List.length_cons, List.length_nil, List.replicate, Lk.gIx, Lk.gAdd, Lk.gSub, Lk.gMul, Lk.gDiv, Lk.gMod, gInt, gCmp, gNeg, gAbs, gGcd, gLen, List.length_map, Lk.listOf, stIx, if_true, if_false, Bool.false_eq_true, reduceIte, Nat.reduceAdd, Nat.reduceSub, Nat.zero_add, eqz_int, pow1010, pow1018, pow1019, Int.reduceMul, Int.reduceAdd, ix40, ix41, ix42, ix43, at40, at41, at42, at43, and_true, true_and, and_self, ne_eq, not_false_eq_true, decide_true, decide_false, decide_eq_true_eq, Bool.and_true, Bool.true_and, mFor, iSeq, srcOf, vals, forGo_n, forGo_c, gSet, mRaise1, mSetF, setF, lim_le, Nat.reduceLeDiff, Bool.not_false, Bool.not_true, Nat.lt_irrefl, List.length_append, List.append_assoc, h5, h6, tFTF, b1, b2, h1, h2]
    exact gc_self
end Mi_k02

set_option linter.all false
set_option autoImplicit false
set_option maxRecDepth 100000
set_option maxHeartbeats 4000000
namespace Mi_k02
open PySem Lk L2
theorem init_small {S : Store} {i : Int} (hi : i = 1 ∨ i = 5) : mkOf "Ratio" f_Ratio___init__ [.int i, .int 1] S = .ok (.ins "Ratio" [.int i, .int 1]) S := by
  have h1 := isint (kn_int (S ++ [Ob.obj "Ratio" []]) 1)
  have h2 := isint (kn_int (S ++ [Ob.obj "Ratio" []]) i)
  simp only [isInt] at h2 h1
  have hg : ∀ x, (S ++ [x])[S.length]? = some x := fun x => by simp
  have hs : ∀ x y : Ob, (S ++ [x]).set S.length y = S ++ [y] := fun x y => by simp
  have f0 : (flds "Ratio")[0]? = some (Str.ofString "top") := by decide
  have f1 : (flds "Ratio")[1]? = some (Str.ofString "bottom") := by decide
  have f2 : (flds "Ratio").take 0 = [] := rfl
  have f3 : (flds "Ratio").take 1 = [Str.ofString "top"] := by decide
  have q0 : (0 : Nat) < 900 := by decide
  have q1 : (1 : Nat) < 900 := by decide
  have n1 : ("bottom" : Str) ∉ (["top"] : List Str) := by decide
  have n2 : ("top" : Str) ∉ ([] : List Str) := by decide
  have j0 : ¬ (1 : Int) = 0 := by decide
  have jp : (0 : Int) < 1 := by decide
  have gg : ((Nat.gcd i.natAbs (1 : Int).natAbs : Nat) : Int) = 1 := by
    rw [show (1 : Int).natAbs = 1 from rfl, Nat.gcd_one_right]
    rfl
  have d1 : fdv i 1 = i := by rw [fdv_pos (by decide), Int.ediv_one]
  have d2 : fdv 1 1 = 1 := by rw [fdv_pos (by decide), Int.ediv_one]
  have bb : bits 1 < 9000 := by decide +kernel
  have ei : f_Ratio___init__ [.ref S.length, .int i, .int 1] (S ++ [Ob.obj "Ratio" []]) = .ok .non (S ++ [Ob.obj "Ratio" [.int i, .int 1]]) := by
    unfold f_Ratio___init__ mDef b_Ratio___init__
    simp only [mSeq, RS.seq, mIfS, mTest, mSet, mRet, mVar, mC, mNil, mCons, Lk.m1, Lk.m2, mB, mAnd, mOr, mNot, mAndT, mOrT, mNotT, mIf, mAsg, mNext, mCall, R.bind, R.bindS, R.nxt, asB, gSub', mTup, mLst, List.getElem?_cons_succ, List.getElem?_cons_zero, List.getElem?_nil, List.set_cons_succ, List.set_cons_zero, List.map_cons, List.map_nil, List.cons_append, List.nil_append, List.length_cons, List.length_nil, List.replicate, Lk.gIx, Lk.gAdd, Lk.gSub, Lk.gMul, Lk.gDiv, Lk.gMod, gInt, gCmp, gNeg, gAbs, gGcd, gLen, List.length_map, Lk.listOf, stIx, if_true, if_false, Bool.false_eq_true, reduceIte, Nat.reduceAdd, Nat.reduceSub, Nat.zero_add, eqz_int, pow1010, pow1018, pow1019, Int.reduceMul, Int.reduceAdd, ix40, ix41, ix42, ix43, at40, at41, at42, at43, and_true, true_and, and_self, ne_eq, not_false_eq_true, decide_true, decide_false, decide_eq_true_eq, Bool.and_true, Bool.true_and, mFor, iSeq, srcOf, vals, forGo_n, forGo_c, gSet, mRaise1, mSetF, setF, lim_le, Nat.reduceLeDiff, Bool.not_false, Bool.not_true, Nat.lt_irrefl, List.length_append, List.append_assoc, h1, h2, j0, jp, gg, bb, d1, d2, hg, hs, f0, f1, f2, f3, n1, n2, q0, q1]
    refine gc_len ?_
    simp
  unfold mkOf
  rw [ei]
  simp only [hg, if_true]
  unfold mkEnd
  rw [if_pos ⟨by simp [clL, D.cl], by simp⟩]
end Mi_k02

set_option linter.all false
set_option autoImplicit false
set_option maxRecDepth 100000
set_option maxHeartbeats 4000000
namespace Mi_k02
open PySem Lk L2
/-- what is kept but for the source n -/
def Ag (S : Store) (n : Nat) (S' : Store) : Prop := S.length ≤ S'.length ∧ ∀ m, m < S.length → m ≠ n → S'[m]? = S[m]?
theorem Ch.ag {S S' : Store} {n : Nat} (h : Ch S n S') : Ag S n S' := by
  obtain ⟨o, rfl⟩ := h
  exact ⟨by simp, fun m _ hm => by simp [List.getElem?_set, Ne.symm hm]⟩
theorem Ag.trans {S S' S'' : Store} {n : Nat} (h : Ag S n S') (h' : Ag S' n S'') : Ag S n S'' := ⟨Nat.le_trans h.1 h'.1, fun m hm hn => by rw [h'.2 m (Nat.lt_of_lt_of_le hm h.1) hn, h.2 m hm hn]⟩
theorem Ag.app (S : Store) (n : Nat) (T : Store) : Ag S n (S ++ T) := ⟨by simp, fun m hm _ => by rw [List.getElem?_append_left hm]⟩
theorem Ag.refl (S : Store) (n : Nat) : Ag S n S := ⟨Nat.le_refl _, fun _ _ _ => rfl⟩
theorem gc_either {S S' : Store} {d : D} : (gc S d S' = .ok d S ∧ d.cl S.length = true ∧ S'.take S.length = S) ∨ gc S d S' = .ok d S' := by
  unfold Lk.gc
  split
  · rename_i c; exact .inl ⟨rfl, c⟩
  · exact .inr rfl
theorem Odd.imp {S S' : Store} {d : D} (h : Odd S d) (k : ∀ m o, S[m]? = some o → d = .ref m → S'[m]? = some o) : Odd S' d := by
  cases h with
  | l0 h => exact .l0 (k _ _ h rfl)
  | l1 h => exact .l1 (k _ _ h rfl)
  | d0 h => exact .d0 (k _ _ h rfl)
  | d1 h => exact .d1 (k _ _ h rfl)
  | non => exact .non
  | bl b => exact .bl b
  | str x hx => exact .str x hx
  | rt p q => exact .rt p q
  | t0 => exact .t0
  | t1 => exact .t1
theorem odd_ok {S : Store} {n : Nat} {k : Int} (h : Src S n k) (hk : k < 2 ^ 40) : ∃ d S', f__law_odd [.ref n] S = .ok d S' ∧ Odd S' d ∧ Ag S n S' ∧ (∀ m, d = .ref m → S.length ≤ m) ∧ Src S' n (k + 1) := by
  have h0 := h
  have hn : n < S.length := by
    obtain ⟨a, b, c, d, h, _⟩ := h
    exact getlt h
  obtain ⟨W, hW⟩ : ∃ W : List D, W = [.non, .bl true, .bl false, .str (Str.ofString "7"), .str (Str.ofString ""), .tup [], .tup [.int 3], .ref S.length, .ref (S.length + 1), .ref (S.length + 2), .ref (S.length + 3), .str (Str.ofString "ab"), .ins "Ratio" [.int 1, .int 1], .ins "Ratio" [.int 5, .int 1]] := ⟨_, rfl⟩
  obtain ⟨T, hT⟩ : ∃ T : Store, T = [Ob.lst [], .lst [.int 5], .dk [], .dk [(.inl 1, .int 2)], .lst W] := ⟨_, rfl⟩
  have hs : Src (S ++ T) n k := by
    obtain ⟨a, b, c, d, h, r⟩ := h
    refine ⟨a, b, c, d, ?_, r⟩
    unfold Src4 at h ⊢
    rw [List.getElem?_append_left hn]
    exact h
  obtain ⟨r, S2, r1, r2, e2, s2, u2⟩ := draw hs (m := 14) (by omega) (by decide) (by decide +kernel)
  have ag2 := u2.ag
  obtain ⟨o, ho⟩ := u2
  have at_ : ∀ i : Nat, S2[S.length + i]? = T[i]? := fun i => by
    rw [ho, List.getElem?_set_ne (by omega), List.getElem?_append_right (by omega)]
    congr 1
    omega
  have g3 : (S ++ [Ob.lst [], Ob.lst [D.int 5], Ob.dk [], Ob.dk []])[S.length + 3]? = some (.dk []) := by
    rw [List.getElem?_append_right (by omega), show S.length + 3 - S.length = 3 by omega]
    rfl
  have g4 : (S ++ [Ob.lst [], Ob.lst [D.int 5], Ob.dk [], Ob.dk []]).set (S.length + 3) (Ob.dk [(.inl 1, .int 2)]) = S ++ [Ob.lst [], .lst [.int 5], .dk [], .dk [(.inl 1, .int 2)]] := by
    rw [List.set_append_right _ _ (by omega), show S.length + 3 - S.length = 3 by omega]
    rfl
  have i4 : S2[S.length + 4]? = some (.lst W) := by rw [at_ 4, hT]; rfl
  have pick : ∃ d, atI W r = some d ∧ Odd S2 d ∧ ∀ m, d = .ref m → S.length ≤ m := by
    have z : r = 0 ∨ r = 1 ∨ r = 2 ∨ r = 3 ∨ r = 4 ∨ r = 5 ∨ r = 6 ∨ r = 7 ∨ r = 8 ∨ r = 9 ∨ r = 10 ∨ r = 11 ∨ r = 12 ∨ r = 13 := by omega
    rw [hW]
    rcases z with rfl | rfl | rfl | rfl | rfl | rfl | rfl | rfl | rfl | rfl | rfl | rfl | rfl | rfl
    · exact ⟨_, rfl, .non, fun m h => by cases h⟩
    · exact ⟨_, rfl, .bl _, fun m h => by cases h⟩
    · exact ⟨_, rfl, .bl _, fun m h => by cases h⟩
    · exact ⟨_, rfl, .str _ (by decide +kernel), fun m h => by cases h⟩
    · exact ⟨_, rfl, .str _ (by decide +kernel), fun m h => by cases h⟩
    · exact ⟨_, rfl, .t0, fun m h => by cases h⟩
    · exact ⟨_, rfl, .t1, fun m h => by cases h⟩
    · exact ⟨_, rfl, .l0 ((at_ 0).trans (by rw [hT]; rfl)), fun m h => by cases h; omega⟩
    · exact ⟨_, rfl, .l1 ((at_ 1).trans (by rw [hT]; rfl)), fun m h => by cases h; omega⟩
    · exact ⟨_, rfl, .d0 ((at_ 2).trans (by rw [hT]; rfl)), fun m h => by cases h; omega⟩
    · exact ⟨_, rfl, .d1 ((at_ 3).trans (by rw [hT]; rfl)), fun m h => by cases h; omega⟩
    · exact ⟨_, rfl, .str _ (by decide +kernel), fun m h => by cases h⟩
    · exact ⟨_, rfl, .rt _ _, fun m h => by cases h⟩
    · exact ⟨_, rfl, .rt _ _, fun m h => by cases h⟩
  have w1 : ∀ S : Store, mkOf "Ratio" f_Ratio___init__ [.int 1, .int 1] S = .ok (.ins "Ratio" [.int 1, .int 1]) S := fun S => init_small (.inl rfl)
  have w5 : ∀ S : Store, mkOf "Ratio" f_Ratio___init__ [.int 5, .int 1] S = .ok (.ins "Ratio" [.int 5, .int 1]) S := fun S => init_small (.inr rfl)
  obtain ⟨d, ed, od, fr⟩ := pick
  have ev : (b__law_odd ([D.ref n].map some ++ List.replicate 1 none) S) = .rt d S2 := by
    rw [hT, hW] at e2
    rw [hW] at i4 ed
    unfold b__law_odd
    simp only [mSeq, RS.seq, mIfS, mTest, mSet, mRet, mVar, mC, mNil, mCons, Lk.m1, Lk.m2, mB, mAnd, mOr, mNot, mAndT, mOrT, mNotT, mIf, mAsg, mNext, mCall, R.bind, R.bindS, R.nxt, asB, gSub', mTup, mLst, List.getElem?_cons_succ, List.getElem?_cons_zero, List.getElem?_nil, List.set_cons_succ, List.set_cons_zero, List.map_cons, List.map_nil, List.cons_append, List.nil_append, List.length_cons, List.length_nil, List.replicate, Lk.gIx, Lk.gAdd, Lk.gSub, Lk.gMul, Lk.gDiv, Lk.gMod, gInt, gCmp, gNeg, gAbs, gGcd, gLen, List.length_map, Lk.listOf, stIx, if_true, if_false, Bool.false_eq_true, reduceIte, Nat.reduceAdd, Nat.reduceSub, Nat.zero_add, eqz_int, pow1010, pow1018, pow1019, Int.reduceMul, Int.reduceAdd, ix40, ix41, ix42, ix43, at40, at41, at42, at43, and_true, true_and, and_self, ne_eq, not_false_eq_true, decide_true, decide_false, decide_eq_true_eq, Bool.and_true, Bool.true_and, mFor, iSeq, srcOf, vals, forGo_n, forGo_c, gSet, mRaise1, mSetF, setF, lim_le, Nat.reduceLeDiff, Bool.not_false, Bool.not_true, Nat.lt_irrefl, List.length_append, List.append_assoc, mDict0, mDict1, Lk.keyOf, e2, g3, g4, i4, ed, mMake, w1, w5]
  have ed2 : f__law_odd [.ref n] S = gc S d S2 := by
    show mDef 2 b__law_odd [.ref n] S = _
    unfold mDef
    show (match b__law_odd ([D.ref n].map some ++ List.replicate 1 none) S with
      | .nx _ S' => gc S .non S'
      | .rt d S' => gc S d S'
      | .ex C xs _ S' => gcX S C xs S'
      | _ => .bad) = _
    rw [ev]
  rw [ed2]
  rcases gc_either (S := S) (S' := S2) (d := d) with ⟨g, c1, c2⟩ | g
  · rw [g]
    refine ⟨d, S, rfl, od.imp fun m o h e => ?_, .refl _ _, fr, h0.mono (by omega)⟩
    subst e
    have hm : m < S.length := by simpa [D.cl] using c1
    rw [← c2, List.getElem?_take_of_lt hm]
    exact h
  · rw [g]
    exact ⟨d, S2, rfl, od, (Ag.app S n T).trans ag2, fr, s2⟩
end Mi_k02

set_option linter.all false
set_option autoImplicit false
set_option maxRecDepth 100000
set_option maxHeartbeats 4000000
namespace Mi_k02
open PySem Lk L2
theorem eqd0_int (S : Store) (i j : Int) : gEqX cs oe0 (.int i) (.int j) S = .ok (.bl (decide (i = j))) S := by
  unfold gEqX eqData
  simp only [pyD]
  have sh : ∀ k : Int, SeqAt.shaped (.int k) = true := fun k => by
    simp [SeqAt.shaped, PyData.canLay0, PyData.depth]
  simp only [sh, and_self, if_true, PyData.eqv]
  rfl
def ra (p q : Int) : D := .ins "Ratio" [.int p, .int q]
def eqV (p q : Int) : D → Bool
  | .ins _ [.int p', .int q'] => decide (p = p') && decide (q = q')
  | .int v => decide (p = v) && decide (q = 1)
  | _ => false
theorem fl_top {S : Store} {p q : Int} : fieldOf flds S "top" (ra p q) = some (.int p) := by
  have e : flds "Ratio" = ([Str.ofString "top", Str.ofString "bottom"] : List Str) := by decide
  show ((flds "Ratio").zip [D.int p, .int q]).lookup (Str.ofString "top") = _
  rw [e]
  simp [List.lookup]
theorem fl_bot {S : Store} {p q : Int} : fieldOf flds S "bottom" (ra p q) = some (.int q) := by
  have e : flds "Ratio" = ([Str.ofString "top", Str.ofString "bottom"] : List Str) := by decide
  have n : ((Str.ofString "bottom") == (Str.ofString "top")) = false := by decide
  show ((flds "Ratio").zip [D.int p, .int q]).lookup (Str.ofString "bottom") = _
  rw [e]
  simp [List.lookup, n]
theorem num_int {S : Store} {v : Int} : f_is_number [.int v] S = .ok (.bl true) S := by
  have h1 := isint (kn_int S v)
  simp only [isInt] at h1
  unfold f_is_number mDef b_is_number
  simp only [mSeq, RS.seq, mIfS, mTest, mSet, mRet, mVar, mC, mNil, mCons, Lk.m1, Lk.m2, mB, mAnd, mOr, mNot, mAndT, mOrT, mNotT, mIf, mAsg, mNext, mCall, R.bind, R.bindS, R.nxt, asB, gSub', mTup, mLst, List.getElem?_cons_succ, List.getElem?_cons_zero, List.getElem?_nil, List.set_cons_succ, List.set_cons_zero, List.map_cons, List.map_nil, List.cons_append, List.nil_append, List.length_cons, List.length_nil, List.replicate, Lk.gIx, Lk.gAdd, Lk.gSub, Lk.gMul, Lk.gDiv, Lk.gMod, gInt, gCmp, gNeg, gAbs, gGcd, gLen, List.length_map, Lk.listOf, stIx, if_true, if_false, Bool.false_eq_true, reduceIte, Nat.reduceAdd, Nat.reduceSub, Nat.zero_add, eqz_int, pow1010, pow1018, pow1019, Int.reduceMul, Int.reduceAdd, ix40, ix41, ix42, ix43, at40, at41, at42, at43, and_true, true_and, and_self, ne_eq, not_false_eq_true, decide_true, decide_false, decide_eq_true_eq, Bool.and_true, Bool.true_and, mFor, iSeq, srcOf, vals, forGo_n, forGo_c, gSet, mRaise1, mSetF, setF, lim_le, Nat.reduceLeDiff, Bool.not_false, Bool.not_true, Nat.lt_irrefl, List.length_append, List.append_assoc, h1]
  exact gc_self
theorem num_ra {S : Store} {p q : Int} : f_is_number [ra p q] S = .ok (.bl true) S := by
  have h1 := isint (kn_rat S [.int p, .int q])
  have h2 := (gI_any (kn_rat S [.int p, .int q])).2.2
  simp only [isInt] at h1
  have e : isR (.ins "Ratio" [.int p, .int q]) = true := by simp [isR]
  rw [e] at h2
  unfold f_is_number mDef b_is_number ra
  simp only [mSeq, RS.seq, mIfS, mTest, mSet, mRet, mVar, mC, mNil, mCons, Lk.m1, Lk.m2, mB, mAnd, mOr, mNot, mAndT, mOrT, mNotT, mIf, mAsg, mNext, mCall, R.bind, R.bindS, R.nxt, asB, gSub', mTup, mLst, List.getElem?_cons_succ, List.getElem?_cons_zero, List.getElem?_nil, List.set_cons_succ, List.set_cons_zero, List.map_cons, List.map_nil, List.cons_append, List.nil_append, List.length_cons, List.length_nil, List.replicate, Lk.gIx, Lk.gAdd, Lk.gSub, Lk.gMul, Lk.gDiv, Lk.gMod, gInt, gCmp, gNeg, gAbs, gGcd, gLen, List.length_map, Lk.listOf, stIx, if_true, if_false, Bool.false_eq_true, reduceIte, Nat.reduceAdd, Nat.reduceSub, Nat.zero_add, eqz_int, pow1010, pow1018, pow1019, Int.reduceMul, Int.reduceAdd, ix40, ix41, ix42, ix43, at40, at41, at42, at43, and_true, true_and, and_self, ne_eq, not_false_eq_true, decide_true, decide_false, decide_eq_true_eq, Bool.and_true, Bool.true_and, mFor, iSeq, srcOf, vals, forGo_n, forGo_c, gSet, mRaise1, mSetF, setF, lim_le, Nat.reduceLeDiff, Bool.not_false, Bool.not_true, Nat.lt_irrefl, List.length_append, List.append_assoc, h1, h2]
  exact gc_self
theorem num_no {S : Store} {d : D} (h : Kn S d) (h1 : isInt d = false) (h2 : isR d = false) : f_is_number [d] S = .ok (.bl false) S := by
  have h3 := isint h
  have h4 := (gI_any h).2.2
  rw [h1] at h3
  rw [h2] at h4
  unfold f_is_number mDef b_is_number
  simp only [mSeq, RS.seq, mIfS, mTest, mSet, mRet, mVar, mC, mNil, mCons, Lk.m1, Lk.m2, mB, mAnd, mOr, mNot, mAndT, mOrT, mNotT, mIf, mAsg, mNext, mCall, R.bind, R.bindS, R.nxt, asB, gSub', mTup, mLst, List.getElem?_cons_succ, List.getElem?_cons_zero, List.getElem?_nil, List.set_cons_succ, List.set_cons_zero, List.map_cons, List.map_nil, List.cons_append, List.nil_append, List.length_cons, List.length_nil, List.replicate, Lk.gIx, Lk.gAdd, Lk.gSub, Lk.gMul, Lk.gDiv, Lk.gMod, gInt, gCmp, gNeg, gAbs, gGcd, gLen, List.length_map, Lk.listOf, stIx, if_true, if_false, Bool.false_eq_true, reduceIte, Nat.reduceAdd, Nat.reduceSub, Nat.zero_add, eqz_int, pow1010, pow1018, pow1019, Int.reduceMul, Int.reduceAdd, ix40, ix41, ix42, ix43, at40, at41, at42, at43, and_true, true_and, and_self, ne_eq, not_false_eq_true, decide_true, decide_false, decide_eq_true_eq, Bool.and_true, Bool.true_and, mFor, iSeq, srcOf, vals, forGo_n, forGo_c, gSet, mRaise1, mSetF, setF, lim_le, Nat.reduceLeDiff, Bool.not_false, Bool.not_true, Nat.lt_irrefl, List.length_append, List.append_assoc, h3, h4]
  exact gc_self
theorem top_int {S : Store} {v : Int} : f_top_of [.int v] S = .ok (.int v) S := by
  have h2 := (gI_any (kn_int S v)).2.2
  simp only [isR] at h2
  unfold f_top_of mDef b_top_of
  simp only [mSeq, RS.seq, mIfS, mTest, mSet, mRet, mVar, mC, mNil, mCons, Lk.m1, Lk.m2, mB, mAnd, mOr, mNot, mAndT, mOrT, mNotT, mIf, mAsg, mNext, mCall, R.bind, R.bindS, R.nxt, asB, gSub', mTup, mLst, List.getElem?_cons_succ, List.getElem?_cons_zero, List.getElem?_nil, List.set_cons_succ, List.set_cons_zero, List.map_cons, List.map_nil, List.cons_append, List.nil_append, List.length_cons, List.length_nil, List.replicate, Lk.gIx, Lk.gAdd, Lk.gSub, Lk.gMul, Lk.gDiv, Lk.gMod, gInt, gCmp, gNeg, gAbs, gGcd, gLen, List.length_map, Lk.listOf, stIx, if_true, if_false, Bool.false_eq_true, reduceIte, Nat.reduceAdd, Nat.reduceSub, Nat.zero_add, eqz_int, pow1010, pow1018, pow1019, Int.reduceMul, Int.reduceAdd, ix40, ix41, ix42, ix43, at40, at41, at42, at43, and_true, true_and, and_self, ne_eq, not_false_eq_true, decide_true, decide_false, decide_eq_true_eq, Bool.and_true, Bool.true_and, mFor, iSeq, srcOf, vals, forGo_n, forGo_c, gSet, mRaise1, mSetF, setF, lim_le, Nat.reduceLeDiff, Bool.not_false, Bool.not_true, Nat.lt_irrefl, List.length_append, List.append_assoc, h2]
  exact gc_self
theorem bot_int {S : Store} {v : Int} : f_bottom_of [.int v] S = .ok (.int 1) S := by
  have h2 := (gI_any (kn_int S v)).2.2
  simp only [isR] at h2
  unfold f_bottom_of mDef b_bottom_of
  simp only [mSeq, RS.seq, mIfS, mTest, mSet, mRet, mVar, mC, mNil, mCons, Lk.m1, Lk.m2, mB, mAnd, mOr, mNot, mAndT, mOrT, mNotT, mIf, mAsg, mNext, mCall, R.bind, R.bindS, R.nxt, asB, gSub', mTup, mLst, List.getElem?_cons_succ, List.getElem?_cons_zero, List.getElem?_nil, List.set_cons_succ, List.set_cons_zero, List.map_cons, List.map_nil, List.cons_append, List.nil_append, List.length_cons, List.length_nil, List.replicate, Lk.gIx, Lk.gAdd, Lk.gSub, Lk.gMul, Lk.gDiv, Lk.gMod, gInt, gCmp, gNeg, gAbs, gGcd, gLen, List.length_map, Lk.listOf, stIx, if_true, if_false, Bool.false_eq_true, reduceIte, Nat.reduceAdd, Nat.reduceSub, Nat.zero_add, eqz_int, pow1010, pow1018, pow1019, Int.reduceMul, Int.reduceAdd, ix40, ix41, ix42, ix43, at40, at41, at42, at43, and_true, true_and, and_self, ne_eq, not_false_eq_true, decide_true, decide_false, decide_eq_true_eq, Bool.and_true, Bool.true_and, mFor, iSeq, srcOf, vals, forGo_n, forGo_c, gSet, mRaise1, mSetF, setF, lim_le, Nat.reduceLeDiff, Bool.not_false, Bool.not_true, Nat.lt_irrefl, List.length_append, List.append_assoc, h2]
  exact gc_self
theorem top_ra {S : Store} {p q : Int} : f_top_of [ra p q] S = .ok (.int p) S := by
  have h2 : gIsi cs [.own "Ratio"] (ra p q) S = .ok (.bl true) S := by
    have := (gI_any (kn_rat S [.int p, .int q])).2.2
    rwa [show isR (.ins "Ratio" [.int p, .int q]) = true by simp [isR]] at this
  unfold f_top_of mDef b_top_of
  simp only [mSeq, RS.seq, mIfS, mTest, mSet, mRet, mVar, mC, mNil, mCons, Lk.m1, Lk.m2, mB, mAnd, mOr, mNot, mAndT, mOrT, mNotT, mIf, mAsg, mNext, mCall, R.bind, R.bindS, R.nxt, asB, gSub', mTup, mLst, List.getElem?_cons_succ, List.getElem?_cons_zero, List.getElem?_nil, List.set_cons_succ, List.set_cons_zero, List.map_cons, List.map_nil, List.cons_append, List.nil_append, List.length_cons, List.length_nil, List.replicate, Lk.gIx, Lk.gAdd, Lk.gSub, Lk.gMul, Lk.gDiv, Lk.gMod, gInt, gCmp, gNeg, gAbs, gGcd, gLen, List.length_map, Lk.listOf, stIx, if_true, if_false, Bool.false_eq_true, reduceIte, Nat.reduceAdd, Nat.reduceSub, Nat.zero_add, eqz_int, pow1010, pow1018, pow1019, Int.reduceMul, Int.reduceAdd, ix40, ix41, ix42, ix43, at40, at41, at42, at43, and_true, true_and, and_self, ne_eq, not_false_eq_true, decide_true, decide_false, decide_eq_true_eq, Bool.and_true, Bool.true_and, mFor, iSeq, srcOf, vals, forGo_n, forGo_c, gSet, mRaise1, mSetF, setF, lim_le, Nat.reduceLeDiff, Bool.not_false, Bool.not_true, Nat.lt_irrefl, List.length_append, List.append_assoc, h2, mFld, fl_top]
  exact gc_self
theorem bot_ra {S : Store} {p q : Int} : f_bottom_of [ra p q] S = .ok (.int q) S := by
  have h2 : gIsi cs [.own "Ratio"] (ra p q) S = .ok (.bl true) S := by
    have := (gI_any (kn_rat S [.int p, .int q])).2.2
    rwa [show isR (.ins "Ratio" [.int p, .int q]) = true by simp [isR]] at this
  unfold f_bottom_of mDef b_bottom_of
  simp only [mSeq, RS.seq, mIfS, mTest, mSet, mRet, mVar, mC, mNil, mCons, Lk.m1, Lk.m2, mB, mAnd, mOr, mNot, mAndT, mOrT, mNotT, mIf, mAsg, mNext, mCall, R.bind, R.bindS, R.nxt, asB, gSub', mTup, mLst, List.getElem?_cons_succ, List.getElem?_cons_zero, List.getElem?_nil, List.set_cons_succ, List.set_cons_zero, List.map_cons, List.map_nil, List.cons_append, List.nil_append, List.length_cons, List.length_nil, List.replicate, Lk.gIx, Lk.gAdd, Lk.gSub, Lk.gMul, Lk.gDiv, Lk.gMod, gInt, gCmp, gNeg, gAbs, gGcd, gLen, List.length_map, Lk.listOf, stIx, if_true, if_false, Bool.false_eq_true, reduceIte, Nat.reduceAdd, Nat.reduceSub, Nat.zero_add, eqz_int, pow1010, pow1018, pow1019, Int.reduceMul, Int.reduceAdd, ix40, ix41, ix42, ix43, at40, at41, at42, at43, and_true, true_and, and_self, ne_eq, not_false_eq_true, decide_true, decide_false, decide_eq_true_eq, Bool.and_true, Bool.true_and, mFor, iSeq, srcOf, vals, forGo_n, forGo_c, gSet, mRaise1, mSetF, setF, lim_le, Nat.reduceLeDiff, Bool.not_false, Bool.not_true, Nat.lt_irrefl, List.length_append, List.append_assoc, h2, mFld, fl_bot]
  exact gc_self
theorem eq_ra {S : Store} {p q p' q' : Int} : f_Ratio___eq__ [ra p q, ra p' q'] S = .ok (.bl (decide (p = p') && decide (q = q'))) S := by
  unfold f_Ratio___eq__ mDef b_Ratio___eq__
  by_cases h : p = p'
  · simp only [mSeq, RS.seq, mIfS, mTest, mSet, mRet, mVar, mC, mNil, mCons, Lk.m1, Lk.m2, mB, mAnd, mOr, mNot, mAndT, mOrT, mNotT, mIf, mAsg, mNext, mCall, R.bind, R.bindS, R.nxt, asB, gSub', mTup, mLst, List.getElem?_cons_succ, List.getElem?_cons_zero, List.getElem?_nil, List.set_cons_succ, List.set_cons_zero, List.map_cons, List.map_nil, List.cons_append, List.nil_append, List.length_cons, List.length_nil, List.replicate, Lk.gIx, Lk.gAdd, Lk.gSub, Lk.gMul, Lk.gDiv, Lk.gMod, gInt, gCmp, gNeg, gAbs, gGcd, gLen, List.length_map, Lk.listOf, stIx, if_true, if_false, Bool.false_eq_true, reduceIte, Nat.reduceAdd, Nat.reduceSub, Nat.zero_add, eqz_int, pow1010, pow1018, pow1019, Int.reduceMul, Int.reduceAdd, ix40, ix41, ix42, ix43, at40, at41, at42, at43, and_true, true_and, and_self, ne_eq, not_false_eq_true, decide_true, decide_false, decide_eq_true_eq, Bool.and_true, Bool.true_and, mFor, iSeq, srcOf, vals, forGo_n, forGo_c, gSet, mRaise1, mSetF, setF, lim_le, Nat.reduceLeDiff, Bool.not_false, Bool.not_true, Nat.lt_irrefl, List.length_append, List.append_assoc, num_ra, mFld, fl_top, fl_bot, top_ra, bot_ra, eqd0_int, h]
    exact gc_self
  · simp only [mSeq, RS.seq, mIfS, mTest, mSet, mRet, mVar, mC, mNil, mCons, Lk.m1, Lk.m2, mB, mAnd, mOr, mNot, mAndT, mOrT, mNotT, mIf, mAsg, mNext, mCall, R.bind, R.bindS, R.nxt, asB, gSub', mTup, mLst, List.getElem?_cons_succ, List.getElem?_cons_zero, List.getElem?_nil, List.set_cons_succ, List.set_cons_zero, List.map_cons, List.map_nil, List.cons_append, List.nil_append, List.length_cons, List.length_nil, List.replicate, Lk.gIx, Lk.gAdd, Lk.gSub, Lk.gMul, Lk.gDiv, Lk.gMod, gInt, gCmp, gNeg, gAbs, gGcd, gLen, List.length_map, Lk.listOf, stIx, if_true, if_false, Bool.false_eq_true, reduceIte, Nat.reduceAdd, Nat.reduceSub, Nat.zero_add, eqz_int, pow1010, pow1018, pow1019, Int.reduceMul, Int.reduceAdd, ix40, ix41, ix42, ix43, at40, at41, at42, at43, and_true, true_and, and_self, ne_eq, not_false_eq_true, decide_true, decide_false, decide_eq_true_eq, Bool.and_true, Bool.true_and, mFor, iSeq, srcOf, vals, forGo_n, forGo_c, gSet, mRaise1, mSetF, setF, lim_le, Nat.reduceLeDiff, Bool.not_false, Bool.not_true, Nat.lt_irrefl, List.length_append, List.append_assoc, num_ra, mFld, fl_top, fl_bot, top_ra, bot_ra, eqd0_int, h, Bool.false_and]
    exact gc_self
theorem eq_in {S : Store} {p q v : Int} : f_Ratio___eq__ [ra p q, .int v] S = .ok (.bl (decide (p = v) && decide (q = 1))) S := by
  unfold f_Ratio___eq__ mDef b_Ratio___eq__
  by_cases h : p = v
  · simp only [mSeq, RS.seq, mIfS, mTest, mSet, mRet, mVar, mC, mNil, mCons, Lk.m1, Lk.m2, mB, mAnd, mOr, mNot, mAndT, mOrT, mNotT, mIf, mAsg, mNext, mCall, R.bind, R.bindS, R.nxt, asB, gSub', mTup, mLst, List.getElem?_cons_succ, List.getElem?_cons_zero, List.getElem?_nil, List.set_cons_succ, List.set_cons_zero, List.map_cons, List.map_nil, List.cons_append, List.nil_append, List.length_cons, List.length_nil, List.replicate, Lk.gIx, Lk.gAdd, Lk.gSub, Lk.gMul, Lk.gDiv, Lk.gMod, gInt, gCmp, gNeg, gAbs, gGcd, gLen, List.length_map, Lk.listOf, stIx, if_true, if_false, Bool.false_eq_true, reduceIte, Nat.reduceAdd, Nat.reduceSub, Nat.zero_add, eqz_int, pow1010, pow1018, pow1019, Int.reduceMul, Int.reduceAdd, ix40, ix41, ix42, ix43, at40, at41, at42, at43, and_true, true_and, and_self, ne_eq, not_false_eq_true, decide_true, decide_false, decide_eq_true_eq, Bool.and_true, Bool.true_and, mFor, iSeq, srcOf, vals, forGo_n, forGo_c, gSet, mRaise1, mSetF, setF, lim_le, Nat.reduceLeDiff, Bool.not_false, Bool.not_true, Nat.lt_irrefl, List.length_append, List.append_assoc, num_int, mFld, fl_top, fl_bot, top_int, bot_int, eqd0_int, h]
    exact gc_self
  · simp only [mSeq, RS.seq, mIfS, mTest, mSet, mRet, mVar, mC, mNil, mCons, Lk.m1, Lk.m2, mB, mAnd, mOr, mNot, mAndT, mOrT, mNotT, mIf, mAsg, mNext, mCall, R.bind, R.bindS, R.nxt, asB, gSub', mTup, mLst, List.getElem?_cons_succ, List.getElem?_cons_zero, List.getElem?_nil, List.set_cons_succ, List.set_cons_zero, List.map_cons, List.map_nil, List.cons_append, List.nil_append, List.length_cons, List.length_nil, List.replicate, Lk.gIx, Lk.gAdd, Lk.gSub, Lk.gMul, Lk.gDiv, Lk.gMod, gInt, gCmp, gNeg, gAbs, gGcd, gLen, List.length_map, Lk.listOf, stIx, if_true, if_false, Bool.false_eq_true, reduceIte, Nat.reduceAdd, Nat.reduceSub, Nat.zero_add, eqz_int, pow1010, pow1018, pow1019, Int.reduceMul, Int.reduceAdd, ix40, ix41, ix42, ix43, at40, at41, at42, at43, and_true, true_and, and_self, ne_eq, not_false_eq_true, decide_true, decide_false, decide_eq_true_eq, Bool.and_true, Bool.true_and, mFor, iSeq, srcOf, vals, forGo_n, forGo_c, gSet, mRaise1, mSetF, setF, lim_le, Nat.reduceLeDiff, Bool.not_false, Bool.not_true, Nat.lt_irrefl, List.length_append, List.append_assoc, num_int, mFld, fl_top, fl_bot, top_int, bot_int, eqd0_int, h, Bool.false_and]
    exact gc_self
theorem eq_no {S : Store} {p q : Int} {d : D} (h : Kn S d) (h1 : isInt d = false) (h2 : isR d = false) : f_Ratio___eq__ [ra p q, d] S = .ok (.bl false) S := by
  have h3 := num_no h h1 h2
  unfold f_Ratio___eq__ mDef b_Ratio___eq__
  simp only [mSeq, RS.seq, mIfS, mTest, mSet, mRet, mVar, mC, mNil, mCons, Lk.m1, Lk.m2, mB, mAnd, mOr, mNot, mAndT, mOrT, mNotT, mIf, mAsg, mNext, mCall, R.bind, R.bindS, R.nxt, asB, gSub', mTup, mLst, List.getElem?_cons_succ, List.getElem?_cons_zero, List.getElem?_nil, List.set_cons_succ, List.set_cons_zero, List.map_cons, List.map_nil, List.cons_append, List.nil_append, List.length_cons, List.length_nil, List.replicate, Lk.gIx, Lk.gAdd, Lk.gSub, Lk.gMul, Lk.gDiv, Lk.gMod, gInt, gCmp, gNeg, gAbs, gGcd, gLen, List.length_map, Lk.listOf, stIx, if_true, if_false, Bool.false_eq_true, reduceIte, Nat.reduceAdd, Nat.reduceSub, Nat.zero_add, eqz_int, pow1010, pow1018, pow1019, Int.reduceMul, Int.reduceAdd, ix40, ix41, ix42, ix43, at40, at41, at42, at43, and_true, true_and, and_self, ne_eq, not_false_eq_true, decide_true, decide_false, decide_eq_true_eq, Bool.and_true, Bool.true_and, mFor, iSeq, srcOf, vals, forGo_n, forGo_c, gSet, mRaise1, mSetF, setF, lim_le, Nat.reduceLeDiff, Bool.not_false, Bool.not_true, Nat.lt_irrefl, List.length_append, List.append_assoc, h3]
  exact gc_self
theorem oe_r : oe "Ratio" = some f_Ratio___eq__ := if_pos rfl
theorem gz {S : Store} {p q : Int} {y : D} {b : Bool} (h : Kn S y) (e : f_Ratio___eq__ [ra p q, y] S = .ok (.bl b) S) : gEqZ cs oe (ra p q) y S = .ok (.bl b) S := by
  obtain ⟨t, h1, h2⟩ := h
  have e2 : gEqX cs oe (ra p q) y S = .ok (.bl b) S := by
    show (match oe "Ratio", tyK S y with
      | some m, some t => if okK cs t = true then (match m [ra p q, y] S with
        | R.ok (D.bl b) S' => R.ok (D.bl b) S'
        | _ => R.bad) else R.bad
      | _, _ => R.bad) = _
    rw [oe_r, h1]
    dsimp only
    rw [if_pos h2, e]
  exact e2
theorem gz_ra {S : Store} {p q p' q' : Int} : gEqZ cs oe (ra p q) (ra p' q') S = .ok (.bl (decide (p = p') && decide (q = q'))) S := gz (kn_rat S _) eq_ra
theorem gz_in {S : Store} {p q v : Int} : gEqZ cs oe (ra p q) (.int v) S = .ok (.bl (decide (p = v) && decide (q = 1))) S := gz (kn_int S _) eq_in
theorem gz_no {S : Store} {p q : Int} {d : D} (h : Kn S d) (h1 : isInt d = false) (h2 : isR d = false) : gEqZ cs oe (ra p q) d S = .ok (.bl false) S := gz h (eq_no h h1 h2)
theorem gz_self {S : Store} {p q : Int} : gEqZ cs oe (ra p q) (ra p q) S = .ok (.bl true) S := by
  rw [gz_ra]
  simp
theorem eq_data {S : Store} {x y : D} {b : Bool} (hx : ∀ C ds, x ≠ .ins C ds) (h : eqData S x y = some b) (hn : ∀ n kvs, x = .ref n → S[n]? ≠ some (.dk kvs)) : gEqZ cs oe x y S = .ok (.bl b) S := by
  have e : gEqX cs oe x y S = .ok (.bl b) S := by
    unfold gEqX
    split
    · rename_i C xs
      exact absurd rfl (hx C xs)
    · rw [h]
  unfold gEqZ
  split
  · rename_i n m
    split
    · rename_i kvs hk
      exact absurd hk (hn _ _ rfl)
    · exact e
  · exact e
theorem odd_self {S : Store} {d : D} (h : Odd S d) : gEqZ cs oe d d S = .ok (.bl true) S := by
  have sh : ∀ p : PyData, p.canLay0 = true → p.depth ≤ 64 → SeqAt.shaped p = true := fun p h1 h2 => by simp [SeqAt.shaped, h1, h2]
  cases h with
  | d0 h => unfold gEqZ; simp [h]
  | d1 h => unfold gEqZ; simp [h]
  | non => exact eq_data (fun _ _ z => by cases z) (by simp [eqData, pyD, SeqAt.shaped, PyData.canLay0, PyData.depth, PyData.eqv, PyData.canLayAll0, PyData.depthAll, PyData.eqvAll]) (fun _ _ z => by cases z)
  | bl b => exact eq_data (fun _ _ z => by cases z) (by simp [eqData, pyD, SeqAt.shaped, PyData.canLay0, PyData.depth, PyData.eqv, PyData.canLayAll0, PyData.depthAll, PyData.eqvAll]) (fun _ _ z => by cases z)
  | rt p q => exact gz_self
  | str x hx => exact eq_data (fun _ _ z => by cases z) (by simp [eqData, pyD, SeqAt.shaped, PyData.canLay0, PyData.depth, PyData.eqv, PyData.canLayAll0, PyData.depthAll, PyData.eqvAll, hx]) (fun _ _ z => by cases z)
  | t0 => exact eq_data (fun _ _ z => by cases z) (by simp [eqData, pyD, SeqAt.shaped, PyData.canLay0, PyData.depth, PyData.eqv, PyData.canLayAll0, PyData.depthAll, PyData.eqvAll]) (fun _ _ z => by cases z)
  | t1 => exact eq_data (fun _ _ z => by cases z) (by simp [eqData, pyD, SeqAt.shaped, PyData.canLay0, PyData.depth, PyData.eqv, PyData.canLayAll0, PyData.depthAll, PyData.eqvAll]) (fun _ _ z => by cases z)
  | l0 h => exact eq_data (fun _ _ z => by cases z) (by simp [eqData, pyD, h, SeqAt.shaped, PyData.canLay0, PyData.depth, PyData.eqv, PyData.canLayAll0, PyData.depthAll, PyData.eqvAll]) (fun _ _ z => by cases z; rw [h]; simp)
  | l1 h => exact eq_data (fun _ _ z => by cases z) (by simp [eqData, pyD, h, SeqAt.shaped, PyData.canLay0, PyData.depth, PyData.eqv, PyData.canLayAll0, PyData.depthAll, PyData.eqvAll]) (fun _ _ z => by cases z; rw [h]; simp)
theorem alike_odd {S : Store} {d : D} (h : Odd S d) : f__law_alike [d, d] S = .ok (.bl true) S := by
  obtain ⟨h1, h2, h3⟩ := gI_any h.kn
  have e := odd_self h
  unfold f__law_alike mDef b__law_alike
  cases q : isBl d <;> rw [q] at h2 <;> simp only [mSeq, RS.seq, mIfS, mTest, mSet, mRet, mVar, mC, mNil, mCons, Lk.m1, Lk.m2, mB, mAnd, mOr, mNot, mAndT, mOrT, mNotT, mIf, mAsg, mNext, mCall, R.bind, R.bindS, R.nxt, asB, gSub', mTup, mLst, List.getElem?_cons_succ, List.getElem?_cons_zero, List.getElem?_nil, List.set_cons_succ, List.set_cons_zero, List.map_cons, List.map_nil, List.cons_append, List.nil_append, List.length_cons, List.length_nil, List.replicate, Lk.gIx, Lk.gAdd, Lk.gSub, Lk.gMul, Lk.gDiv, Lk.gMod, gInt, gCmp, gNeg, gAbs, gGcd, gLen, List.length_map, Lk.listOf, stIx, if_true, if_false, Bool.false_eq_true, reduceIte, Nat.reduceAdd, Nat.reduceSub, Nat.zero_add, eqz_int, pow1010, pow1018, pow1019, Int.reduceMul, Int.reduceAdd, ix40, ix41, ix42, ix43, at40, at41, at42, at43, and_true, true_and, and_self, ne_eq, not_false_eq_true, decide_true, decide_false, decide_eq_true_eq, Bool.and_true, Bool.true_and, mFor, iSeq, srcOf, vals, forGo_n, forGo_c, gSet, mRaise1, mSetF, setF, lim_le, Nat.reduceLeDiff, Bool.not_false, Bool.not_true, Nat.lt_irrefl, List.length_append, List.append_assoc, h2, e] <;> exact gc_self
theorem alike_int {S : Store} {i : Int} : f__law_alike [.int i, .int i] S = .ok (.bl true) S := by
  obtain ⟨h1, h2, h3⟩ := gI_any (kn_int S i)
  simp only [isBl] at h2
  unfold f__law_alike mDef b__law_alike
  simp only [mSeq, RS.seq, mIfS, mTest, mSet, mRet, mVar, mC, mNil, mCons, Lk.m1, Lk.m2, mB, mAnd, mOr, mNot, mAndT, mOrT, mNotT, mIf, mAsg, mNext, mCall, R.bind, R.bindS, R.nxt, asB, gSub', mTup, mLst, List.getElem?_cons_succ, List.getElem?_cons_zero, List.getElem?_nil, List.set_cons_succ, List.set_cons_zero, List.map_cons, List.map_nil, List.cons_append, List.nil_append, List.length_cons, List.length_nil, List.replicate, Lk.gIx, Lk.gAdd, Lk.gSub, Lk.gMul, Lk.gDiv, Lk.gMod, gInt, gCmp, gNeg, gAbs, gGcd, gLen, List.length_map, Lk.listOf, stIx, if_true, if_false, Bool.false_eq_true, reduceIte, Nat.reduceAdd, Nat.reduceSub, Nat.zero_add, eqz_int, pow1010, pow1018, pow1019, Int.reduceMul, Int.reduceAdd, ix40, ix41, ix42, ix43, at40, at41, at42, at43, and_true, true_and, and_self, ne_eq, not_false_eq_true, decide_true, decide_false, decide_eq_true_eq, Bool.and_true, Bool.true_and, mFor, iSeq, srcOf, vals, forGo_n, forGo_c, gSet, mRaise1, mSetF, setF, lim_le, Nat.reduceLeDiff, Bool.not_false, Bool.not_true, Nat.lt_irrefl, List.length_append, List.append_assoc, h2, eq_self]
  exact gc_self
end Mi_k02

set_option linter.all false
set_option autoImplicit false
set_option maxRecDepth 100000
set_option maxHeartbeats 4000000
namespace Mi_k02
open PySem Lk L2
def net (b e : Int) (ds : List D) : D := .ins "Net" [.int b, .int e, .tup ds]
theorem fn_e : flds "Net" = ([Str.ofString "beat", Str.ofString "events", Str.ofString "spans"] : List Str) := by decide
theorem fn_beat {S : Store} {b e : Int} {ds : List D} : fieldOf flds S "beat" (net b e ds) = some (.int b) := by
  show ((flds "Net").zip [D.int b, .int e, .tup ds]).lookup (Str.ofString "beat") = _
  rw [fn_e]
  simp [List.lookup]
theorem fn_ev {S : Store} {b e : Int} {ds : List D} : fieldOf flds S "events" (net b e ds) = some (.int e) := by
  have n : ((Str.ofString "events") == (Str.ofString "beat")) = false := by decide
  show ((flds "Net").zip [D.int b, .int e, .tup ds]).lookup (Str.ofString "events") = _
  rw [fn_e]
  simp [List.lookup, n]
theorem fn_sp {S : Store} {b e : Int} {ds : List D} : fieldOf flds S "spans" (net b e ds) = some (.tup ds) := by
  have n : ((Str.ofString "spans") == (Str.ofString "beat")) = false := by decide
  have n2 : ((Str.ofString "spans") == (Str.ofString "events")) = false := by decide
  show ((flds "Net").zip [D.int b, .int e, .tup ds]).lookup (Str.ofString "spans") = _
  rw [fn_e]
  simp [List.lookup, n, n2]
theorem kn_net (S : Store) (xs : List D) : Kn S (.ins "Net" xs) := ⟨.own "Net", rfl, by decide⟩
theorem gN {S : Store} {d : D} (h : Kn S d) : gIsi cs [.own "Net"] d S = .ok (.bl (isN d)) S := by
  obtain ⟨t, h1, h2⟩ := h
  unfold gIsi
  rw [h1]
  dsimp only
  rw [if_pos h2]
  have key : ∀ (t : CK) (x : Bool), isA t (.own "Net") = x → R.ok (D.bl ([CK.own "Net"].any fun T => isA t T)) S = R.ok (D.bl x) S := fun t x h1 => by simp [h1]
  cases d with
  | non => cases h1; exact key _ _ (by decide)
  | bl b => cases h1; exact key _ _ (by simp [isN, isA])
  | int b => cases h1; exact key _ _ (by simp [isN, isA])
  | str b => cases h1; exact key _ _ (by simp [isN, isA])
  | tup b => cases h1; exact key _ _ (by simp [isN, isA])
  | rol b => cases h1; exact key _ _ (by simp [isN, isA])
  | ref n =>
    have h1 : (match S[n]? with
      | some (.lst _) => some (CK.bi "list")
      | some (.dk _) => some (.bi "dict")
      | some (.dt _) => some (.bi "dict")
      | _ => none) = some t := h1
    split at h1 <;> cases h1 <;> exact key _ _ (by simp [isN, isA])
  | ins C ds => cases h1; exact key _ _ (by simp [isN, isA])
def eqRow (xs ys : List D) : Bool := PyData.eqv (.tuple (xs.map pv)) (.tuple (ys.map pv))
theorem eq_rows {S : Store} {xs ys : List D} (hx : ∀ x ∈ xs, V4 x) (hy : ∀ x ∈ ys, V4 x) : eqData S (.tup xs) (.tup ys) = some (eqRow xs ys) := by
  have p : ∀ zs : List D, (∀ x ∈ zs, V4 x) → pyD S 12 (.tup zs) = some (.tuple (zs.map pv)) := fun zs hz => by
    show (zs.mapM (pyD S 11)).map PyData.tuple = _
    rw [pyD_all (n := 9) hz]
    rfl
  unfold eqData
  rw [p xs hx, p ys hy]
  dsimp only
  rw [if_pos ⟨sh3 hx, sh3 hy⟩]
  rfl
theorem eq_net {S : Store} {b e b' e' : Int} {xs ys : List D} (hx : ∀ x ∈ xs, V4 x) (hy : ∀ x ∈ ys, V4 x) : f_Net___eq__ [net b e xs, net b' e' ys] S = .ok (.bl (decide (b = b') && (decide (e = e') && eqRow xs ys))) S := by
  have g : ∀ S : Store, gIsi cs [.own "Net"] (net b' e' ys) S = .ok (.bl true) S := fun S => by
    have := gN (kn_net S [.int b', .int e', .tup ys])
    rwa [show isN (.ins "Net" [.int b', .int e', .tup ys]) = true by simp [isN]] at this
  have gr : ∀ S : Store, gEqX cs oe0 (.tup xs) (.tup ys) S = .ok (.bl (eqRow xs ys)) S := fun S => by
    show (match eqData S (.tup xs) (.tup ys) with
      | some b => R.ok (D.bl b) S
      | none => R.bad) = _
    rw [eq_rows hx hy]
  unfold f_Net___eq__ mDef b_Net___eq__
  by_cases h1 : b = b'
  · by_cases h2 : e = e'
    · simp only [mSeq, RS.seq, mIfS, mTest, mSet, mRet, mVar, mC, mNil, mCons, Lk.m1, Lk.m2, mB, mAnd, mOr, mNot, mAndT, mOrT, mNotT, mIf, mAsg, mNext, mCall, R.bind, R.bindS, R.nxt, asB, gSub', mTup, mLst, List.getElem?_cons_succ, List.getElem?_cons_zero, List.getElem?_nil, List.set_cons_succ, List.set_cons_zero, List.map_cons, List.map_nil, List.cons_append, List.nil_append, List.length_cons, List.length_nil, List.replicate, Lk.gIx, Lk.gAdd, Lk.gSub, Lk.gMul, Lk.gDiv, Lk.gMod, gInt, gCmp, gNeg, gAbs, gGcd, gLen, List.length_map, Lk.listOf, stIx, if_true, if_false, Bool.false_eq_true, reduceIte, Nat.reduceAdd, Nat.reduceSub, Nat.zero_add, eqz_int, pow1010, pow1018, pow1019, Int.reduceMul, Int.reduceAdd, ix40, ix41, ix42, ix43, at40, at41, at42, at43, and_true, true_and, and_self, ne_eq, not_false_eq_true, decide_true, decide_false, decide_eq_true_eq, Bool.and_true, Bool.true_and, mFor, iSeq, srcOf, vals, forGo_n, forGo_c, gSet, mRaise1, mSetF, setF, lim_le, Nat.reduceLeDiff, Bool.not_false, Bool.not_true, Nat.lt_irrefl, List.length_append, List.append_assoc, g, mFld, fn_beat, fn_ev, fn_sp, eqd0_int, h1, h2, gr, eq_self]
      exact gc_self
    · simp only [mSeq, RS.seq, mIfS, mTest, mSet, mRet, mVar, mC, mNil, mCons, Lk.m1, Lk.m2, mB, mAnd, mOr, mNot, mAndT, mOrT, mNotT, mIf, mAsg, mNext, mCall, R.bind, R.bindS, R.nxt, asB, gSub', mTup, mLst, List.getElem?_cons_succ, List.getElem?_cons_zero, List.getElem?_nil, List.set_cons_succ, List.set_cons_zero, List.map_cons, List.map_nil, List.cons_append, List.nil_append, List.length_cons, List.length_nil, List.replicate, Lk.gIx, Lk.gAdd, Lk.gSub, Lk.gMul, Lk.gDiv, Lk.gMod, gInt, gCmp, gNeg, gAbs, gGcd, gLen, List.length_map, Lk.listOf, stIx, if_true, if_false, Bool.false_eq_true, reduceIte, Nat.reduceAdd, Nat.reduceSub, Nat.zero_add, eqz_int, pow1010, pow1018, pow1019, Int.reduceMul, Int.reduceAdd, ix40, ix41, ix42, ix43, at40, at41, at42, at43, and_true, true_and, and_self, ne_eq, not_false_eq_true, decide_true, decide_false, decide_eq_true_eq, Bool.and_true, Bool.true_and, mFor, iSeq, srcOf, vals, forGo_n, forGo_c, gSet, mRaise1, mSetF, setF, lim_le, Nat.reduceLeDiff, Bool.not_false, Bool.not_true, Nat.lt_irrefl, List.length_append, List.append_assoc, g, mFld, fn_beat, fn_ev, fn_sp, eqd0_int, h1, h2, gr, eq_self, Bool.false_and]
      exact gc_self
  · simp only [mSeq, RS.seq, mIfS, mTest, mSet, mRet, mVar, mC, mNil, mCons, Lk.m1, Lk.m2, mB, mAnd, mOr, mNot, mAndT, mOrT, mNotT, mIf, mAsg, mNext, mCall, R.bind, R.bindS, R.nxt, asB, gSub', mTup, mLst, List.getElem?_cons_succ, List.getElem?_cons_zero, List.getElem?_nil, List.set_cons_succ, List.set_cons_zero, List.map_cons, List.map_nil, List.cons_append, List.nil_append, List.length_cons, List.length_nil, List.replicate, Lk.gIx, Lk.gAdd, Lk.gSub, Lk.gMul, Lk.gDiv, Lk.gMod, gInt, gCmp, gNeg, gAbs, gGcd, gLen, List.length_map, Lk.listOf, stIx, if_true, if_false, Bool.false_eq_true, reduceIte, Nat.reduceAdd, Nat.reduceSub, Nat.zero_add, eqz_int, pow1010, pow1018, pow1019, Int.reduceMul, Int.reduceAdd, ix40, ix41, ix42, ix43, at40, at41, at42, at43, and_true, true_and, and_self, ne_eq, not_false_eq_true, decide_true, decide_false, decide_eq_true_eq, Bool.and_true, Bool.true_and, mFor, iSeq, srcOf, vals, forGo_n, forGo_c, gSet, mRaise1, mSetF, setF, lim_le, Nat.reduceLeDiff, Bool.not_false, Bool.not_true, Nat.lt_irrefl, List.length_append, List.append_assoc, g, mFld, fn_beat, fn_ev, fn_sp, eqd0_int, h1, gr, Bool.false_and]
    exact gc_self
end Mi_k02

set_option linter.all false
set_option autoImplicit false
set_option maxRecDepth 100000
set_option maxHeartbeats 4000000
namespace Mi_k02
open PySem Lk L2
theorem neq_no {S : Store} {b e : Int} {xs : List D} {d : D} (h : Kn S d) (hn : isN d = false) : f_Net___eq__ [net b e xs, d] S = .ok (.bl false) S := by
  have g := gN h
  rw [hn] at g
  unfold f_Net___eq__ mDef b_Net___eq__
  simp only [mSeq, RS.seq, mIfS, mTest, mSet, mRet, mVar, mC, mNil, mCons, Lk.m1, Lk.m2, mB, mAnd, mOr, mNot, mAndT, mOrT, mNotT, mIf, mAsg, mNext, mCall, R.bind, R.bindS, R.nxt, asB, gSub', mTup, mLst, List.getElem?_cons_succ, List.getElem?_cons_zero, List.getElem?_nil, List.set_cons_succ, List.set_cons_zero, List.map_cons, List.map_nil, List.cons_append, List.nil_append, List.length_cons, List.length_nil, List.replicate, Lk.gIx, Lk.gAdd, Lk.gSub, Lk.gMul, Lk.gDiv, Lk.gMod, gInt, gCmp, gNeg, gAbs, gGcd, gLen, List.length_map, Lk.listOf, stIx, if_true, if_false, Bool.false_eq_true, reduceIte, Nat.reduceAdd, Nat.reduceSub, Nat.zero_add, eqz_int, pow1010, pow1018, pow1019, Int.reduceMul, Int.reduceAdd, ix40, ix41, ix42, ix43, at40, at41, at42, at43, and_true, true_and, and_self, ne_eq, not_false_eq_true, decide_true, decide_false, decide_eq_true_eq, Bool.and_true, Bool.true_and, mFor, iSeq, srcOf, vals, forGo_n, forGo_c, gSet, mRaise1, mSetF, setF, lim_le, Nat.reduceLeDiff, Bool.not_false, Bool.not_true, Nat.lt_irrefl, List.length_append, List.append_assoc, g]
  exact gc_self
theorem oe_n : oe "Net" = some f_Net___eq__ := by
  unfold oe
  rw [if_neg (by decide), if_pos rfl]
theorem gzn {S : Store} {b e : Int} {xs : List D} {y : D} {v : Bool} (h : Kn S y) (eq : f_Net___eq__ [net b e xs, y] S = .ok (.bl v) S) : gEqZ cs oe (net b e xs) y S = .ok (.bl v) S := by
  obtain ⟨t, h1, h2⟩ := h
  have e2 : gEqX cs oe (net b e xs) y S = .ok (.bl v) S := by
    show (match oe "Net", tyK S y with
      | some m, some t => if okK cs t = true then (match m [net b e xs, y] S with
        | R.ok (D.bl b) S' => R.ok (D.bl b) S'
        | _ => R.bad) else R.bad
      | _, _ => R.bad) = _
    rw [oe_n, h1]
    dsimp only
    rw [if_pos h2, eq]
  exact e2
theorem gz_net {S : Store} {b e b' e' : Int} {xs ys : List D} (hx : ∀ x ∈ xs, V4 x) (hy : ∀ x ∈ ys, V4 x) : gEqZ cs oe (net b e xs) (net b' e' ys) S = .ok (.bl (decide (b = b') && (decide (e = e') && eqRow xs ys))) S := gzn (kn_net S _) (eq_net hx hy)
theorem gz_other {S : Store} {b e : Int} {xs : List D} {d : D} (h : Kn S d) (hn : isN d = false) : gEqZ cs oe (net b e xs) d S = .ok (.bl false) S := gzn h (neq_no h hn)
theorem gn_net {S : Store} {b e b' e' : Int} {xs ys : List D} (hx : ∀ x ∈ xs, V4 x) (hy : ∀ x ∈ ys, V4 x) : gNeX oe (net b e xs) (net b' e' ys) S = .ok (.bl (!(decide (b = b') && (decide (e = e') && eqRow xs ys)))) S := by
  show (if Str.ofString "Net" = Str.ofString "Net" then (match oe "Net" with
    | some m => (match m [net b e xs, net b' e' ys] S with
      | R.ok (D.bl b) S' => R.ok (D.bl (!b)) S'
      | _ => R.bad)
    | _ => R.bad) else R.bad) = _
  rw [if_pos rfl, oe_n]
  dsimp only
  rw [eq_net hx hy]
/-- rows are equal as data just if they are equal -/
theorem eqv_v4 {x y : D} (hx : V4 x) (hy : V4 y) : PyData.eqv (pv x) (pv y) = true ↔ x = y := by
  obtain ⟨i, j, lo, hi, rfl⟩ := hx
  obtain ⟨i', j', lo', hi', rfl⟩ := hy
  simp [pv, PyData.eqv, PyData.eqvAll]
theorem eqRow_iff : ∀ {xs ys : List D}, (∀ x ∈ xs, V4 x) → (∀ y ∈ ys, V4 y) → (eqRow xs ys = true ↔ xs = ys)
  | [], [], _, _ => by simp [eqRow, PyData.eqv, PyData.eqvAll]
  | [], y :: ys, _, _ => by simp [eqRow, PyData.eqv, PyData.eqvAll]
  | x :: xs, [], _, _ => by simp [eqRow, PyData.eqv, PyData.eqvAll]
  | x :: xs, y :: ys, hx, hy => by
    have ih := eqRow_iff (fun z hz => hx z (List.mem_cons_of_mem _ hz)) fun z hz => hy z (List.mem_cons_of_mem _ hz)
    have h1 := eqv_v4 (hx x List.mem_cons_self) (hy y List.mem_cons_self)
    simp only [eqRow, PyData.eqv, List.map_cons, PyData.eqvAll, Bool.and_eq_true] at ih ⊢
    rw [h1, ih]
    simp
theorem inB_iff {d : D} {ds : List D} (hd : V4 d) (hs : ∀ x ∈ ds, V4 x) : inB d ds = true ↔ d ∈ ds := by
  unfold inB
  rw [List.any_map, List.any_eq_true]
  constructor
  · rintro ⟨x, hx, e⟩
    rw [← (eqv_v4 (hs x hx) hd).mp e]
    exact hx
  · exact fun h => ⟨d, h, (eqv_v4 hd hd).mpr rfl⟩
end Mi_k02

set_option linter.all false
set_option autoImplicit false
set_option maxRecDepth 100000
set_option maxHeartbeats 4000000
namespace Mi_k02
open PySem Lk L2
theorem fault_none {b e : Int} : ∀ (ds pre : List D) (k : Nat), (∀ x ∈ pre, V4 x) → (fault b e pre k ds = none ↔ (∀ x ∈ ds, spanB b e x = true) ∧ ds.Nodup ∧ ∀ x ∈ ds, x ∉ pre)
  | [], pre, k, hp => by simp [fault]
  | d :: ds, pre, k, hp => by
    unfold fault
    by_cases h : spanB b e d = true ∧ inB d pre = false
    · rw [if_pos h]
      have hv := spanB_v4 h.1
      have hd : d ∉ pre := fun z => by
        rw [(inB_iff hv hp).mpr z] at h
        cases h.2
      rw [fault_none ds (pre ++ [d]) (k + 1) fun x hx => by
        rcases List.mem_append.mp hx with z | z
        · exact hp x z
        · rw [List.mem_singleton.mp z]; exact hv]
      constructor
      · rintro ⟨h1, h2, h3⟩
        refine ⟨?_, List.nodup_cons.mpr ⟨fun z => h3 d z (by simp), h2⟩, ?_⟩
        · intro x hx
          rcases List.mem_cons.mp hx with z | z
          · rw [z]; exact h.1
          · exact h1 x z
        · intro x hx
          rcases List.mem_cons.mp hx with z | z
          · rw [z]; exact hd
          · exact fun q => h3 x z (List.mem_append_left _ q)
      · rintro ⟨h1, h2, h3⟩
        obtain ⟨n1, n2⟩ := List.nodup_cons.mp h2
        refine ⟨fun x hx => h1 x (List.mem_cons_of_mem _ hx), n2, fun x hx q => ?_⟩
        rcases List.mem_append.mp q with z | z
        · exact h3 x (List.mem_cons_of_mem _ hx) z
        · rw [List.mem_singleton.mp z] at hx
          exact n1 hx
    · rw [if_neg h]
      constructor
      · intro z; cases z
      · rintro ⟨h1, h2, h3⟩
        exfalso
        have sp := h1 d List.mem_cons_self
        refine h ⟨sp, eq_false_of_ne_true fun q => ?_⟩
        exact h3 d List.mem_cons_self ((inB_iff (spanB_v4 sp) hp).mp q)
end Mi_k02

set_option linter.all false
set_option autoImplicit false
set_option maxRecDepth 100000
set_option maxHeartbeats 4000000
namespace Mi_k02
open PySem Lk L2
/-- an odd thing is a row of what may stand in rows, or no row at all -/
theorem odd_row {S : Store} {th : D} (h : Odd S th) : (∃ ds, Row S th ds ∧ (∀ x ∈ ds, SV S x) ∧ ds.length ≤ 1) ∨ gIsi cs [.bi "list", .bi "tuple"] th S = .ok (.bl false) S := by
  have no : ∀ t : CK, tyK S th = some t → okK cs t = true → isA t (.bi "list") = false → isA t (.bi "tuple") = false → gIsi cs [.bi "list", .bi "tuple"] th S = .ok (.bl false) S := fun t h1 h2 h3 h4 => by
    unfold gIsi
    rw [h1]
    dsimp only
    rw [if_pos h2]
    simp [h3, h4]
  cases h with
  | non => exact .inr (no _ rfl (by decide) (by decide) (by decide))
  | bl b => exact .inr (no _ rfl (by decide) (by decide) (by decide))
  | str x hx => exact .inr (no _ rfl (by decide) (by decide) (by decide))
  | rt p q => exact .inr (no (.own "Ratio") rfl (by decide) (by decide) (by decide))
  | d0 h => exact .inr (no (.bi "dict") (by simp [tyK, h]) (by decide) (by decide) (by decide))
  | d1 h => exact .inr (no (.bi "dict") (by simp [tyK, h]) (by decide) (by decide) (by decide))
  | t0 => exact .inl ⟨[], .inl rfl, by simp, by simp⟩
  | t1 => exact .inl ⟨_, .inl rfl, fun x hx => by rw [List.mem_singleton.mp hx]; exact .int 3, by simp⟩
  | l0 h => exact .inl ⟨[], .inr ⟨_, rfl, h⟩, by simp, by simp⟩
  | l1 h => exact .inl ⟨_, .inr ⟨_, rfl, h⟩, fun x hx => by rw [List.mem_singleton.mp hx]; exact .int 5, by simp⟩
theorem own_norow {S : Store} {th : D} {b e : Int} (g : gIsi cs [.bi "list", .bi "tuple"] th S = .ok (.bl false) S) : f_spans_fault [.int b, .int e, th] S = .ok (.int (-1)) S := by
  unfold f_spans_fault mDef b_spans_fault
  simp only [mSeq, RS.seq, mIfS, mTest, mSet, mRet, mVar, mC, mNil, mCons, Lk.m1, Lk.m2, mB, mAnd, mOr, mNot, mAndT, mOrT, mNotT, mIf, mAsg, mNext, mCall, R.bind, R.bindS, R.nxt, asB, gSub', mTup, mLst, List.getElem?_cons_succ, List.getElem?_cons_zero, List.getElem?_nil, List.set_cons_succ, List.set_cons_zero, List.map_cons, List.map_nil, List.cons_append, List.nil_append, List.length_cons, List.length_nil, List.replicate, Lk.gIx, Lk.gAdd, Lk.gSub, Lk.gMul, Lk.gDiv, Lk.gMod, gInt, gCmp, gNeg, gAbs, gGcd, gLen, List.length_map, Lk.listOf, stIx, if_true, if_false, Bool.false_eq_true, reduceIte, Nat.reduceAdd, Nat.reduceSub, Nat.zero_add, eqz_int, pow1010, pow1018, pow1019, Int.reduceMul, Int.reduceAdd, ix40, ix41, ix42, ix43, at40, at41, at42, at43, and_true, true_and, and_self, ne_eq, not_false_eq_true, decide_true, decide_false, decide_eq_true_eq, Bool.and_true, Bool.true_and, mFor, iSeq, srcOf, vals, forGo_n, forGo_c, gSet, mRaise1, mSetF, setF, lim_le, Nat.reduceLeDiff, Bool.not_false, Bool.not_true, Nat.lt_irrefl, List.length_append, List.append_assoc, g]
  exact gc_self
theorem due_norow {S : Store} {th : D} {b e : Int} (hb : 3 ≤ b ∧ b ≤ 1440) (he : 1 ≤ e ∧ e ≤ 24) (g : gIsi cs [.bi "list", .bi "tuple"] th S = .ok (.bl false) S) : f__law_due [.int b, .int e, th] S = .ok (tFFT (.int (-1))) S := by
  have h5 := isint (kn_int S b)
  have h6 := isint (kn_int S e)
  rw [← lint] at h5 h6
  simp only [isInt] at h5 h6
  have b1 : ¬ b < 3 := by omega
  have b2 : ¬ 1440 < b := by omega
  have e1 : ¬ e < 1 := by omega
  have e2 : ¬ 24 < e := by omega
  unfold f__law_due mDef b__law_due
  simp only [mSeq, RS.seq, mIfS, mTest, mSet, mRet, mVar, mC, mNil, mCons, Lk.m1, Lk.m2, mB, mAnd, mOr, mNot, mAndT, mOrT, mNotT, mIf, mAsg, mNext, mCall, R.bind, R.bindS, R.nxt, asB, gSub', mTup, mLst, List.getElem?_cons_succ, List.getElem?_cons_zero, List.getElem?_nil, List.set_cons_succ, List.set_cons_zero, List.map_cons, List.map_nil, List.cons_append, List.nil_append, List.length_cons, List.length_nil, List.replicate, Lk.gIx, Lk.gAdd, Lk.gSub, Lk.gMul, Lk.gDiv, Lk.gMod, gInt, gCmp, gNeg, gAbs, gGcd, gLen, List.length_map, Lk.listOf, stIx, if_true, if_false, Bool.false_eq_true, reduceIte, Nat.reduceAdd, Nat.reduceSub, Nat.zero_add, eqz_int, pow1010, pow1018, pow1019, Int.reduceMul, Int.reduceAdd, ix40, ix41, ix42, ix43, at40, at41, at42, at43, and_true, true_and, and_self, ne_eq, not_false_eq_true, decide_true, decide_false, decide_eq_true_eq, Bool.and_true, Bool.true_and, mFor, iSeq, srcOf, vals, forGo_n, forGo_c, gSet, mRaise1, mSetF, setF, lim_le, Nat.reduceLeDiff, Bool.not_false, Bool.not_true, Nat.lt_irrefl, List.length_append, List.append_assoc, h5, h6, b1, b2, e1, e2, g, tFFT]
  exact gc_self
end Mi_k02

set_option linter.all false
set_option autoImplicit false
set_option maxRecDepth 100000
set_option maxHeartbeats 4000000
namespace Mi_k02
open PySem Lk L2
theorem gTup {S : Store} {th : D} {ds : List D} (h : Row S th ds) : gTuple [th] S = .ok (.tup ds) S := by
  rcases h with z | ⟨n, z, hn⟩
  · subst z; rfl
  · subst z
    unfold gTuple
    simp [Lk.listOf, hn]
theorem net_right {S : Store} {b e b' e' : Int} {xs ys : List D} {th : D} (h : Row S th ys) (hx : ∀ x ∈ xs, V4 x) (hy : ∀ x ∈ ys, V4 x) : f__law_net_right [net b e xs, .int b', .int e', th] S = .ok (.bl (decide (b = b') && (decide (e = e') && eqRow xs ys))) S := by
  have g : gIsi cs [.own "Net"] (net b e xs) S = .ok (.bl true) S := by
    have := gN (kn_net S [.int b, .int e, .tup xs])
    rwa [show isN (.ins "Net" [.int b, .int e, .tup xs]) = true by simp [isN]] at this
  have h5 := isint (kn_int S b)
  have h6 := isint (kn_int S e)
  rw [← lint] at h5 h6
  simp only [isInt] at h5 h6
  have gt := gTup h
  have gi : gIsi cs [.bi "tuple"] (.tup xs) S = .ok (.bl true) S := gIt (d := .tup xs) ⟨.bi "tuple", rfl, by decide⟩
  have gq : gEqZ cs oe (.tup xs) (.tup ys) S = .ok (.bl (eqRow xs ys)) S := eq_data (fun _ _ z => by cases z) (eq_rows hx hy) (fun _ _ z => by cases z)
  unfold f__law_net_right mDef b__law_net_right
  by_cases h1 : b = b'
  · subst h1
    by_cases h2 : e = e'
    · subst h2
      simp only [mSeq, RS.seq, mIfS, mTest, mSet, mRet, mVar, mC, mNil, mCons, Lk.m1, Lk.m2, mB, mAnd, mOr, mNot, mAndT, mOrT, mNotT, mIf, mAsg, mNext, mCall, R.bind, R.bindS, R.nxt, asB, gSub', mTup, mLst, List.getElem?_cons_succ, List.getElem?_cons_zero, List.getElem?_nil, List.set_cons_succ, List.set_cons_zero, List.map_cons, List.map_nil, List.cons_append, List.nil_append, List.length_cons, List.length_nil, List.replicate, Lk.gIx, Lk.gAdd, Lk.gSub, Lk.gMul, Lk.gDiv, Lk.gMod, gInt, gCmp, gNeg, gAbs, gGcd, gLen, List.length_map, Lk.listOf, stIx, if_true, if_false, Bool.false_eq_true, reduceIte, Nat.reduceAdd, Nat.reduceSub, Nat.zero_add, eqz_int, pow1010, pow1018, pow1019, Int.reduceMul, Int.reduceAdd, ix40, ix41, ix42, ix43, at40, at41, at42, at43, and_true, true_and, and_self, ne_eq, not_false_eq_true, decide_true, decide_false, decide_eq_true_eq, Bool.and_true, Bool.true_and, mFor, iSeq, srcOf, vals, forGo_n, forGo_c, gSet, mRaise1, mSetF, setF, lim_le, Nat.reduceLeDiff, Bool.not_false, Bool.not_true, Nat.lt_irrefl, List.length_append, List.append_assoc, g, h5, h6, mFld, fn_beat, fn_ev, fn_sp, gt, gi, gq, eq_self]
      exact gc_self
    · simp only [mSeq, RS.seq, mIfS, mTest, mSet, mRet, mVar, mC, mNil, mCons, Lk.m1, Lk.m2, mB, mAnd, mOr, mNot, mAndT, mOrT, mNotT, mIf, mAsg, mNext, mCall, R.bind, R.bindS, R.nxt, asB, gSub', mTup, mLst, List.getElem?_cons_succ, List.getElem?_cons_zero, List.getElem?_nil, List.set_cons_succ, List.set_cons_zero, List.map_cons, List.map_nil, List.cons_append, List.nil_append, List.length_cons, List.length_nil, List.replicate, Lk.gIx, Lk.gAdd, Lk.gSub, Lk.gMul, Lk.gDiv, Lk.gMod, gInt, gCmp, gNeg, gAbs, gGcd, gLen, List.length_map, Lk.listOf, stIx, if_true, if_false, Bool.false_eq_true, reduceIte, Nat.reduceAdd, Nat.reduceSub, Nat.zero_add, eqz_int, pow1010, pow1018, pow1019, Int.reduceMul, Int.reduceAdd, ix40, ix41, ix42, ix43, at40, at41, at42, at43, and_true, true_and, and_self, ne_eq, not_false_eq_true, decide_true, decide_false, decide_eq_true_eq, Bool.and_true, Bool.true_and, mFor, iSeq, srcOf, vals, forGo_n, forGo_c, gSet, mRaise1, mSetF, setF, lim_le, Nat.reduceLeDiff, Bool.not_false, Bool.not_true, Nat.lt_irrefl, List.length_append, List.append_assoc, g, h5, h6, mFld, fn_beat, fn_ev, fn_sp, h2, gt, gi, gq, eq_self, Bool.false_and]
      exact gc_self
  · simp only [mSeq, RS.seq, mIfS, mTest, mSet, mRet, mVar, mC, mNil, mCons, Lk.m1, Lk.m2, mB, mAnd, mOr, mNot, mAndT, mOrT, mNotT, mIf, mAsg, mNext, mCall, R.bind, R.bindS, R.nxt, asB, gSub', mTup, mLst, List.getElem?_cons_succ, List.getElem?_cons_zero, List.getElem?_nil, List.set_cons_succ, List.set_cons_zero, List.map_cons, List.map_nil, List.cons_append, List.nil_append, List.length_cons, List.length_nil, List.replicate, Lk.gIx, Lk.gAdd, Lk.gSub, Lk.gMul, Lk.gDiv, Lk.gMod, gInt, gCmp, gNeg, gAbs, gGcd, gLen, List.length_map, Lk.listOf, stIx, if_true, if_false, Bool.false_eq_true, reduceIte, Nat.reduceAdd, Nat.reduceSub, Nat.zero_add, eqz_int, pow1010, pow1018, pow1019, Int.reduceMul, Int.reduceAdd, ix40, ix41, ix42, ix43, at40, at41, at42, at43, and_true, true_and, and_self, ne_eq, not_false_eq_true, decide_true, decide_false, decide_eq_true_eq, Bool.and_true, Bool.true_and, mFor, iSeq, srcOf, vals, forGo_n, forGo_c, gSet, mRaise1, mSetF, setF, lim_le, Nat.reduceLeDiff, Bool.not_false, Bool.not_true, Nat.lt_irrefl, List.length_append, List.append_assoc, g, h5, h6, mFld, fn_beat, fn_ev, fn_sp, h1, gt, gi, gq, Bool.false_and]
    exact gc_self
end Mi_k02

set_option linter.all false
set_option autoImplicit false
set_option maxRecDepth 100000
set_option maxHeartbeats 4000000
namespace Mi_k02
open PySem Lk L2
/-- what stands from L on stays -/
def Same (L : Nat) (S S' : Store) : Prop := S.length ≤ S'.length ∧ ∀ m, L ≤ m → m < S.length → S'[m]? = S[m]?
theorem Same.refl (L : Nat) (S : Store) : Same L S S := ⟨Nat.le_refl _, fun _ _ _ => rfl⟩
theorem Same.trans {L : Nat} {S S' S'' : Store} (h : Same L S S') (h' : Same L S' S'') : Same L S S'' :=
  ⟨Nat.le_trans h.1 h'.1, fun m h1 h2 => by rw [h'.2 m h1 (Nat.lt_of_lt_of_le h2 h.1), h.2 m h1 h2]⟩
theorem Same.app (L : Nat) (S T : Store) : Same L S (S ++ T) := ⟨by simp, fun m _ hm => by rw [List.getElem?_append_left hm]⟩
theorem Same.set {L : Nat} {S : Store} {p : Nat} {o : Ob} (h : p < L) : Same L S (S.set p o) := ⟨by simp, fun m hm _ => by rw [List.getElem?_set_ne (by omega)]⟩
theorem Ch.same {L n : Nat} {S S' : Store} (h : Ch S n S') (hn : n < L) : Same L S S' := by
  obtain ⟨o, rfl⟩ := h
  exact .set hn
/-- a fresh source is changed -/
theorem Same.ag {L n : Nat} {S0 S S' : Store} (h : Same L S0 S) (a : Ag S n S') (hn : S0.length ≤ n ∨ n < L) : Same L S0 S' :=
  ⟨Nat.le_trans h.1 a.1, fun m h1 h2 => by
    rw [a.2 m (Nat.lt_of_lt_of_le h2 h.1) (by omega), h.2 m h1 h2]⟩
def RG (L : Nat) (d : D) : Prop := (∀ m, d = .ref m → L ≤ m) ∧ ∀ xs, d = .tup xs → ∀ x ∈ xs, ∀ m, x = .ref m → L ≤ m
theorem Odd.same {L : Nat} {S S' : Store} {d : D} (h : Odd S d) (g : ∀ m, d = .ref m → L ≤ m) (s : Same L S S') : Odd S' d :=
  h.imp fun m o hm e => by rw [s.2 m (g m e) (getlt hm)]; exact hm
theorem SV.same {L : Nat} {S S' : Store} {d : D} (h : SV S d) (g : RG L d) (s : Same L S S') : SV S' d := by
  cases h with
  | odd h => exact .odd (h.same g.1 s)
  | int i => exact .int i
  | @tup xs h1 h2 => exact .tup h1 fun x hx => (h2 x hx).imp (fun z => z) fun z => z.same (fun m e => g.2 xs rfl x hx m e) s
  | @lst n _ _ _ _ h => exact .lst (by rw [s.2 n (g.1 n rfl) (getlt h)]; exact h)
theorem V4.sv {S : Store} {d : D} (h : V4 d) : SV S d := by
  obtain ⟨i, j, lo, hi, rfl⟩ := h
  exact .tup (by simp) (by simp [Pt])
theorem V4.rg {L : Nat} {d : D} (h : V4 d) : RG L d := by
  obtain ⟨i, j, lo, hi, rfl⟩ := h
  exact ⟨fun m e => (by cases e), fun xs e x hx m em => by cases e; subst em; simp at hx⟩
theorem Src.same {L n : Nat} {k : Int} {S S' : Store} (h : Src S n k) (hn : L ≤ n) (s : Same L S S') : Src S' n k := by
  obtain ⟨a, b, c, d, h, r⟩ := h
  exact ⟨a, b, c, d, by unfold Src4 at h ⊢; rw [s.2 n hn (getlt h)]; exact h, r⟩
theorem Src.lt {n : Nat} {k : Int} {S : Store} (h : Src S n k) : n < S.length := by
  obtain ⟨a, b, c, d, h, r⟩ := h
  exact getlt h
theorem Src.ag {n s : Nat} {k : Int} {S S' : Store} (h : Src S s k) (a : Ag S n S') (hn : s ≠ n) : Src S' s k := by
  have hl := h.lt
  obtain ⟨a1, b, c, d, h, r⟩ := h
  exact ⟨a1, b, c, d, by unfold Src4 at h ⊢; rw [a.2 s hl hn]; exact h, r⟩
theorem Src.app {s : Nat} {k : Int} {S T : Store} (h : Src S s k) : Src (S ++ T) s k := h.ag (.app S S.length T) (Nat.ne_of_lt h.lt)
theorem Src.appr {s : Nat} {k : Int} {S T : Store} (h : Src (S ++ T) s k) (hs : s < S.length) : Src S s k := by
  obtain ⟨a1, b, c, d, h, r⟩ := h
  exact ⟨a1, b, c, d, by unfold Src4 at h ⊢; rw [List.getElem?_append_left hs] at h; exact h, r⟩
end Mi_k02

set_option linter.all false
set_option autoImplicit false
set_option maxRecDepth 100000
set_option maxHeartbeats 4000000
namespace Mi_k02
open PySem Lk L2
noncomputable def rbody : MS := (mSeq (mSet 6 (mCall 2 f__law_draw (mCons (mVar 0) (mCons (mVar 2) mNil))))
  (mSeq (mSet 7 (m2 Lk.gMod (mB gInt (mCons (m2 Lk.gAdd (m2 Lk.gAdd (mVar 6) (mC (.int 1))) (mCall 2 f__law_draw (mCons (mVar 0) (mCons (mB gMax2 (mCons (mC (.int 1)) (mCons (m2 Lk.gSub (mVar 2) (mC (.int 1))) mNil))) mNil)))) mNil)) (mVar 2)))
  (mSeq (mSet 8 (mCall 2 f__law_draw (mCons (mVar 0) (mCons (m2 Lk.gMul (mC (.int 2)) (mVar 1)) mNil))))
  (mSeq (mSet 9 (mB gMin2 (mCons (mC (.int 2880)) (mCons (m2 Lk.gAdd (mVar 8) (mCall 2 f__law_draw (mCons (mVar 0) (mCons (m2 Lk.gSub (mVar 1) (mC (.int 1))) mNil)))) mNil))))
  (mSeq (mSet 10 (mTup (mCons (mVar 6) (mCons (mVar 7) (mCons (mB gMin2 (mCons (mVar 8) (mCons (mVar 9) mNil))) (mCons (mVar 9) mNil))))))
  (mIfS (mAndT (mTest (m2 (gNeX oe) (mVar 6) (mVar 7))) (mTest (m2 (gInZ true) (mVar 10) (mVar 4)))) (mDrop (mBM gAppend (mVar 4) (mCons (mVar 10) mNil))) mNext))))))
theorem rows_eq : b__law_rows = mSeq (mSet 4 (mLst mNil)) (mSeq (mFor (iRng1' (mCons (mVar 3) mNil)) (gSet 5) rbody) (mRet (mVar 4))) := rfl
/-- the rows made so far -/
def RInv (n p : Nat) (b e : Int) (m : Int) (S0 : Store) (M : Nat) (K : Int) (ds : List D) (env : Lk.Env) (S : Store) : Prop :=
  ∃ (v5 v6 v7 v8 v9 v10 : Option D) (l : List D) (k : Int), env = [some (.ref n), some (.int b), some (.int e), some (.int m), some (.ref p), v5, v6, v7, v8, v9, v10] ∧ Src S n k ∧ S[p]? = some (.lst l) ∧ S.length = p + 1 ∧
    (∀ j, j < p → j ≠ n → S[j]? = S0[j]?) ∧ (∀ x ∈ l, V4 x) ∧ l.length + ds.length ≤ M ∧ k + 4 * (ds.length : Nat) ≤ K
theorem gmax {S : Store} {i j : Int} : gMax2 [.int i, .int j] S = .ok (.int (if j > i then j else i)) S := rfl
theorem gmin {S : Store} {i j : Int} : gMin2 [.int i, .int j] S = .ok (.int (if j < i then j else i)) S := rfl
theorem rows_step {n p : Nat} {b e m : Int} {S0 : Store} {M : Nat} {K : Int} (hb : 3 ≤ b ∧ b ≤ 1440) (he : 1 ≤ e ∧ e ≤ 24) (hn : n < p) (hM : M ≤ 100) (hK : K < 2 ^ 40) (d : D) (ds : List D) (env : Lk.Env) (S : Store) (h : RInv n p b e m S0 M K (d :: ds) env S) :
    ∃ e1 S1, gSet 5 d env S = .ok e1 S1 ∧ ∃ e2 S2, rbody e1 S1 = .nx e2 S2 ∧ RInv n p b e m S0 M K ds e2 S2 := by
  obtain ⟨v5, v6, v7, v8, v9, v10, l, k, rfl, hs, hp, hl, ha, hv, hm, hk⟩ := h
  simp only [List.length_cons] at hm hk
  refine ⟨_, _, rfl, ?_⟩
  have e0 : ¬ e = 0 := by omega
  obtain ⟨r1, S1, a1, a2, q1, s1, u1⟩ := draw hs (m := e) (by omega) (by omega) (Nat.lt_trans (bits_small (by omega) (by omega)) (by decide))
  have mx : 0 < (if e - 1 > 1 then e - 1 else 1) ∧ (if e - 1 > 1 then e - 1 else 1) ≤ 24 := by split <;> omega
  generalize hmx : (if e - 1 > 1 then e - 1 else 1) = mm at mx
  obtain ⟨r2, S2, b1, b2, q2, s2, u2⟩ := draw s1 (m := mm) (by omega) (by omega) (Nat.lt_trans (bits_small (by omega) (by omega)) (by decide))
  obtain ⟨r3, S3, c1, c2, q3, s3, u3⟩ := draw s2 (m := 2 * b) (by omega) (by omega) (Nat.lt_trans (bits_small (by omega) (by omega)) (by decide))
  obtain ⟨r4, S4, d1, d2, q4, s4, u4⟩ := draw s3 (m := b - 1) (by omega) (by omega) (Nat.lt_trans (bits_small (by omega) (by omega)) (by decide))
  have mk : bits 2 + bits b < 1000000 := mul_ok (small (by decide +kernel) (by decide +kernel)) (small (by omega) (by omega))
  have uu : Ch S n S4 := ((u1.trans u2).trans u3).trans u4
  have hp4 : S4[p]? = some (.lst l) := by
    obtain ⟨o, rfl⟩ := uu
    rw [List.getElem?_set_ne (by omega)]
    exact hp
  have hl4 : S4.length = p + 1 := by rw [uu.len, hl]
  have ha4 : ∀ j, j < p → j ≠ n → S4[j]? = S0[j]? := fun j h1 h2 => by
    obtain ⟨o, rfl⟩ := uu
    rw [List.getElem?_set_ne (by omega)]
    exact ha j h1 h2
  obtain ⟨x, hx⟩ : ∃ x, x = fmd (r1 + 1 + r2) e := ⟨_, rfl⟩
  obtain ⟨hi, hhi⟩ : ∃ hi, hi = (if r3 + r4 < 2880 then r3 + r4 else 2880) := ⟨_, rfl⟩
  obtain ⟨lo, hlo⟩ : ∃ lo, lo = (if hi < r3 then hi else r3) := ⟨_, rfl⟩
  have vsp : V4 (.tup [.int r1, .int x, .int lo, .int hi]) := ⟨_, _, _, _, rfl⟩
  have hin := in_row (neg := true) (S := S4) (th := .ref p) (.inr ⟨p, rfl, hp4⟩) vsp hv
  simp only [if_true] at hin
  have hne : gNeX oe (.int r1) (.int x) S4 = .ok (.bl (!decide (r1 = x))) S4 := gn_int
  have llim : l.length < lim := by
    have : lim = 16777216 := rfl
    omega
  by_cases t : (!decide (r1 = x)) = true ∧ (!inB (.tup [.int r1, .int x, .int lo, .int hi]) l) = true
  · rw [t.1] at hne
    rw [t.2] at hin
    refine ⟨[some (.ref n), some (.int b), some (.int e), some (.int m), some (.ref p), some d, some (.int r1), some (.int x), some (.int r3), some (.int hi), some (.tup [.int r1, .int x, .int lo, .int hi])], S4.set p (.lst (l ++ [.tup [.int r1, .int x, .int lo, .int hi]])), by
      unfold rbody
      simp only [mSeq, RS.seq, mIfS, mTest, mSet, mRet, mVar, mC, mNil, mCons, Lk.m1, Lk.m2, mB, mAnd, mOr, mNot, mAndT, mOrT, mNotT, mIf, mAsg, mNext, mCall, R.bind, R.bindS, R.nxt, asB, gSub', mTup, mLst, List.getElem?_cons_succ, List.getElem?_cons_zero, List.getElem?_nil, List.set_cons_succ, List.set_cons_zero, List.map_cons, List.map_nil, List.cons_append, List.nil_append, List.length_cons, List.length_nil, List.replicate, Lk.gIx, Lk.gAdd, Lk.gSub, Lk.gMul, Lk.gDiv, Lk.gMod, gInt, gCmp, gNeg, gAbs, gGcd, gLen, List.length_map, Lk.listOf, stIx, if_true, if_false, Bool.false_eq_true, reduceIte, Nat.reduceAdd, Nat.reduceSub, Nat.zero_add, eqz_int, pow1010, pow1018, pow1019, Int.reduceMul, Int.reduceAdd, ix40, ix41, ix42, ix43, at40, at41, at42, at43, and_true, true_and, and_self, ne_eq, not_false_eq_true, decide_true, decide_false, decide_eq_true_eq, Bool.and_true, Bool.true_and, mFor, iSeq, srcOf, vals, forGo_n, forGo_c, gSet, mRaise1, mSetF, setF, lim_le, Nat.reduceLeDiff, Bool.not_false, Bool.not_true, Nat.lt_irrefl, List.length_append, List.append_assoc, q1, gmax, hmx, q2, e0, ← hx, mk, q3, q4, gmin, ← hhi, ← hlo, hne, hin, mDrop, mBM, gAppend, hp4, llim], ?_⟩
    refine ⟨_, _, _, _, _, _, l ++ [.tup [.int r1, .int x, .int lo, .int hi]], k + 1 + 1 + 1 + 1, rfl, ?_, by simp [hl4], by simp [hl4], fun j h1 h2 => ?_, fun y hy => ?_, by simp; omega, by omega⟩
    · exact Src.ag s4 (Ch.ag ⟨_, rfl⟩) (by omega)
    · rw [List.getElem?_set_ne (by omega)]; exact ha4 j h1 h2
    · rcases List.mem_append.mp hy with z | z
      · exact hv y z
      · rw [List.mem_singleton.mp z]; exact vsp
  · have fin : ∀ o10, RInv n p b e m S0 M K ds [some (.ref n), some (.int b), some (.int e), some (.int m), some (.ref p), some d, some (.int r1), some (.int x), some (.int r3), some (.int hi), o10] S4 := fun o10 =>
      ⟨_, _, _, _, _, _, l, k + 1 + 1 + 1 + 1, rfl, s4, hp4, hl4, ha4, hv, by omega, by omega⟩
    refine ⟨_, S4, ?_, fin (some (.tup [.int r1, .int x, .int lo, .int hi]))⟩
    unfold rbody
    by_cases t1 : (!decide (r1 = x)) = true
    · have t2 : (!inB (.tup [.int r1, .int x, .int lo, .int hi]) l) = false := eq_false_of_ne_true fun z => t ⟨t1, z⟩
      rw [t1] at hne
      rw [t2] at hin
      simp only [mSeq, RS.seq, mIfS, mTest, mSet, mRet, mVar, mC, mNil, mCons, Lk.m1, Lk.m2, mB, mAnd, mOr, mNot, mAndT, mOrT, mNotT, mIf, mAsg, mNext, mCall, R.bind, R.bindS, R.nxt, asB, gSub', mTup, mLst, List.getElem?_cons_succ, List.getElem?_cons_zero, List.getElem?_nil, List.set_cons_succ, List.set_cons_zero, List.map_cons, List.map_nil, List.cons_append, List.nil_append, List.length_cons, List.length_nil, List.replicate, Lk.gIx, Lk.gAdd, Lk.gSub, Lk.gMul, Lk.gDiv, Lk.gMod, gInt, gCmp, gNeg, gAbs, gGcd, gLen, List.length_map, Lk.listOf, stIx, if_true, if_false, Bool.false_eq_true, reduceIte, Nat.reduceAdd, Nat.reduceSub, Nat.zero_add, eqz_int, pow1010, pow1018, pow1019, Int.reduceMul, Int.reduceAdd, ix40, ix41, ix42, ix43, at40, at41, at42, at43, and_true, true_and, and_self, ne_eq, not_false_eq_true, decide_true, decide_false, decide_eq_true_eq, Bool.and_true, Bool.true_and, mFor, iSeq, srcOf, vals, forGo_n, forGo_c, gSet, mRaise1, mSetF, setF, lim_le, Nat.reduceLeDiff, Bool.not_false, Bool.not_true, Nat.lt_irrefl, List.length_append, List.append_assoc, q1, gmax, hmx, q2, e0, ← hx, mk, q3, q4, gmin, ← hhi, ← hlo, hne, hin]
    · have t1 : (!decide (r1 = x)) = false := eq_false_of_ne_true t1
      rw [t1] at hne
      simp only [mSeq, RS.seq, mIfS, mTest, mSet, mRet, mVar, mC, mNil, mCons, Lk.m1, Lk.m2, mB, mAnd, mOr, mNot, mAndT, mOrT, mNotT, mIf, mAsg, mNext, mCall, R.bind, R.bindS, R.nxt, asB, gSub', mTup, mLst, List.getElem?_cons_succ, List.getElem?_cons_zero, List.getElem?_nil, List.set_cons_succ, List.set_cons_zero, List.map_cons, List.map_nil, List.cons_append, List.nil_append, List.length_cons, List.length_nil, List.replicate, Lk.gIx, Lk.gAdd, Lk.gSub, Lk.gMul, Lk.gDiv, Lk.gMod, gInt, gCmp, gNeg, gAbs, gGcd, gLen, List.length_map, Lk.listOf, stIx, if_true, if_false, Bool.false_eq_true, reduceIte, Nat.reduceAdd, Nat.reduceSub, Nat.zero_add, eqz_int, pow1010, pow1018, pow1019, Int.reduceMul, Int.reduceAdd, ix40, ix41, ix42, ix43, at40, at41, at42, at43, and_true, true_and, and_self, ne_eq, not_false_eq_true, decide_true, decide_false, decide_eq_true_eq, Bool.and_true, Bool.true_and, mFor, iSeq, srcOf, vals, forGo_n, forGo_c, gSet, mRaise1, mSetF, setF, lim_le, Nat.reduceLeDiff, Bool.not_false, Bool.not_true, Nat.lt_irrefl, List.length_append, List.append_assoc, q1, gmax, hmx, q2, e0, ← hx, mk, q3, q4, gmin, ← hhi, ← hlo, hne]
theorem rows_ok {S : Store} {n : Nat} {b e m : Int} {k : Int} (hb : 3 ≤ b ∧ b ≤ 1440) (he : 1 ≤ e ∧ e ≤ 24) (hm : 0 ≤ m ∧ m ≤ 63) (hs : Src S n k) (hk : k < 2 ^ 30) :
    ∃ l S', f__law_rows [.ref n, .int b, .int e, .int m] S = .ok (.ref S.length) S' ∧ S'[S.length]? = some (.lst l) ∧ S'.length = S.length + 1 ∧ (∀ j, j < S.length → j ≠ n → S'[j]? = S[j]?) ∧ (∀ x ∈ l, V4 x) ∧ l.length ≤ 63 := by
  have hn := hs.lt
  have bdm : bd m := by
    have e : (2 : Int) ^ 62 = 4611686018427387904 := by decide
    unfold bd
    rw [e]
    constructor <;> omega
  have hi : iRng1' (mCons (mVar 3) mNil) [some (.ref n), some (.int b), some (.int e), some (.int m), some (.ref S.length), none, none, none, none, none, none] (S ++ [.lst []]) = .ok (vals (rngI 0 m.toNat)) (S ++ [.lst []]) :=
    iRng1_of (by simp only [mCons, mNil, mVar, R.bind, List.getElem?_cons_succ, List.getElem?_cons_zero]) bdm
  have lenr : (rngI 0 m.toNat).length = m.toNat := by simp [rngI]
  have loop := for_inv (g := gSet 5) (mb := rbody) (I := RInv n S.length b e m S 63 (k + 400)) (Fin := fun r => ∃ env S', r = .nx env S' ∧ RInv n S.length b e m S 63 (k + 400) [] env S') (rngI 0 m.toNat)
    [some (.ref n), some (.int b), some (.int e), some (.int m), some (.ref S.length), none, none, none, none, none, none] (S ++ [.lst []])
    ⟨_, _, _, _, _, _, [], k, rfl, hs.app, by simp, by simp, fun j h1 _ => by rw [List.getElem?_append_left h1], by simp, by rw [lenr]; simp; omega, by rw [lenr]; omega⟩
    (fun env S' h => ⟨env, S', rfl, h⟩)
    (fun d ds env S' h => by
      obtain ⟨e1, S1, g1, e2, S2, b2, i2⟩ := rows_step hb he hn (by decide) (by omega) d ds env S' h
      refine ⟨e1, S1, g1, ?_⟩
      rw [b2]
      exact i2)
  obtain ⟨env, S', el, v5, v6, v7, v8, v9, v10, l, k', rfl, s', hp, hl, ha, hv, hlen, hk'⟩ := loop
  have hF : mFor (iRng1' (mCons (mVar 3) mNil)) (gSet 5) rbody [some (.ref n), some (.int b), some (.int e), some (.int m), some (.ref S.length), none, none, none, none, none, none] (S ++ [.lst []]) = forGo (fun _ => True) (gSet 5) rbody (rngI 0 m.toNat) [some (.ref n), some (.int b), some (.int e), some (.int m), some (.ref S.length), none, none, none, none, none, none] (S ++ [.lst []]) := by
    unfold mFor
    rw [hi]
    rfl
  refine ⟨l, S', ?_, hp, hl, ha, hv, by simpa using hlen⟩
  have gcl : gc S (.ref S.length) S' = .ok (.ref S.length) S' := by
    unfold Lk.gc
    rw [if_neg]
    rintro ⟨c, _⟩
    simp [D.cl] at c
  have hF' := hF.trans el
  unfold f__law_rows mDef
  rw [rows_eq]
  generalize mFor (iRng1' (mCons (mVar 3) mNil)) (gSet 5) rbody = FF at hF' ⊢
  simp only [mSeq, RS.seq, mIfS, mTest, mSet, mRet, mVar, mC, mNil, mCons, Lk.m1, Lk.m2, mB, mAnd, mOr, mNot, mAndT, mOrT, mNotT, mIf, mAsg, mNext, mCall, R.bind, R.bindS, R.nxt, asB, gSub', mTup, mLst, List.getElem?_cons_succ, List.getElem?_cons_zero, List.getElem?_nil, List.set_cons_succ, List.set_cons_zero, List.map_cons, List.map_nil, List.cons_append, List.nil_append, List.length_cons, List.length_nil, List.replicate, Lk.gIx, Lk.gAdd, Lk.gSub, Lk.gMul, Lk.gDiv, Lk.gMod, gInt, gCmp, gNeg, gAbs, gGcd, gLen, List.length_map, Lk.listOf, stIx, if_true, if_false, Bool.false_eq_true, reduceIte, Nat.reduceAdd, Nat.reduceSub, Nat.zero_add, eqz_int, pow1010, pow1018, pow1019, Int.reduceMul, Int.reduceAdd, ix40, ix41, ix42, ix43, at40, at41, at42, at43, and_true, true_and, and_self, ne_eq, not_false_eq_true, decide_true, decide_false, decide_eq_true_eq, Bool.and_true, Bool.true_and, mFor, iSeq, srcOf, vals, forGo_n, forGo_c, gSet, mRaise1, mSetF, setF, lim_le, Nat.reduceLeDiff, Bool.not_false, Bool.not_true, Nat.lt_irrefl, List.length_append, List.append_assoc, hF']
  exact gcl
end Mi_k02

set_option linter.all false
set_option autoImplicit false
set_option maxRecDepth 100000
set_option maxHeartbeats 4000000
namespace Mi_k02
open PySem Lk L2
theorem cl_mem {n : Nat} : ∀ {xs : List D} {x : D}, clL n xs = true → x ∈ xs → x.cl n = true
  | [], _, _, h => by cases h
  | y :: ys, x, c, h => by
    simp only [clL, Bool.and_eq_true] at c
    rcases List.mem_cons.mp h with e | h
    · rw [e]; exact c.1
    · exact cl_mem c.2 h
theorem Odd.back {S S' : Store} {d : D} (h : Odd S' d) (c : d.cl S.length = true) (t : S'.take S.length = S) : Odd S d := h.imp fun m o hm e => by
  subst e
  have hm' : m < S.length := by simpa [D.cl] using c
  rw [← t, List.getElem?_take_of_lt hm']
  exact hm
theorem SV.back {S S' : Store} {d : D} (h : SV S' d) (c : d.cl S.length = true) (t : S'.take S.length = S) : SV S d := by
  cases h with
  | odd h => exact .odd (h.back c t)
  | int i => exact .int i
  | @tup xs h1 h2 => exact .tup h1 fun x hx => (h2 x hx).imp (fun z => z) fun z => z.back (cl_mem (by simpa [D.cl] using c) hx) t
  | @lst m _ _ _ _ h =>
    have hm' : m < S.length := by simpa [D.cl] using c
    exact .lst (by rw [← t, List.getElem?_take_of_lt hm']; exact h)
theorem at30 (x y z : D) : atI [x, y, z] 0 = some x := rfl
theorem at31 (x y z : D) : atI [x, y, z] 1 = some y := rfl
theorem at32 (x y z : D) : atI [x, y, z] 2 = some z := rfl
theorem i10 : (1 : Int) - 1 = 0 := rfl
theorem i21 : (2 : Int) - 1 = 1 := rfl
theorem i32 : (3 : Int) - 1 = 2 := rfl
theorem i44 : (4 : Int) - 4 = 0 := rfl
theorem i54 : (5 : Int) - 4 = 1 := rfl
theorem i64 : (6 : Int) - 4 = 2 := rfl
theorem i74 : (7 : Int) - 4 = 3 := rfl
theorem i88 : (8 : Int) - 8 = 0 := rfl
theorem i98 : (9 : Int) - 8 = 1 := rfl
theorem i108 : (10 : Int) - 8 = 2 := rfl
theorem last1 {α : Type} {l : List α} {a : α} : (l ++ [a])[l.length]? = some a := by simp
theorem ch_fin {S : Store} {n : Nat} {d b e g : D} (h : ∃ d' S', b__law_changed ([.ref n, d, b, e, g].map some ++ List.replicate 6 none) S = .rt d' S' ∧ SV S' d' ∧ RG S.length d' ∧ Ag S n S') :
    ∃ d' S', f__law_changed [.ref n, d, b, e, g] S = .ok d' S' ∧ SV S' d' ∧ RG S.length d' ∧ Ag S n S' := by
  obtain ⟨d', S', ev, sv, rg, ag⟩ := h
  have ed2 : f__law_changed [.ref n, d, b, e, g] S = gc S d' S' := by
    show mDef 11 b__law_changed [.ref n, d, b, e, g] S = _
    unfold mDef
    show (match b__law_changed ([.ref n, d, b, e, g].map some ++ List.replicate 6 none) S with
      | .nx _ S' => gc S .non S'
      | .rt d S' => gc S d S'
      | .ex C xs _ S' => gcX S C xs S'
      | _ => .bad) = _
    rw [ev]
  rw [ed2]
  rcases gc_either (S := S) (S' := S') (d := d') with ⟨g, c1, c2⟩ | g
  · rw [g]
    exact ⟨d', S, rfl, sv.back c1 c2, rg, .refl _ _⟩
  · rw [g]
    exact ⟨d', S', rfl, sv, rg, ag⟩
theorem Ag.setf {S S' : Store} {n p : Nat} {o : Ob} (h : Ag S n S') (hp : S.length ≤ p) : Ag S n (S'.set p o) := ⟨by rw [List.length_set]; exact h.1, fun m hm hn => by rw [List.getElem?_set_ne (by omega)]; exact h.2 m hm hn⟩
theorem at_mem {l : List D} {q : Int} (h1 : 0 ≤ q) (h2 : q < (l.length : Nat)) : ∃ x, atI l q = some x ∧ x ∈ l := by
  have hi : q.toNat < l.length := by omega
  refine ⟨l[q.toNat], ?_, List.getElem_mem hi⟩
  unfold atI ixN
  simp [h1, h2]
theorem rg_tup {L : Nat} {xs : List D} (h : ∀ x ∈ xs, ∀ m, x = .ref m → L ≤ m) : RG L (.tup xs) := ⟨fun m e => (by cases e), fun ys e => by cases e; exact h⟩
theorem changed_ok {S : Store} {n g : Nat} {k b e : Int} {d : D} {gs : List D} (hs : Src S n k) (hk : k < 2 ^ 30) (hd : V4 d) (hg : S[g]? = some (.lst gs)) (hgn : g ≠ n) (hv : ∀ x ∈ gs, V4 x) (h0 : 0 < gs.length) (h63 : gs.length ≤ 100) :
    ∃ d' S', f__law_changed [.ref n, d, .int b, .int e, .ref g] S = .ok d' S' ∧ SV S' d' ∧ RG S.length d' ∧ Ag S n S' := by
  apply ch_fin
  obtain ⟨i, j, lo, hi, rfl⟩ := hd
  have hn := hs.lt
  obtain ⟨r, S1, r1, r2, e1, s1, u1⟩ := draw hs (m := 14) (by omega) (by decide) (by decide +kernel)
  have l1 := u1.len
  have ag1 := u1.ag
  have vv : ∀ a b c d : Int, V4 (.tup [.int a, .int b, .int c, .int d]) := fun a b c d => ⟨_, _, _, _, rfl⟩
  by_cases c12 : r = 12 ∨ r = 13
  · have hw : Src (S1 ++ [.lst [.int i, .int j, .int lo, .int hi]]) n (k + 1) := s1.app
    obtain ⟨d, S2, e2, od, ag2, fr, s2⟩ := odd_ok hw (by omega)
    obtain ⟨q, S3, q1, q2, e3, s3, u3⟩ := draw s2 (m := 4) (by omega) (by decide) (by decide +kernel)
    have hp2 : S2[S1.length]? = some (.lst [.int i, .int j, .int lo, .int hi]) := by
      rw [ag2.2 S1.length (by simp) (by omega)]
      exact last1
    have hp3 : S3[S1.length]? = some (.lst [.int i, .int j, .int lo, .int hi]) := by
      obtain ⟨o, rfl⟩ := u3
      rw [List.getElem?_set_ne (by omega)]
      exact hp2
    have hl2 : S1.length < S2.length := getlt hp2
    obtain ⟨jj, hj, hjl⟩ : ∃ jj, ixN 4 q = some jj ∧ jj < 4 := by
      have : q = 0 ∨ q = 1 ∨ q = 2 ∨ q = 3 := by omega
      rcases this with rfl | rfl | rfl | rfl <;> exact ⟨_, rfl, by decide⟩
    obtain ⟨W, hW⟩ : ∃ W, W = ([D.int i, .int j, .int lo, .int hi] : List D).set jj d := ⟨_, rfl⟩
    obtain ⟨S4, hS4⟩ : ∃ S4, S4 = S3.set S1.length (.lst W) := ⟨_, rfl⟩
    have hp4 : S4[S1.length]? = some (.lst W) := by
      rw [hS4]
      simp [getlt hp3]
    have same : Same (S1.length + 1) S2 S4 := by
      rw [hS4]
      exact (Ch.same u3 (by omega)).trans (.set (by omega))
    have od4 : Odd S4 d := od.same (fun m hm => by have := fr m hm; simp at this; omega) same
    have wm : ∀ x ∈ W, (∃ v, x = .int v) ∨ x = d := fun x hx => by
      rw [hW] at hx
      rcases List.mem_or_eq_of_mem_set hx with z | z
      · simp only [List.mem_cons, List.not_mem_nil, or_false] at z
        rcases z with rfl | rfl | rfl | rfl <;> exact .inl ⟨_, rfl⟩
      · exact .inr z
    refine ⟨.tup W, S4, ?_, .tup (by rw [hW]; simp) fun x hx => ?_, rg_tup fun x hx m e => ?_, ?_⟩
    · have ne0 : ¬ r = 0 := by omega
      have n4 : ¬ r < 4 := by omega
      have n8 : ¬ r < 8 := by omega
      have n11 : ¬ r < 11 := by omega
      have n111 : ¬ r = 11 := by omega
      have gl : gList [.tup [.int i, .int j, .int lo, .int hi]] S1 = .ok (.ref S1.length) (S1 ++ [.lst [.int i, .int j, .int lo, .int hi]]) := rfl
      have gt : gTuple [.ref S1.length] S4 = .ok (.tup W) S4 := gTup (.inr ⟨_, rfl, hp4⟩)
      unfold b__law_changed
      simp only [mSeq, RS.seq, mIfS, mTest, mSet, mRet, mVar, mC, mNil, mCons, Lk.m1, Lk.m2, mB, mAnd, mOr, mNot, mAndT, mOrT, mNotT, mIf, mAsg, mNext, mCall, R.bind, R.bindS, R.nxt, asB, gSub', mTup, mLst, List.getElem?_cons_succ, List.getElem?_cons_zero, List.getElem?_nil, List.set_cons_succ, List.set_cons_zero, List.map_cons, List.map_nil, List.cons_append, List.nil_append, List.length_cons, List.length_nil, List.replicate, Lk.gIx, Lk.gAdd, Lk.gSub, Lk.gMul, Lk.gDiv, Lk.gMod, gInt, gCmp, gNeg, gAbs, gGcd, gLen, List.length_map, Lk.listOf, stIx, if_true, if_false, Bool.false_eq_true, reduceIte, Nat.reduceAdd, Nat.reduceSub, Nat.zero_add, eqz_int, pow1010, pow1018, pow1019, Int.reduceMul, Int.reduceAdd, ix40, ix41, ix42, ix43, at40, at41, at42, at43, and_true, true_and, and_self, ne_eq, not_false_eq_true, decide_true, decide_false, decide_eq_true_eq, Bool.and_true, Bool.true_and, mFor, iSeq, srcOf, vals, forGo_n, forGo_c, gSet, mRaise1, mSetF, setF, lim_le, Nat.reduceLeDiff, Bool.not_false, Bool.not_true, Nat.lt_irrefl, List.length_append, List.append_assoc, e1, gUnpack, gCons', gNil', ne0, n4, n8, n11, n111, gl, e2, e3, hp3, hj, ← hW, ← hS4, gt]
    · rcases wm x hx with ⟨v, rfl⟩ | rfl
      · exact .inl ⟨v, rfl⟩
      · exact .inr od4
    · rcases wm x hx with ⟨v, rfl⟩ | rfl
      · cases e
      · have := fr m e
        simp at this
        omega
    · rw [hS4]
      exact ((ag1.trans (.app S1 n _)).trans (ag2.trans u3.ag)).setf (by omega)
  · have r12 : r < 12 := by omega
    have z3 : (3 : Nat) ≤ lim := by decide
    have z4 : (4 : Nat) ≤ lim := by decide
    by_cases ne0 : r = 0
    · subst ne0
      have hg1 : S1[g]? = some (.lst gs) := by
        obtain ⟨o, rfl⟩ := u1
        rw [List.getElem?_set_ne (by omega)]
        exact hg
      obtain ⟨q, S2, q1, q2, e2, s2, u2⟩ := draw s1 (m := (gs.length : Nat)) (by omega) (by omega) (Nat.lt_trans (bits_small (by omega) (by omega)) (by decide))
      have hg2 : S2[g]? = some (.lst gs) := by
        obtain ⟨o, rfl⟩ := u2
        rw [List.getElem?_set_ne (by omega)]
        exact hg1
      obtain ⟨x, hx, hm⟩ : ∃ x, atI gs q = some x ∧ x ∈ gs := at_mem q1 q2
      refine ⟨x, S2, ?_, (hv x hm).sv, (hv x hm).rg, ag1.trans u2.ag⟩
      have t0 : (decide ((0 : Int) = 0)) = true := rfl
      unfold b__law_changed
      simp only [mSeq, RS.seq, mIfS, mTest, mSet, mRet, mVar, mC, mNil, mCons, Lk.m1, Lk.m2, mB, mAnd, mOr, mNot, mAndT, mOrT, mNotT, mIf, mAsg, mNext, mCall, R.bind, R.bindS, R.nxt, asB, gSub', mTup, mLst, List.getElem?_cons_succ, List.getElem?_cons_zero, List.getElem?_nil, List.set_cons_succ, List.set_cons_zero, List.map_cons, List.map_nil, List.cons_append, List.nil_append, List.length_cons, List.length_nil, List.replicate, Lk.gIx, Lk.gAdd, Lk.gSub, Lk.gMul, Lk.gDiv, Lk.gMod, gInt, gCmp, gNeg, gAbs, gGcd, gLen, List.length_map, Lk.listOf, stIx, if_true, if_false, Bool.false_eq_true, reduceIte, Nat.reduceAdd, Nat.reduceSub, Nat.zero_add, eqz_int, pow1010, pow1018, pow1019, Int.reduceMul, Int.reduceAdd, ix40, ix41, ix42, ix43, at40, at41, at42, at43, and_true, true_and, and_self, ne_eq, not_false_eq_true, decide_true, decide_false, decide_eq_true_eq, Bool.and_true, Bool.true_and, mFor, iSeq, srcOf, vals, forGo_n, forGo_c, gSet, mRaise1, mSetF, setF, lim_le, Nat.reduceLeDiff, Bool.not_false, Bool.not_true, Nat.lt_irrefl, List.length_append, List.append_assoc, e1, gUnpack, gCons', gNil', hg1, e2, hg2, hx, t0]
    · by_cases c4 : r < 4
      · obtain ⟨t, ht, hv4⟩ : ∃ t, atI [.tup [.int i, .int i, .int lo, .int hi], .tup [.int i, .int e, .int lo, .int hi], .tup [.int (-1), .int j, .int lo, .int hi]] (r - 1) = some t ∧ V4 t := by
          have : r = 1 ∨ r = 2 ∨ r = 3 := by omega
          rcases this with rfl | rfl | rfl <;> exact ⟨_, rfl, vv _ _ _ _⟩
        refine ⟨t, S1 ++ [.lst [.tup [.int i, .int i, .int lo, .int hi], .tup [.int i, .int e, .int lo, .int hi], .tup [.int (-1), .int j, .int lo, .int hi]]], ?_, hv4.sv, hv4.rg, ag1.trans (.app S1 n _)⟩
        unfold b__law_changed
        simp only [mSeq, RS.seq, mIfS, mTest, mSet, mRet, mVar, mC, mNil, mCons, Lk.m1, Lk.m2, mB, mAnd, mOr, mNot, mAndT, mOrT, mNotT, mIf, mAsg, mNext, mCall, R.bind, R.bindS, R.nxt, asB, gSub', mTup, mLst, List.getElem?_cons_succ, List.getElem?_cons_zero, List.getElem?_nil, List.set_cons_succ, List.set_cons_zero, List.map_cons, List.map_nil, List.cons_append, List.nil_append, List.length_cons, List.length_nil, List.replicate, Lk.gIx, Lk.gAdd, Lk.gSub, Lk.gMul, Lk.gDiv, Lk.gMod, gInt, gCmp, gNeg, gAbs, gGcd, gLen, List.length_map, Lk.listOf, stIx, if_true, if_false, Bool.false_eq_true, reduceIte, Nat.reduceAdd, Nat.reduceSub, Nat.zero_add, eqz_int, pow1010, pow1018, pow1019, Int.reduceMul, Int.reduceAdd, ix40, ix41, ix42, ix43, at40, at41, at42, at43, and_true, true_and, and_self, ne_eq, not_false_eq_true, decide_true, decide_false, decide_eq_true_eq, Bool.and_true, Bool.true_and, mFor, iSeq, srcOf, vals, forGo_n, forGo_c, gSet, mRaise1, mSetF, setF, lim_le, Nat.reduceLeDiff, Bool.not_false, Bool.not_true, Nat.lt_irrefl, List.length_append, List.append_assoc, e1, gUnpack, gCons', gNil', ne0, c4, z3, last1, ht]
      · by_cases c8 : r < 8
        · obtain ⟨t, ht, hv4⟩ : ∃ t, atI [.tup [.int i, .int j, .int (hi + 1), .int hi], .tup [.int i, .int j, .int lo, .int 2881], .tup [.int i, .int j, .int (-1), .int lo], .tup [.int i, .int j, .int 0, .int (b - 1)]] (r - 4) = some t ∧ V4 t := by
            have : r = 4 ∨ r = 5 ∨ r = 6 ∨ r = 7 := by omega
            rcases this with rfl | rfl | rfl | rfl <;> exact ⟨_, rfl, vv _ _ _ _⟩
          refine ⟨t, S1 ++ [.lst [.tup [.int i, .int j, .int (hi + 1), .int hi], .tup [.int i, .int j, .int lo, .int 2881], .tup [.int i, .int j, .int (-1), .int lo], .tup [.int i, .int j, .int 0, .int (b - 1)]]], ?_, hv4.sv, hv4.rg, ag1.trans (.app S1 n _)⟩
          unfold b__law_changed
          simp only [mSeq, RS.seq, mIfS, mTest, mSet, mRet, mVar, mC, mNil, mCons, Lk.m1, Lk.m2, mB, mAnd, mOr, mNot, mAndT, mOrT, mNotT, mIf, mAsg, mNext, mCall, R.bind, R.bindS, R.nxt, asB, gSub', mTup, mLst, List.getElem?_cons_succ, List.getElem?_cons_zero, List.getElem?_nil, List.set_cons_succ, List.set_cons_zero, List.map_cons, List.map_nil, List.cons_append, List.nil_append, List.length_cons, List.length_nil, List.replicate, Lk.gIx, Lk.gAdd, Lk.gSub, Lk.gMul, Lk.gDiv, Lk.gMod, gInt, gCmp, gNeg, gAbs, gGcd, gLen, List.length_map, Lk.listOf, stIx, if_true, if_false, Bool.false_eq_true, reduceIte, Nat.reduceAdd, Nat.reduceSub, Nat.zero_add, eqz_int, pow1010, pow1018, pow1019, Int.reduceMul, Int.reduceAdd, ix40, ix41, ix42, ix43, at40, at41, at42, at43, and_true, true_and, and_self, ne_eq, not_false_eq_true, decide_true, decide_false, decide_eq_true_eq, Bool.and_true, Bool.true_and, mFor, iSeq, srcOf, vals, forGo_n, forGo_c, gSet, mRaise1, mSetF, setF, lim_le, Nat.reduceLeDiff, Bool.not_false, Bool.not_true, Nat.lt_irrefl, List.length_append, List.append_assoc, e1, gUnpack, gCons', gNil', ne0, c4, c8, z4, last1, ht]
        · by_cases c11 : r < 11
          · obtain ⟨P, hP⟩ : ∃ P : Store, P = S1 ++ [.lst [.int i, .int j, .int lo, .int hi]] := ⟨_, rfl⟩
            obtain ⟨t, ht, hsv, hrg⟩ : ∃ t, atI [.tup [.int i, .int j, .int lo], .tup [.int i, .int j, .int lo, .int hi, .int 0], .ref S1.length] (r - 8) = some t ∧ (∀ T : Store, SV (P ++ T) t) ∧ RG S.length t := by
              have : r = 8 ∨ r = 9 ∨ r = 10 := by omega
              rcases this with rfl | rfl | rfl
              · exact ⟨_, rfl, fun T => .tup (by simp) (by simp [Pt]), rg_tup (by simp)⟩
              · exact ⟨_, rfl, fun T => .tup (by simp) (by simp [Pt]), rg_tup (by simp)⟩
              · exact ⟨_, rfl, fun T => .lst (by rw [List.getElem?_append_left (by rw [hP]; simp), hP]; exact last1), fun m h => by cases h; omega, fun xs h => by cases h⟩
            refine ⟨t, P ++ [.lst [.tup [.int i, .int j, .int lo], .tup [.int i, .int j, .int lo, .int hi, .int 0], .ref S1.length]], ?_, hsv _, hrg, (ag1.trans (by rw [hP]; exact .app S1 n _)).trans (.app P n _)⟩
            unfold b__law_changed
            simp only [mSeq, RS.seq, mIfS, mTest, mSet, mRet, mVar, mC, mNil, mCons, Lk.m1, Lk.m2, mB, mAnd, mOr, mNot, mAndT, mOrT, mNotT, mIf, mAsg, mNext, mCall, R.bind, R.bindS, R.nxt, asB, gSub', mTup, mLst, List.getElem?_cons_succ, List.getElem?_cons_zero, List.getElem?_nil, List.set_cons_succ, List.set_cons_zero, List.map_cons, List.map_nil, List.cons_append, List.nil_append, List.length_cons, List.length_nil, List.replicate, Lk.gIx, Lk.gAdd, Lk.gSub, Lk.gMul, Lk.gDiv, Lk.gMod, gInt, gCmp, gNeg, gAbs, gGcd, gLen, List.length_map, Lk.listOf, stIx, if_true, if_false, Bool.false_eq_true, reduceIte, Nat.reduceAdd, Nat.reduceSub, Nat.zero_add, eqz_int, pow1010, pow1018, pow1019, Int.reduceMul, Int.reduceAdd, ix40, ix41, ix42, ix43, at40, at41, at42, at43, and_true, true_and, and_self, ne_eq, not_false_eq_true, decide_true, decide_false, decide_eq_true_eq, Bool.and_true, Bool.true_and, mFor, iSeq, srcOf, vals, forGo_n, forGo_c, gSet, mRaise1, mSetF, setF, lim_le, Nat.reduceLeDiff, Bool.not_false, Bool.not_true, Nat.lt_irrefl, List.length_append, List.append_assoc, e1, gUnpack, gCons', gNil', ne0, c4, c8, c11, z3, z4, ← hP, last1, ht]
          · have c111 : r = 11 := by omega
            have t11 : (decide (r = 11)) = true := decide_eq_true c111
            obtain ⟨x, S2, e2, od, ag2, fr, s2⟩ := odd_ok s1 (by omega)
            refine ⟨x, S2, ?_, .odd od, ⟨fun m h => by have := fr m h; omega, fun xs h y hy m em => ?_⟩, ag1.trans ag2⟩
            · unfold b__law_changed
              simp only [mSeq, RS.seq, mIfS, mTest, mSet, mRet, mVar, mC, mNil, mCons, Lk.m1, Lk.m2, mB, mAnd, mOr, mNot, mAndT, mOrT, mNotT, mIf, mAsg, mNext, mCall, R.bind, R.bindS, R.nxt, asB, gSub', mTup, mLst, List.getElem?_cons_succ, List.getElem?_cons_zero, List.getElem?_nil, List.set_cons_succ, List.set_cons_zero, List.map_cons, List.map_nil, List.cons_append, List.nil_append, List.length_cons, List.length_nil, List.replicate, Lk.gIx, Lk.gAdd, Lk.gSub, Lk.gMul, Lk.gDiv, Lk.gMod, gInt, gCmp, gNeg, gAbs, gGcd, gLen, List.length_map, Lk.listOf, stIx, if_true, if_false, Bool.false_eq_true, reduceIte, Nat.reduceAdd, Nat.reduceSub, Nat.zero_add, eqz_int, pow1010, pow1018, pow1019, Int.reduceMul, Int.reduceAdd, ix40, ix41, ix42, ix43, at40, at41, at42, at43, and_true, true_and, and_self, ne_eq, not_false_eq_true, decide_true, decide_false, decide_eq_true_eq, Bool.and_true, Bool.true_and, mFor, iSeq, srcOf, vals, forGo_n, forGo_c, gSet, mRaise1, mSetF, setF, lim_le, Nat.reduceLeDiff, Bool.not_false, Bool.not_true, Nat.lt_irrefl, List.length_append, List.append_assoc, e1, gUnpack, gCons', gNil', ne0, c4, c8, c11, t11, e2]
            · subst h
              cases od with
              | t0 => cases hy
              | t1 => simp at hy; subst hy; cases em
end Mi_k02

set_option linter.all false
set_option autoImplicit false
set_option maxRecDepth 100000
set_option maxHeartbeats 4000000
namespace Mi_k02
open PySem Lk L2
noncomputable def qe1 : MS := (mIfS (mOrT (mNotT (mTest (m2 (gEqZ cs oe) (mVar 0) (mMake "Net" 4 f_Net___init__ (mCons (mVar 1) (mCons (mVar 2) (mCons (mB gTuple (mCons (mVar 3) mNil)) mNil))))))) (mTest (m2 (gNeX oe) (mVar 0) (mMake "Net" 4 f_Net___init__ (mCons (mVar 1) (mCons (mVar 2) (mCons (mB gList (mCons (mVar 3) mNil)) mNil))))))) (mRet (mC (.bl false))) mNext)
noncomputable def qe2 : MS := (mIfS (mOrT (mAndT (mTest (m2 (gCmp fun i j => decide (i < j)) (mVar 1) (mC (.int 1440)))) (mTest (m2 (gEqZ cs oe) (mVar 0) (mMake "Net" 4 f_Net___init__ (mCons (m2 Lk.gAdd (mVar 1) (mC (.int 1))) (mCons (mVar 2) (mCons (mVar 3) mNil))))))) (mAndT (mTest (m2 (gCmp fun i j => decide (i < j)) (mVar 2) (mC (.int 24)))) (mTest (m2 (gEqZ cs oe) (mVar 0) (mMake "Net" 4 f_Net___init__ (mCons (mVar 1) (mCons (m2 Lk.gAdd (mVar 2) (mC (.int 1))) (mCons (mVar 3) mNil)))))))) (mRet (mC (.bl false))) mNext)
noncomputable def qe3 : MS := (mIfS (mAndT (mTest (m2 (gCmp fun i j => decide (j < i)) (mB gLen (mCons (mVar 3) mNil)) (mC (.int 0)))) (mTest (m2 (gEqZ cs oe) (mVar 0) (mMake "Net" 4 f_Net___init__ (mCons (mVar 1) (mCons (mVar 2) (mCons (mSl (mVar 3) (some (mC (.int 1))) none) mNil))))))) (mRet (mC (.bl false))) mNext)
noncomputable def qe4 : MS := (mIfS (mAndT (mTest (m2 (gCmp fun i j => decide (j < i)) (mB gLen (mCons (mVar 3) mNil)) (mC (.int 1)))) (mTest (m2 (gEqZ cs oe) (mVar 0) (mMake "Net" 4 f_Net___init__ (mCons (mVar 1) (mCons (mVar 2) (mCons (m2 Lk.gAdd (mSl (mVar 3) (some (mC (.int 1))) none) (mSl (mVar 3) none (some (mC (.int 1))))) mNil))))))) (mRet (mC (.bl false))) mNext)
noncomputable def qe5 : MS := (mIfS (mTest (m2 (gCmp fun i j => decide (j < i)) (mB gLen (mCons (mVar 3) mNil)) (mC (.int 0)))) (mSeq (mSet 4 (m2 Lk.gAdd (mSl (m2 gIx (mVar 3) (m1 gNeg (mC (.int 1)))) none (some (mC (.int 3)))) (mTup (mCons (m2 gIx (m2 gIx (mVar 3) (m1 gNeg (mC (.int 1)))) (mC (.int 2))) mNil))))
  (mIfS (mAndT (mTest (m2 (gInZ true) (mVar 4) (mVar 3))) (mTest (m2 (gEqZ cs oe) (mVar 0) (mMake "Net" 4 f_Net___init__ (mCons (mVar 1) (mCons (mVar 2) (mCons (m2 Lk.gAdd (mSl (mVar 3) none (some (m1 gNeg (mC (.int 1))))) (mLst (mCons (mVar 4) mNil))) mNil))))))) (mRet (mC (.bl false))) mNext)) mNext)
noncomputable def qe6 : MS := (mRet (mNot (mOr (m2 (gEqZ cs oe) (mVar 0) (mTup (mCons (mVar 1) (mCons (mVar 2) (mCons (mB gTuple (mCons (mVar 3) mNil)) mNil))))) (mOr (m2 (gEqZ cs oe) (mVar 0) (mVar 1)) (m2 gIsN (mVar 0) (mC .non))))))
theorem qe_eq : b__law_equal_right = mSeq qe1 (mSeq qe2 (mSeq qe3 (mSeq qe4 (mSeq qe5 qe6)))) := rfl
def OKr (b e : Int) (ds : List D) : Prop := (∀ x ∈ ds, spanB b e x = true) ∧ ds.Nodup ∧ ds.length ≤ 60
theorem OKr.v4 {b e : Int} {ds : List D} (h : OKr b e ds) : ∀ x ∈ ds, V4 x := fun x hx => spanB_v4 (h.1 x hx)
theorem OKr.flt {b e : Int} {ds : List D} (h : OKr b e ds) : fault b e [] 0 ds = none := (fault_none ds [] 0 (by simp)).mpr ⟨h.1, h.2.1, by simp⟩
theorem spanB_mono {b e b' e' : Int} {d : D} (h : spanB b e d = true) (hb : b ≤ b') (he : e ≤ e') : spanB b' e' d = true := by
  obtain ⟨i, j, lo, hi, rfl⟩ := spanB_v4 h
  simp only [spanB, decide_eq_true_eq] at h ⊢
  omega
theorem OKr.mono {b e b' e' : Int} {ds : List D} (h : OKr b e ds) (hb : b ≤ b') (he : e ≤ e') : OKr b' e' ds := ⟨fun x hx => spanB_mono (h.1 x hx) hb he, h.2⟩
theorem netg {S : Store} {th : D} {ds : List D} {b e : Int} (hb : 3 ≤ b ∧ b ≤ 1440) (he : 1 ≤ e ∧ e ≤ 24) (h : Row S th ds) (o : OKr b e ds) : mkOf "Net" f_Net___init__ [.int b, .int e, th] S = .ok (net b e ds) S :=
  net_good hb he h (fun x hx => (o.v4 x hx).sv) o.v4 (by have := o.2.2; omega) o.flt
theorem eqRow_self {ds : List D} (h : ∀ x ∈ ds, V4 x) : eqRow ds ds = true := (eqRow_iff h h).mpr rfl
theorem eqRow_no {xs ys : List D} (h : ∀ x ∈ xs, V4 x) (h' : ∀ x ∈ ys, V4 x) (n : xs ≠ ys) : eqRow xs ys = false := eq_false_of_ne_true fun z => n ((eqRow_iff h h').mp z)
theorem qe1_ok {S : Store} {p : Nat} {b e : Int} {ds : List D} (hb : 3 ≤ b ∧ b ≤ 1440) (he : 1 ≤ e ∧ e ≤ 24) (hp : S[p]? = some (.lst ds)) (o : OKr b e ds) :
    ∃ T, qe1 [some (net b e ds), some (.int b), some (.int e), some (.ref p), none] S = .nx [some (net b e ds), some (.int b), some (.int e), some (.ref p), none] (S ++ T) := by
  have gt : gTuple [.ref p] S = .ok (.tup ds) S := gTup (.inr ⟨p, rfl, hp⟩)
  have gl : gList [.ref p] S = .ok (.ref S.length) (S ++ [.lst ds]) := by
    unfold gList
    simp [Lk.listOf, hp]
  have n1 := netg hb he (S := S) (.inl rfl) o
  have n2 := netg hb he (S := S ++ [.lst ds]) (.inr ⟨S.length, rfl, last1⟩) o
  have g1 := gz_net (S := S) (b := b) (e := e) (b' := b) (e' := e) o.v4 o.v4
  have g2 := gn_net (S := S ++ [.lst ds]) (b := b) (e := e) (b' := b) (e' := e) o.v4 o.v4
  rw [eqRow_self o.v4, decide_eq_true rfl, decide_eq_true rfl] at g1 g2
  simp only [Bool.and_self, Bool.not_true] at g1 g2
  refine ⟨[.lst ds], ?_⟩
  unfold qe1
  simp only [mSeq, RS.seq, mIfS, mTest, mSet, mRet, mVar, mC, mNil, mCons, Lk.m1, Lk.m2, mB, mAnd, mOr, mNot, mAndT, mOrT, mNotT, mIf, mAsg, mNext, mCall, R.bind, R.bindS, R.nxt, asB, gSub', mTup, mLst, List.getElem?_cons_succ, List.getElem?_cons_zero, List.getElem?_nil, List.set_cons_succ, List.set_cons_zero, List.map_cons, List.map_nil, List.cons_append, List.nil_append, List.length_cons, List.length_nil, List.replicate, Lk.gIx, Lk.gAdd, Lk.gSub, Lk.gMul, Lk.gDiv, Lk.gMod, gInt, gCmp, gNeg, gAbs, gGcd, gLen, List.length_map, Lk.listOf, stIx, if_true, if_false, Bool.false_eq_true, reduceIte, Nat.reduceAdd, Nat.reduceSub, Nat.zero_add, eqz_int, pow1010, pow1018, pow1019, Int.reduceMul, Int.reduceAdd, ix40, ix41, ix42, ix43, at40, at41, at42, at43, and_true, true_and, and_self, ne_eq, not_false_eq_true, decide_true, decide_false, decide_eq_true_eq, Bool.and_true, Bool.true_and, mFor, iSeq, srcOf, vals, forGo_n, forGo_c, gSet, mRaise1, mSetF, setF, lim_le, Nat.reduceLeDiff, Bool.not_false, Bool.not_true, Nat.lt_irrefl, List.length_append, List.append_assoc, gt, gl, mMake, n1, n2, g1, g2]
theorem qe2_ok {S : Store} {p : Nat} {b e : Int} {ds : List D} (hb : 3 ≤ b ∧ b ≤ 1440) (he : 1 ≤ e ∧ e ≤ 24) (hp : S[p]? = some (.lst ds)) (o : OKr b e ds) :
    qe2 [some (net b e ds), some (.int b), some (.int e), some (.ref p), none] S = .nx [some (net b e ds), some (.int b), some (.int e), some (.ref p), none] S := by
  have r : Row S (.ref p) ds := .inr ⟨p, rfl, hp⟩
  have g1 := gz_net (S := S) (b := b) (e := e) (b' := b + 1) (e' := e) o.v4 o.v4
  have g2 := gz_net (S := S) (b := b) (e := e) (b' := b) (e' := e + 1) o.v4 o.v4
  rw [decide_eq_false (show ¬ b = b + 1 by omega), Bool.false_and] at g1
  rw [decide_eq_false (show ¬ e = e + 1 by omega), Bool.false_and, Bool.and_false] at g2
  unfold qe2
  by_cases c1 : b < 1440
  · have n1 := netg (b := b + 1) (e := e) (by omega) he r (o.mono (by omega) (by omega))
    by_cases c2 : e < 24
    · have n2 := netg (b := b) (e := e + 1) hb (by omega) r (o.mono (by omega) (by omega))
      simp only [mSeq, RS.seq, mIfS, mTest, mSet, mRet, mVar, mC, mNil, mCons, Lk.m1, Lk.m2, mB, mAnd, mOr, mNot, mAndT, mOrT, mNotT, mIf, mAsg, mNext, mCall, R.bind, R.bindS, R.nxt, asB, gSub', mTup, mLst, List.getElem?_cons_succ, List.getElem?_cons_zero, List.getElem?_nil, List.set_cons_succ, List.set_cons_zero, List.map_cons, List.map_nil, List.cons_append, List.nil_append, List.length_cons, List.length_nil, List.replicate, Lk.gIx, Lk.gAdd, Lk.gSub, Lk.gMul, Lk.gDiv, Lk.gMod, gInt, gCmp, gNeg, gAbs, gGcd, gLen, List.length_map, Lk.listOf, stIx, if_true, if_false, Bool.false_eq_true, reduceIte, Nat.reduceAdd, Nat.reduceSub, Nat.zero_add, eqz_int, pow1010, pow1018, pow1019, Int.reduceMul, Int.reduceAdd, ix40, ix41, ix42, ix43, at40, at41, at42, at43, and_true, true_and, and_self, ne_eq, not_false_eq_true, decide_true, decide_false, decide_eq_true_eq, Bool.and_true, Bool.true_and, mFor, iSeq, srcOf, vals, forGo_n, forGo_c, gSet, mRaise1, mSetF, setF, lim_le, Nat.reduceLeDiff, Bool.not_false, Bool.not_true, Nat.lt_irrefl, List.length_append, List.append_assoc, mMake, n1, n2, g1, g2, c1, c2]
    · simp only [mSeq, RS.seq, mIfS, mTest, mSet, mRet, mVar, mC, mNil, mCons, Lk.m1, Lk.m2, mB, mAnd, mOr, mNot, mAndT, mOrT, mNotT, mIf, mAsg, mNext, mCall, R.bind, R.bindS, R.nxt, asB, gSub', mTup, mLst, List.getElem?_cons_succ, List.getElem?_cons_zero, List.getElem?_nil, List.set_cons_succ, List.set_cons_zero, List.map_cons, List.map_nil, List.cons_append, List.nil_append, List.length_cons, List.length_nil, List.replicate, Lk.gIx, Lk.gAdd, Lk.gSub, Lk.gMul, Lk.gDiv, Lk.gMod, gInt, gCmp, gNeg, gAbs, gGcd, gLen, List.length_map, Lk.listOf, stIx, if_true, if_false, Bool.false_eq_true, reduceIte, Nat.reduceAdd, Nat.reduceSub, Nat.zero_add, eqz_int, pow1010, pow1018, pow1019, Int.reduceMul, Int.reduceAdd, ix40, ix41, ix42, ix43, at40, at41, at42, at43, and_true, true_and, and_self, ne_eq, not_false_eq_true, decide_true, decide_false, decide_eq_true_eq, Bool.and_true, Bool.true_and, mFor, iSeq, srcOf, vals, forGo_n, forGo_c, gSet, mRaise1, mSetF, setF, lim_le, Nat.reduceLeDiff, Bool.not_false, Bool.not_true, Nat.lt_irrefl, List.length_append, List.append_assoc, mMake, n1, g1, c1, c2]
  · by_cases c2 : e < 24
    · have n2 := netg (b := b) (e := e + 1) hb (by omega) r (o.mono (by omega) (by omega))
      simp only [mSeq, RS.seq, mIfS, mTest, mSet, mRet, mVar, mC, mNil, mCons, Lk.m1, Lk.m2, mB, mAnd, mOr, mNot, mAndT, mOrT, mNotT, mIf, mAsg, mNext, mCall, R.bind, R.bindS, R.nxt, asB, gSub', mTup, mLst, List.getElem?_cons_succ, List.getElem?_cons_zero, List.getElem?_nil, List.set_cons_succ, List.set_cons_zero, List.map_cons, List.map_nil, List.cons_append, List.nil_append, List.length_cons, List.length_nil, List.replicate, Lk.gIx, Lk.gAdd, Lk.gSub, Lk.gMul, Lk.gDiv, Lk.gMod, gInt, gCmp, gNeg, gAbs, gGcd, gLen, List.length_map, Lk.listOf, stIx, if_true, if_false, Bool.false_eq_true, reduceIte, Nat.reduceAdd, Nat.reduceSub, Nat.zero_add, eqz_int, pow1010, pow1018, pow1019, Int.reduceMul, Int.reduceAdd, ix40, ix41, ix42, ix43, at40, at41, at42, at43, and_true, true_and, and_self, ne_eq, not_false_eq_true, decide_true, decide_false, decide_eq_true_eq, Bool.and_true, Bool.true_and, mFor, iSeq, srcOf, vals, forGo_n, forGo_c, gSet, mRaise1, mSetF, setF, lim_le, Nat.reduceLeDiff, Bool.not_false, Bool.not_true, Nat.lt_irrefl, List.length_append, List.append_assoc, mMake, n2, g2, c1, c2]
    · simp only [mSeq, RS.seq, mIfS, mTest, mSet, mRet, mVar, mC, mNil, mCons, Lk.m1, Lk.m2, mB, mAnd, mOr, mNot, mAndT, mOrT, mNotT, mIf, mAsg, mNext, mCall, R.bind, R.bindS, R.nxt, asB, gSub', mTup, mLst, List.getElem?_cons_succ, List.getElem?_cons_zero, List.getElem?_nil, List.set_cons_succ, List.set_cons_zero, List.map_cons, List.map_nil, List.cons_append, List.nil_append, List.length_cons, List.length_nil, List.replicate, Lk.gIx, Lk.gAdd, Lk.gSub, Lk.gMul, Lk.gDiv, Lk.gMod, gInt, gCmp, gNeg, gAbs, gGcd, gLen, List.length_map, Lk.listOf, stIx, if_true, if_false, Bool.false_eq_true, reduceIte, Nat.reduceAdd, Nat.reduceSub, Nat.zero_add, eqz_int, pow1010, pow1018, pow1019, Int.reduceMul, Int.reduceAdd, ix40, ix41, ix42, ix43, at40, at41, at42, at43, and_true, true_and, and_self, ne_eq, not_false_eq_true, decide_true, decide_false, decide_eq_true_eq, Bool.and_true, Bool.true_and, mFor, iSeq, srcOf, vals, forGo_n, forGo_c, gSet, mRaise1, mSetF, setF, lim_le, Nat.reduceLeDiff, Bool.not_false, Bool.not_true, Nat.lt_irrefl, List.length_append, List.append_assoc, c1, c2]
theorem cut1 {d : D} {ds : List D} : cutD (d :: ds) (some 1) none = ds := by
  have e : HT.sIx (d :: ds).length 0 (some 1) = 1 := by
    have := HT.sIx_nat (d :: ds).length 0 1
    rw [show (some ((1 : Nat) : Int)) = some (1 : Int) from rfl] at this
    rw [this]
    simp
  unfold cutD
  rw [e, HT.sIx_none]
  simp
theorem cut01 {d : D} {ds : List D} : cutD (d :: ds) none (some 1) = [d] := by
  have e : HT.sIx (d :: ds).length (d :: ds).length (some 1) = 1 := by
    have := HT.sIx_nat (d :: ds).length (d :: ds).length 1
    rw [show (some ((1 : Nat) : Int)) = some (1 : Int) from rfl] at this
    rw [this]
    simp
  unfold cutD
  rw [e, HT.sIx_none]
  simp
theorem qe3_ok {S : Store} {p : Nat} {b e : Int} {ds : List D} (hb : 3 ≤ b ∧ b ≤ 1440) (he : 1 ≤ e ∧ e ≤ 24) (hp : S[p]? = some (.lst ds)) (o : OKr b e ds) :
    ∃ T, qe3 [some (net b e ds), some (.int b), some (.int e), some (.ref p), none] S = .nx [some (net b e ds), some (.int b), some (.int e), some (.ref p), none] (S ++ T) := by
  cases ds with
  | nil =>
    refine ⟨[], ?_⟩
    have c : ¬ (0 : Int) < ((0 : Nat) : Int) := by decide
    unfold qe3
    simp only [mSeq, RS.seq, mIfS, mTest, mSet, mRet, mVar, mC, mNil, mCons, Lk.m1, Lk.m2, mB, mAnd, mOr, mNot, mAndT, mOrT, mNotT, mIf, mAsg, mNext, mCall, R.bind, R.bindS, R.nxt, asB, gSub', mTup, mLst, List.getElem?_cons_succ, List.getElem?_cons_zero, List.getElem?_nil, List.set_cons_succ, List.set_cons_zero, List.map_cons, List.map_nil, List.cons_append, List.nil_append, List.length_cons, List.length_nil, List.replicate, Lk.gIx, Lk.gAdd, Lk.gSub, Lk.gMul, Lk.gDiv, Lk.gMod, gInt, gCmp, gNeg, gAbs, gGcd, gLen, List.length_map, Lk.listOf, stIx, if_true, if_false, Bool.false_eq_true, reduceIte, Nat.reduceAdd, Nat.reduceSub, Nat.zero_add, eqz_int, pow1010, pow1018, pow1019, Int.reduceMul, Int.reduceAdd, ix40, ix41, ix42, ix43, at40, at41, at42, at43, and_true, true_and, and_self, ne_eq, not_false_eq_true, decide_true, decide_false, decide_eq_true_eq, Bool.and_true, Bool.true_and, mFor, iSeq, srcOf, vals, forGo_n, forGo_c, gSet, mRaise1, mSetF, setF, lim_le, Nat.reduceLeDiff, Bool.not_false, Bool.not_true, Nat.lt_irrefl, List.length_append, List.append_assoc, hp, c, List.append_nil]
  | cons d ds =>
    have c : (0 : Int) < ((d :: ds).length : Nat) := by simp only [List.length_cons]; omega
    have o2 : OKr b e ds := ⟨fun x hx => o.1 x (List.mem_cons_of_mem _ hx), (List.nodup_cons.mp o.2.1).2, by have := o.2.2; simp at this; omega⟩
    have n1 := netg hb he (S := S ++ [.lst ds]) (.inr ⟨S.length, rfl, last1⟩) o2
    have g1 := gz_net (S := S ++ [.lst ds]) (b := b) (e := e) (b' := b) (e' := e) o.v4 o2.v4
    rw [eqRow_no o.v4 o2.v4 (fun z => by have := congrArg List.length z; simp at this), Bool.and_false, Bool.and_false] at g1
    have sl : mSl (mVar 3) (some (mC (.int 1))) none [some (net b e (d :: ds)), some (.int b), some (.int e), some (.ref p), none] S = .ok (.ref S.length) (S ++ [.lst ds]) := by
      simp [mSl, toO, mVar, mC, R.bind, gSl, Lk.listOf, hp, cut1]
    refine ⟨[.lst ds], ?_⟩
    generalize hL : ((d :: ds).length : Nat) = L at c
    unfold qe3
    simp only [mSeq, RS.seq, mIfS, mTest, mSet, mRet, mVar, mC, mNil, mCons, Lk.m1, Lk.m2, mB, mAnd, mOr, mNot, mAndT, mOrT, mNotT, mIf, mAsg, mNext, mCall, R.bind, R.bindS, R.nxt, asB, gSub', mTup, mLst, List.getElem?_cons_succ, List.getElem?_cons_zero, List.getElem?_nil, List.set_cons_succ, List.set_cons_zero, List.map_cons, List.map_nil, List.cons_append, List.nil_append, List.length_cons, List.length_nil, List.replicate, Lk.gIx, Lk.gAdd, Lk.gSub, Lk.gMul, Lk.gDiv, Lk.gMod, gInt, gCmp, gNeg, gAbs, gGcd, gLen, List.length_map, Lk.listOf, stIx, if_true, if_false, Bool.false_eq_true, reduceIte, Nat.reduceAdd, Nat.reduceSub, Nat.zero_add, eqz_int, pow1010, pow1018, pow1019, Int.reduceMul, Int.reduceAdd, ix40, ix41, ix42, ix43, at40, at41, at42, at43, and_true, true_and, and_self, ne_eq, not_false_eq_true, decide_true, decide_false, decide_eq_true_eq, Bool.and_true, Bool.true_and, mFor, iSeq, srcOf, vals, forGo_n, forGo_c, gSet, mRaise1, mSetF, setF, lim_le, Nat.reduceLeDiff, Bool.not_false, Bool.not_true, Nat.lt_irrefl, List.length_append, List.append_assoc, hp, hL, c, sl, mMake, n1, g1]
theorem qe4_ok {S : Store} {p : Nat} {b e : Int} {ds : List D} (hb : 3 ≤ b ∧ b ≤ 1440) (he : 1 ≤ e ∧ e ≤ 24) (hp : S[p]? = some (.lst ds)) (o : OKr b e ds) :
    ∃ T, qe4 [some (net b e ds), some (.int b), some (.int e), some (.ref p), none] S = .nx [some (net b e ds), some (.int b), some (.int e), some (.ref p), none] (S ++ T) := by
  by_cases c : (1 : Int) < (ds.length : Nat)
  · cases ds with
    | nil => simp at c
    | cons d ds =>
      have hl := o.2.2
      simp only [List.length_cons] at c hl
      obtain ⟨nd1, nd2⟩ := List.nodup_cons.mp o.2.1
      have o2 : OKr b e (ds ++ [d]) := ⟨fun x hx => by
        rcases List.mem_append.mp hx with z | z
        · exact o.1 x (List.mem_cons_of_mem _ z)
        · rw [List.mem_singleton.mp z]; exact o.1 d List.mem_cons_self, List.nodup_append.mpr ⟨nd2, by simp, fun a ha x hx => by
          rw [List.mem_singleton.mp hx]
          intro z
          rw [z] at ha
          exact nd1 ha⟩, by simp; omega⟩
      have ne : d :: ds ≠ ds ++ [d] := fun z => by
        cases ds with
        | nil => simp at c
        | cons a r =>
          simp only [List.cons_append, List.cons.injEq] at z
          exact nd1 (by rw [z.1]; exact List.mem_cons_self)
      have sl1 : mSl (mVar 3) (some (mC (.int 1))) none [some (net b e (d :: ds)), some (.int b), some (.int e), some (.ref p), none] S = .ok (.ref S.length) (S ++ [.lst ds]) := by
        simp [mSl, toO, mVar, mC, R.bind, gSl, Lk.listOf, hp, cut1]
      have hp1 : (S ++ [Ob.lst ds])[p]? = some (.lst (d :: ds)) := by rw [List.getElem?_append_left (getlt hp)]; exact hp
      have sl2 : mSl (mVar 3) none (some (mC (.int 1))) [some (net b e (d :: ds)), some (.int b), some (.int e), some (.ref p), none] (S ++ [.lst ds]) = .ok (.ref (S ++ [Ob.lst ds]).length) (S ++ [.lst ds] ++ [.lst [d]]) := by
        simp [mSl, toO, mVar, mC, R.bind, gSl, Lk.listOf, hp1, cut01]
      have a1 : (S ++ [Ob.lst ds] ++ [Ob.lst [d]])[S.length]? = some (.lst ds) := by
        rw [List.getElem?_append_left (by simp)]
        exact last1
      have a2 : (S ++ [Ob.lst ds] ++ [Ob.lst [d]])[(S ++ [Ob.lst ds]).length]? = some (.lst [d]) := last1
      obtain ⟨Q, hQ⟩ : ∃ Q, Q = S ++ [Ob.lst ds] ++ [Ob.lst [d]] := ⟨_, rfl⟩
      obtain ⟨q, hq⟩ : ∃ q, q = (S ++ [Ob.lst ds]).length := ⟨_, rfl⟩
      rw [← hQ, ← hq] at sl2
      rw [← hQ] at a1
      rw [← hQ, ← hq] at a2
      have ll : ds.length + ([d] : List D).length ≤ lim := by
        have : lim = 16777216 := rfl
        simp
        omega
      have ga : Lk.gAdd (.ref S.length) (.ref q) Q = .ok (.ref Q.length) (Q ++ [.lst (ds ++ [d])]) := by
        simp only [Lk.gAdd, a1, a2]
        rw [if_pos ll]
      have n1 := netg hb he (S := Q ++ [.lst (ds ++ [d])]) (.inr ⟨Q.length, rfl, last1⟩) o2
      have g1 := gz_net (S := Q ++ [.lst (ds ++ [d])]) (b := b) (e := e) (b' := b) (e' := e) o.v4 o2.v4
      rw [eqRow_no o.v4 o2.v4 ne, Bool.and_false, Bool.and_false] at g1
      have md : (m2 Lk.gAdd (mSl (mVar 3) (some (mC (.int 1))) none) (mSl (mVar 3) none (some (mC (.int 1))))) [some (net b e (d :: ds)), some (.int b), some (.int e), some (.ref p), none] S = .ok (.ref Q.length) (Q ++ [.lst (ds ++ [d])]) := by
        simp only [Lk.m2, sl1, sl2, R.bind, ga]
      have gl : gLen [.ref p] S = .ok (.int ((d :: ds).length : Nat)) S := gLenR (.inr ⟨p, rfl, hp⟩)
      have cc : (gCmp fun i j => decide (j < i)) (.int ((d :: ds).length : Nat)) (.int 1) S = .ok (.bl true) S := by
        have : (1 : Int) < ((d :: ds).length : Nat) := by simp only [List.length_cons]; omega
        simp only [gCmp, decide_eq_true this]
      refine ⟨[Ob.lst ds] ++ [Ob.lst [d]] ++ [.lst (ds ++ [d])], ?_⟩
      have eQ : S ++ ([Ob.lst ds] ++ [Ob.lst [d]] ++ [.lst (ds ++ [d])]) = Q ++ [.lst (ds ++ [d])] := by rw [hQ]; simp
      rw [eQ]
      simp only [List.length_cons] at cc
      unfold qe4
      generalize hm : (m2 Lk.gAdd (mSl (mVar 3) (some (mC (.int 1))) none) (mSl (mVar 3) none (some (mC (.int 1))))) = ma at md ⊢
      simp only [mIfS, mAndT, mTest, Lk.m2, mB, mCons, mNil, mVar, mC, R.bind, R.bindS, List.getElem?_cons_succ, List.getElem?_cons_zero, gl, cc, asB, mMake, md, List.length_cons, List.length_nil, Nat.zero_add, Nat.reduceAdd, if_true, n1, g1, Bool.false_eq_true, if_false, mNext]
  · refine ⟨[], ?_⟩
    unfold qe4
    simp only [mSeq, RS.seq, mIfS, mTest, mSet, mRet, mVar, mC, mNil, mCons, Lk.m1, Lk.m2, mB, mAnd, mOr, mNot, mAndT, mOrT, mNotT, mIf, mAsg, mNext, mCall, R.bind, R.bindS, R.nxt, asB, gSub', mTup, mLst, List.getElem?_cons_succ, List.getElem?_cons_zero, List.getElem?_nil, List.set_cons_succ, List.set_cons_zero, List.map_cons, List.map_nil, List.cons_append, List.nil_append, List.length_cons, List.length_nil, List.replicate, Lk.gIx, Lk.gAdd, Lk.gSub, Lk.gMul, Lk.gDiv, Lk.gMod, gInt, gCmp, gNeg, gAbs, gGcd, gLen, List.length_map, Lk.listOf, stIx, if_true, if_false, Bool.false_eq_true, reduceIte, Nat.reduceAdd, Nat.reduceSub, Nat.zero_add, eqz_int, pow1010, pow1018, pow1019, Int.reduceMul, Int.reduceAdd, ix40, ix41, ix42, ix43, at40, at41, at42, at43, and_true, true_and, and_self, ne_eq, not_false_eq_true, decide_true, decide_false, decide_eq_true_eq, Bool.and_true, Bool.true_and, mFor, iSeq, srcOf, vals, forGo_n, forGo_c, gSet, mRaise1, mSetF, setF, lim_le, Nat.reduceLeDiff, Bool.not_false, Bool.not_true, Nat.lt_irrefl, List.length_append, List.append_assoc, hp, c, List.append_nil]
theorem cutm {d : D} {ds : List D} : cutD (ds ++ [d]) none (some (-1)) = ds := by
  have e : HT.sIx (ds ++ [d]).length (ds ++ [d]).length (some (-1)) = ds.length := by
    unfold HT.sIx
    simp
    omega
  unfold cutD
  rw [e, HT.sIx_none]
  simp
theorem atm {d : D} {ds : List D} : atI (ds ++ [d]) (-1) = some d := by
  unfold atI ixN
  simp
  rw [if_pos (by omega), show (-1 + ((ds.length : Int) + 1)).toNat = ds.length by omega]
  simp
theorem cut43 {a b c d : D} : cutD [a, b, c, d] none (some 3) = [a, b, c] := rfl
theorem qe5_ok {S : Store} {p : Nat} {b e : Int} {ds : List D} (hb : 3 ≤ b ∧ b ≤ 1440) (he : 1 ≤ e ∧ e ≤ 24) (hp : S[p]? = some (.lst ds)) (o : OKr b e ds) :
    ∃ T v, qe5 [some (net b e ds), some (.int b), some (.int e), some (.ref p), none] S = .nx [some (net b e ds), some (.int b), some (.int e), some (.ref p), v] (S ++ T) := by
  rcases List.eq_nil_or_concat ds with z | ⟨init, sp, z⟩ <;> (try rw [List.concat_eq_append] at z)
  · subst z
    refine ⟨[], none, ?_⟩
    have c : ¬ (0 : Int) < ((0 : Nat) : Int) := by decide
    unfold qe5
    simp only [mSeq, RS.seq, mIfS, mTest, mSet, mRet, mVar, mC, mNil, mCons, Lk.m1, Lk.m2, mB, mAnd, mOr, mNot, mAndT, mOrT, mNotT, mIf, mAsg, mNext, mCall, R.bind, R.bindS, R.nxt, asB, gSub', mTup, mLst, List.getElem?_cons_succ, List.getElem?_cons_zero, List.getElem?_nil, List.set_cons_succ, List.set_cons_zero, List.map_cons, List.map_nil, List.cons_append, List.nil_append, List.length_cons, List.length_nil, List.replicate, Lk.gIx, Lk.gAdd, Lk.gSub, Lk.gMul, Lk.gDiv, Lk.gMod, gInt, gCmp, gNeg, gAbs, gGcd, gLen, List.length_map, Lk.listOf, stIx, if_true, if_false, Bool.false_eq_true, reduceIte, Nat.reduceAdd, Nat.reduceSub, Nat.zero_add, eqz_int, pow1010, pow1018, pow1019, Int.reduceMul, Int.reduceAdd, ix40, ix41, ix42, ix43, at40, at41, at42, at43, and_true, true_and, and_self, ne_eq, not_false_eq_true, decide_true, decide_false, decide_eq_true_eq, Bool.and_true, Bool.true_and, mFor, iSeq, srcOf, vals, forGo_n, forGo_c, gSet, mRaise1, mSetF, setF, lim_le, Nat.reduceLeDiff, Bool.not_false, Bool.not_true, Nat.lt_irrefl, List.length_append, List.append_assoc, hp, c, List.append_nil]
  · have hmem : sp ∈ ds := by rw [z]; simp
    obtain ⟨i, j, lo, hi, rfl⟩ := o.v4 sp hmem
    obtain ⟨o4, h4⟩ : ∃ o4 : D, o4 = .tup [.int i, .int j, .int lo, .int lo] := ⟨_, rfl⟩
    have v4 : V4 o4 := ⟨_, _, _, _, h4⟩
    have sb4 : spanB b e o4 = true := by
      have := o.1 _ hmem
      rw [h4]
      simp only [spanB, decide_eq_true_eq] at this ⊢
      omega
    have gl : gLen [.ref p] S = .ok (.int (ds.length : Nat)) S := gLenR (.inr ⟨p, rfl, hp⟩)
    have lpos : (0 : Int) < (ds.length : Nat) := by rw [z, List.length_append]; simp only [List.length_cons]; omega
    have cc : (gCmp fun i j => decide (j < i)) (.int (ds.length : Nat)) (.int 0) S = .ok (.bl true) S := by
      simp only [gCmp, decide_eq_true lpos]
    have ixm : Lk.gIx (.ref p) (.int (-1)) S = .ok (.tup [.int i, .int j, .int lo, .int hi]) S := by
      simp only [Lk.gIx, Lk.listOf, hp]
      rw [z, atm]
    have ixn : (m2 gIx (mVar 3) (m1 gNeg (mC (.int 1)))) [some (net b e ds), some (.int b), some (.int e), some (.ref p), none] S = .ok (.tup [.int i, .int j, .int lo, .int hi]) S := by
      simp only [Lk.m2, Lk.m1, mVar, mC, R.bind, gNeg, List.getElem?_cons_succ, List.getElem?_cons_zero]
      exact ixm
    have sl3 : mSl (m2 gIx (mVar 3) (m1 gNeg (mC (.int 1)))) none (some (mC (.int 3))) [some (net b e ds), some (.int b), some (.int e), some (.ref p), none] S = .ok (.tup [.int i, .int j, .int lo]) S := by
      unfold mSl
      rw [ixn]
      simp only [toO, mC, R.bind, gSl, Lk.listOf, cut43]
    have s4 : (m2 Lk.gAdd (mSl (m2 gIx (mVar 3) (m1 gNeg (mC (.int 1)))) none (some (mC (.int 3)))) (mTup (mCons (m2 gIx (m2 gIx (mVar 3) (m1 gNeg (mC (.int 1)))) (mC (.int 2))) mNil))) [some (net b e ds), some (.int b), some (.int e), some (.ref p), none] S = .ok o4 S := by
      have i2 : (m2 gIx (m2 gIx (mVar 3) (m1 gNeg (mC (.int 1)))) (mC (.int 2))) [some (net b e ds), some (.int b), some (.int e), some (.ref p), none] S = .ok (.int lo) S := by
        rw [Lk.m2, ixn]
        simp only [R.bind, mC, Lk.gIx, Lk.listOf, at42]
      rw [Lk.m2, sl3]
      simp only [R.bind, mTup, mCons, mNil, i2]
      rw [h4]
      rfl
    have hin := in_row (neg := true) (S := S) (th := .ref p) (.inr ⟨p, rfl, hp⟩) v4 o.v4
    simp only [if_true] at hin
    by_cases t : inB o4 ds = true
    · rw [t] at hin
      refine ⟨[], some o4, ?_⟩
      unfold qe5
      generalize hm : (m2 Lk.gAdd (mSl (m2 gIx (mVar 3) (m1 gNeg (mC (.int 1)))) none (some (mC (.int 3)))) (mTup (mCons (m2 gIx (m2 gIx (mVar 3) (m1 gNeg (mC (.int 1)))) (mC (.int 2))) mNil))) = mm at s4 ⊢
      simp only [mIfS, mSeq, RS.seq, mTest, mAndT, mSet, R.bindS, Lk.m2, mB, mCons, mNil, mVar, mC, R.bind, List.getElem?_cons_succ, List.getElem?_cons_zero, List.set_cons_succ, List.set_cons_zero, gl, cc, s4, hin, asB, mNext, Bool.not_true, List.append_nil, Bool.false_eq_true, if_false, if_true]
    · have tf : inB o4 ds = false := eq_false_of_ne_true t
      rw [tf] at hin
      have nin : o4 ∉ ds := fun z => t ((inB_iff v4 o.v4).mpr z)
      have o2 : OKr b e (init ++ [o4]) := ⟨fun x hx => by
        rcases List.mem_append.mp hx with y | y
        · exact o.1 x (by rw [z]; simp [y])
        · rw [List.mem_singleton.mp y]; exact sb4, List.nodup_append.mpr ⟨by
          have := o.2.1
          rw [z] at this
          exact (List.nodup_append.mp this).1, by simp, fun a ha x hx => by
          rw [List.mem_singleton.mp hx]
          intro y
          rw [y] at ha
          exact nin (by rw [z]; simp [ha])⟩, by have := o.2.2; rw [z] at this; simpa using this⟩
      have ne : ds ≠ init ++ [o4] := fun y => nin (by rw [y]; simp)
      have z' := z
      have slm : mSl (mVar 3) none (some (m1 gNeg (mC (.int 1)))) [some (net b e ds), some (.int b), some (.int e), some (.ref p), some o4] S = .ok (.ref S.length) (S ++ [.lst init]) := by
        unfold mSl
        simp only [toO, mVar, Lk.m1, mC, gNeg, R.bind, List.getElem?_cons_succ, List.getElem?_cons_zero, gSl, Lk.listOf, hp]
        rw [z', cutm]
      have a1 : (S ++ [Ob.lst init] ++ [Ob.lst [o4]])[S.length]? = some (.lst init) := by
        rw [List.getElem?_append_left (by simp)]
        exact last1
      have a2 : (S ++ [Ob.lst init] ++ [Ob.lst [o4]])[(S ++ [Ob.lst init]).length]? = some (.lst [o4]) := last1
      obtain ⟨Q, hQ⟩ : ∃ Q, Q = S ++ [Ob.lst init] ++ [Ob.lst [o4]] := ⟨_, rfl⟩
      have ml : mLst (mCons (mVar 4) mNil) [some (net b e ds), some (.int b), some (.int e), some (.ref p), some o4] (S ++ [.lst init]) = .ok (.ref (S ++ [Ob.lst init]).length) Q := by
        have z1 : (1 : Nat) ≤ lim := by decide
        rw [hQ]
        simp only [mSeq, RS.seq, mIfS, mTest, mSet, mRet, mVar, mC, mNil, mCons, Lk.m1, Lk.m2, mB, mAnd, mOr, mNot, mAndT, mOrT, mNotT, mIf, mAsg, mNext, mCall, R.bind, R.bindS, R.nxt, asB, gSub', mTup, mLst, List.getElem?_cons_succ, List.getElem?_cons_zero, List.getElem?_nil, List.set_cons_succ, List.set_cons_zero, List.map_cons, List.map_nil, List.cons_append, List.nil_append, List.length_cons, List.length_nil, List.replicate, Lk.gIx, Lk.gAdd, Lk.gSub, Lk.gMul, Lk.gDiv, Lk.gMod, gInt, gCmp, gNeg, gAbs, gGcd, gLen, List.length_map, Lk.listOf, stIx, if_true, if_false, Bool.false_eq_true, reduceIte, Nat.reduceAdd, Nat.reduceSub, Nat.zero_add, eqz_int, pow1010, pow1018, pow1019, Int.reduceMul, Int.reduceAdd, ix40, ix41, ix42, ix43, at40, at41, at42, at43, and_true, true_and, and_self, ne_eq, not_false_eq_true, decide_true, decide_false, decide_eq_true_eq, Bool.and_true, Bool.true_and, mFor, iSeq, srcOf, vals, forGo_n, forGo_c, gSet, mRaise1, mSetF, setF, lim_le, Nat.reduceLeDiff, Bool.not_false, Bool.not_true, Nat.lt_irrefl, List.length_append, List.append_assoc, z1]
      obtain ⟨q, hq⟩ : ∃ q, q = (S ++ [Ob.lst init]).length := ⟨_, rfl⟩
      rw [← hq] at ml
      rw [← hQ] at a1
      rw [← hQ, ← hq] at a2
      have ll : init.length + ([o4] : List D).length ≤ lim := by
        have : lim = 16777216 := rfl
        have := o2.2.2
        simp at this ⊢
        omega
      have ga : Lk.gAdd (.ref S.length) (.ref q) Q = .ok (.ref Q.length) (Q ++ [.lst (init ++ [o4])]) := by
        simp only [Lk.gAdd, a1, a2]
        rw [if_pos ll]
      have n1 := netg hb he (S := Q ++ [.lst (init ++ [o4])]) (.inr ⟨Q.length, rfl, last1⟩) o2
      have g1 := gz_net (S := Q ++ [.lst (init ++ [o4])]) (b := b) (e := e) (b' := b) (e' := e) o.v4 o2.v4
      rw [eqRow_no o.v4 o2.v4 ne, Bool.and_false, Bool.and_false] at g1
      refine ⟨[Ob.lst init] ++ [Ob.lst [o4]] ++ [.lst (init ++ [o4])], some o4, ?_⟩
      have eQ : S ++ ([Ob.lst init] ++ [Ob.lst [o4]] ++ [.lst (init ++ [o4])]) = Q ++ [.lst (init ++ [o4])] := by rw [hQ]; simp
      rw [eQ]
      unfold qe5
      generalize hm : (m2 Lk.gAdd (mSl (m2 gIx (mVar 3) (m1 gNeg (mC (.int 1)))) none (some (mC (.int 3)))) (mTup (mCons (m2 gIx (m2 gIx (mVar 3) (m1 gNeg (mC (.int 1)))) (mC (.int 2))) mNil))) = mm at s4 ⊢
      generalize hm2 : mSl (mVar 3) none (some (m1 gNeg (mC (.int 1)))) = ms at slm ⊢
      generalize hm3 : mLst (mCons (mVar 4) mNil) = m4 at ml ⊢
      simp only [mIfS, mSeq, RS.seq, mTest, mAndT, mSet, R.bindS, Lk.m2, mB, mCons, mNil, mVar, mC, R.bind, List.getElem?_cons_succ, List.getElem?_cons_zero, List.set_cons_succ, List.set_cons_zero, gl, cc, s4, hin, asB, mNext, Bool.not_false, slm, ml, ga, mMake, List.length_cons, List.length_nil, Nat.zero_add, Nat.reduceAdd, if_true, n1, g1, Bool.false_eq_true, if_false]
theorem qe6_ok {S : Store} {p : Nat} {b e : Int} {ds : List D} {v : Option D} (hp : S[p]? = some (.lst ds)) :
    qe6 [some (net b e ds), some (.int b), some (.int e), some (.ref p), v] S = .rt (.bl true) S := by
  have gt : gTuple [.ref p] S = .ok (.tup ds) S := gTup (.inr ⟨p, rfl, hp⟩)
  have g1 := gz_other (S := S) (b := b) (e := e) (xs := ds) (d := .tup [.int b, .int e, .tup ds]) ⟨.bi "tuple", rfl, by decide⟩ rfl
  have g2 := gz_other (S := S) (b := b) (e := e) (xs := ds) (d := .int b) (kn_int S b) rfl
  have g3 : gIsN (net b e ds) .non S = .ok (.bl false) S := rfl
  unfold qe6
  simp only [mSeq, RS.seq, mIfS, mTest, mSet, mRet, mVar, mC, mNil, mCons, Lk.m1, Lk.m2, mB, mAnd, mOr, mNot, mAndT, mOrT, mNotT, mIf, mAsg, mNext, mCall, R.bind, R.bindS, R.nxt, asB, gSub', mTup, mLst, List.getElem?_cons_succ, List.getElem?_cons_zero, List.getElem?_nil, List.set_cons_succ, List.set_cons_zero, List.map_cons, List.map_nil, List.cons_append, List.nil_append, List.length_cons, List.length_nil, List.replicate, Lk.gIx, Lk.gAdd, Lk.gSub, Lk.gMul, Lk.gDiv, Lk.gMod, gInt, gCmp, gNeg, gAbs, gGcd, gLen, List.length_map, Lk.listOf, stIx, if_true, if_false, Bool.false_eq_true, reduceIte, Nat.reduceAdd, Nat.reduceSub, Nat.zero_add, eqz_int, pow1010, pow1018, pow1019, Int.reduceMul, Int.reduceAdd, ix40, ix41, ix42, ix43, at40, at41, at42, at43, and_true, true_and, and_self, ne_eq, not_false_eq_true, decide_true, decide_false, decide_eq_true_eq, Bool.and_true, Bool.true_and, mFor, iSeq, srcOf, vals, forGo_n, forGo_c, gSet, mRaise1, mSetF, setF, lim_le, Nat.reduceLeDiff, Bool.not_false, Bool.not_true, Nat.lt_irrefl, List.length_append, List.append_assoc, gt, g1, g2, g3]
theorem equal_right {S : Store} {p : Nat} {b e : Int} {ds : List D} (hb : 3 ≤ b ∧ b ≤ 1440) (he : 1 ≤ e ∧ e ≤ 24) (hp : S[p]? = some (.lst ds)) (o : OKr b e ds) :
    f__law_equal_right [net b e ds, .int b, .int e, .ref p] S = .ok (.bl true) S := by
  have up : ∀ T, (S ++ T)[p]? = some (.lst ds) := fun T => by rw [List.getElem?_append_left (getlt hp)]; exact hp
  obtain ⟨T1, e1⟩ := qe1_ok hb he hp o
  have e2 := qe2_ok hb he (up T1) o
  obtain ⟨T3, e3⟩ := qe3_ok hb he (up T1) o
  rw [List.append_assoc S] at e3
  obtain ⟨T4, e4⟩ := qe4_ok hb he (up (T1 ++ T3)) o
  rw [List.append_assoc S] at e4
  obtain ⟨T5, v, e5⟩ := qe5_ok hb he (up (T1 ++ T3 ++ T4)) o
  rw [List.append_assoc S] at e5
  have e6 := qe6_ok (b := b) (e := e) (v := v) (up (T1 ++ T3 ++ T4 ++ T5))
  have hB : b__law_equal_right [some (net b e ds), some (.int b), some (.int e), some (.ref p), none] S = .rt (.bl true) (S ++ (T1 ++ T3 ++ T4 ++ T5)) := by
    rw [qe_eq]
    simp only [mSeq, RS.seq, e1, e2, e3, e4, e5, e6]
  show mDef 5 b__law_equal_right [net b e ds, .int b, .int e, .ref p] S = _
  unfold mDef
  show (match b__law_equal_right [some (net b e ds), some (.int b), some (.int e), some (.ref p), none] S with
      | .nx _ S' => gc S .non S'
      | .rt d S' => gc S d S'
      | .ex C xs _ S' => gcX S C xs S'
      | _ => .bad) = _
  rw [hB]
  exact gc_ok (by simp [D.cl])
end Mi_k02

set_option linter.all false
set_option autoImplicit false
set_option maxRecDepth 100000
set_option maxHeartbeats 4000000
namespace Mi_k02
open PySem Lk L2
theorem odd_row2 {S : Store} {th : D} (h : Odd S th) : (∃ ds, Row S th ds ∧ (∀ x ∈ ds, SV S x) ∧ ds.length ≤ 1) ∨ ∀ T : Store, gIsi cs [.bi "list", .bi "tuple"] th (S ++ T) = .ok (.bl false) (S ++ T) := by
  rcases odd_row h with z | _
  · exact .inl z
  · cases h with
    | t0 => exact .inl ⟨[], .inl rfl, by simp, by simp⟩
    | t1 => exact .inl ⟨_, .inl rfl, fun x hx => by rw [List.mem_singleton.mp hx]; exact .int 3, by simp⟩
    | l0 h => exact .inl ⟨[], .inr ⟨_, rfl, h⟩, by simp, by simp⟩
    | l1 h => exact .inl ⟨_, .inr ⟨_, rfl, h⟩, fun x hx => by rw [List.mem_singleton.mp hx]; exact .int 5, by simp⟩
    | non =>
      refine .inr fun T => (odd_row (Odd.non (S := S ++ T))).resolve_left ?_
      rintro ⟨ds, r | ⟨n, e, _⟩, _⟩
      · cases r
      · cases e
    | bl b =>
      refine .inr fun T => (odd_row (Odd.bl (S := S ++ T) b)).resolve_left ?_
      rintro ⟨ds, r | ⟨n, e, _⟩, _⟩
      · cases r
      · cases e
    | str x hx =>
      refine .inr fun T => (odd_row (Odd.str (S := S ++ T) x hx)).resolve_left ?_
      rintro ⟨ds, r | ⟨n, e, _⟩, _⟩
      · cases r
      · cases e
    | rt p q =>
      refine .inr fun T => (odd_row (Odd.rt (S := S ++ T) p q)).resolve_left ?_
      rintro ⟨ds, r | ⟨n, e, _⟩, _⟩
      · cases r
      · cases e
    | d0 h =>
      refine .inr fun T => (odd_row (Odd.app (T := T) (Odd.d0 h))).resolve_left ?_
      rintro ⟨ds, r | ⟨n, e, h'⟩, _⟩
      · cases r
      · cases e
        rw [List.getElem?_append_left (getlt h), h] at h'
        cases h'
    | d1 h =>
      refine .inr fun T => (odd_row (Odd.app (T := T) (Odd.d1 h))).resolve_left ?_
      rintro ⟨ds, r | ⟨n, e, h'⟩, _⟩
      · cases r
      · cases e
        rw [List.getElem?_append_left (getlt h), h] at h'
        cases h'
theorem net_no {S : Store} {th : D} {b e : Int} (hb : 3 ≤ b ∧ b ≤ 1440) (he : 1 ≤ e ∧ e ≤ 24) (g : ∀ T : Store, gIsi cs [.bi "list", .bi "tuple"] th (S ++ T) = .ok (.bl false) (S ++ T)) : mkOf "Net" f_Net___init__ [.int b, .int e, th] S = .ex "BadSpan" [.int (-1)] S := by
  have hf1 := own_norow (b := b) (e := e) (g [.obj "Net" []])
  have h5 := isint (kn_int (S ++ [Ob.obj "Net" []]) b)
  have h6 := isint (kn_int (S ++ [Ob.obj "Net" []]) e)
  simp only [isInt] at h5 h6
  have ei : f_Net___init__ [.ref S.length, .int b, .int e, th] (S ++ [Ob.obj "Net" []]) = .ex "BadSpan" [.int (-1)] (S ++ [Ob.obj "Net" []]) := by
    unfold f_Net___init__ mDef b_Net___init__
    simp only [mSeq, RS.seq, mIfS, mTest, mSet, mRet, mVar, mC, mNil, mCons, Lk.m1, Lk.m2, mB, mAnd, mOr, mNot, mAndT, mOrT, mNotT, mIf, mAsg, mNext, mCall, R.bind, R.bindS, R.nxt, asB, gSub', mTup, mLst, List.getElem?_cons_succ, List.getElem?_cons_zero, List.getElem?_nil, List.set_cons_succ, List.set_cons_zero, List.map_cons, List.map_nil, List.cons_append, List.nil_append, List.length_cons, List.length_nil, List.replicate, Lk.gIx, Lk.gAdd, Lk.gSub, Lk.gMul, Lk.gDiv, Lk.gMod, gInt, gCmp, gNeg, gAbs, gGcd, gLen, List.length_map, Lk.listOf, stIx, if_true, if_false, Bool.false_eq_true, reduceIte, Nat.reduceAdd, Nat.reduceSub, Nat.zero_add, eqz_int, pow1010, pow1018, pow1019, Int.reduceMul, Int.reduceAdd, ix40, ix41, ix42, ix43, at40, at41, at42, at43, and_true, true_and, and_self, ne_eq, not_false_eq_true, decide_true, decide_false, decide_eq_true_eq, Bool.and_true, Bool.true_and, mFor, iSeq, srcOf, vals, forGo_n, forGo_c, gSet, mRaise1, mSetF, setF, lim_le, Nat.reduceLeDiff, Bool.not_false, Bool.not_true, Nat.lt_irrefl, List.length_append, List.append_assoc, h5, are_ev he, mCh2, mLink, mLast, hb.1, hb.2, hf1, gNotN, isNonD]
    exact gcX_self
  unfold mkOf
  rw [ei]
  exact gcX_app (by simp [clL, D.cl])
def sRefu : Str := Str.ofString "refused"
def sMade : Str := Str.ofString "made"
theorem ok_refu : PyData.strOk sRefu = true := by decide +kernel
theorem ok_made : PyData.strOk sMade = true := by decide +kernel
theorem eqz_str {S : Store} {x : Str} (h : PyData.strOk x = true) : gEqZ cs oe (.str x) (.str x) S = .ok (.bl true) S := odd_self (.str x h)
theorem eqz_b3 {S : Store} {a b c : Bool} : gEqZ cs oe (.tup [.bl a, .bl b, .bl c]) (.tup [.bl a, .bl b, .bl c]) S = .ok (.bl true) S :=
  eq_data (fun _ _ z => by cases z) (by simp [eqData, pyD, SeqAt.shaped, PyData.canLay0, PyData.depth, PyData.eqv, PyData.canLayAll0, PyData.depthAll, PyData.eqvAll]) (fun _ _ z => by cases z)
theorem gne_str {S : Store} {x : Str} (h : PyData.strOk x = true) : gNeX oe (.str x) (.str x) S = .ok (.bl false) S := by
  have e : eqData S (.str x) (.str x) = some true := by simp [eqData, pyD, SeqAt.shaped, PyData.canLay0, PyData.depth, PyData.eqv, PyData.canLayAll0, PyData.depthAll, PyData.eqvAll, h]
  show gNe (.str x) (.str x) S = _
  unfold gNe
  rw [e]
  rfl
theorem at20 (x y : D) : atI [x, y] 0 = some x := rfl
theorem at21 (x y : D) : atI [x, y] 1 = some y := rfl
theorem ref_end {S : Store} {mb me th x : D} {a b c : Bool} {v0 v1 v2 v3 v4 v5 v6 v7 v8 v9 v10 v11 v12 v16 v17 v18 : Option D} (hdue : f__law_due [mb, me, th] S = .ok (.tup [.tup [.bl a, .bl b, .bl c], x]) S) (htold : f__law_told [mb, me, th] S = .ok (sRef a b c x) S)
    (hal : f__law_alike [x, x] S = .ok (.bl true) S) : b_law_t14 [v0, v1, v2, v3, v4, v5, v6, v7, v8, v9, v10, v11, v12, some mb, some me, some th, v16, v17, v18] S = .rt (.bl true) S := by
  have q1 : gEqZ cs oe (.str (Str.ofString "refused")) (.str (Str.ofString "refused")) S = .ok (.bl true) S := eqz_str ok_refu
  have q2 : gEqZ cs oe (.tup [.bl a, .bl b, .bl c]) (.tup [.bl a, .bl b, .bl c]) S = .ok (.bl true) S := eqz_b3
  unfold b_law_t14 b_law_t15 b_law_t16
  simp only [mSeq, RS.seq, mIfS, mTest, mSet, mRet, mVar, mC, mNil, mCons, Lk.m1, Lk.m2, mB, mAnd, mOr, mNot, mAndT, mOrT, mNotT, mIf, mAsg, mNext, mCall, R.bind, R.bindS, R.nxt, asB, gSub', mTup, mLst, List.getElem?_cons_succ, List.getElem?_cons_zero, List.getElem?_nil, List.set_cons_succ, List.set_cons_zero, List.map_cons, List.map_nil, List.cons_append, List.nil_append, List.length_cons, List.length_nil, List.replicate, Lk.gIx, Lk.gAdd, Lk.gSub, Lk.gMul, Lk.gDiv, Lk.gMod, gInt, gCmp, gNeg, gAbs, gGcd, gLen, List.length_map, Lk.listOf, stIx, if_true, if_false, Bool.false_eq_true, reduceIte, Nat.reduceAdd, Nat.reduceSub, Nat.zero_add, eqz_int, pow1010, pow1018, pow1019, Int.reduceMul, Int.reduceAdd, ix40, ix41, ix42, ix43, at40, at41, at42, at43, and_true, true_and, and_self, ne_eq, not_false_eq_true, decide_true, decide_false, decide_eq_true_eq, Bool.and_true, Bool.true_and, mFor, iSeq, srcOf, vals, forGo_n, forGo_c, gSet, mRaise1, mSetF, setF, lim_le, Nat.reduceLeDiff, Bool.not_false, Bool.not_true, Nat.lt_irrefl, List.length_append, List.append_assoc, hdue, htold, sRef, gNotN, isNonD, Bool.not_false, at20, at21, at30, at31, at32, q1, q2, hal]
theorem gIl {S : Store} {d : D} : (∀ n ds, d = .ref n → S[n]? = some (.lst ds) → gIsi cs [.bi "list"] d S = .ok (.bl true) S) ∧ (∀ ds, d = .tup ds → gIsi cs [.bi "list"] d S = .ok (.bl false) S) := by
  constructor
  · intro n ds e h
    subst e
    unfold gIsi
    rw [show tyK S (.ref n) = some (CK.bi "list") by simp [tyK, h]]
    dsimp only
    rw [if_pos (by decide)]
    rfl
  · intro ds e
    subst e
    unfold gIsi
    rw [show tyK S (.tup ds) = some (CK.bi "tuple") from rfl]
    dsimp only
    rw [if_pos (by decide)]
    rfl
theorem made_end {S : Store} {th : D} {b e : Int} {ds : List D} {v0 v1 v4 v5 v6 v7 v8 v9 v10 v11 v12 v16 v17 v18 : Option D} (hb : 3 ≤ b ∧ b ≤ 1440) (he : 1 ≤ e ∧ e ≤ 24) (r : Row S th ds) (o : OKr b e ds) :
    ∃ S', b_law_t14 [v0, v1, some (.int b), some (.int e), v4, v5, v6, v7, v8, v9, v10, v11, v12, some (.int b), some (.int e), some th, v16, v17, v18] S = .rt (.bl true) S' := by
  have hdue := due_row hb he r fun x hx => (o.v4 x hx).sv
  rw [if_neg (by have := o.2.2; omega), o.flt] at hdue
  have hmk := netg hb he r o
  have htold := told_made hmk
  have q1 : gNeX oe (.str (Str.ofString "made")) (.str (Str.ofString "made")) S = .ok (.bl false) S := gne_str ok_made
  have n1 := net_right (b := b) (e := e) (b' := b) (e' := e) r o.v4 o.v4
  rw [decide_eq_true rfl, decide_eq_true rfl, eqRow_self o.v4] at n1
  simp only [Bool.and_self] at n1
  have gl : gList [th] S = .ok (.ref S.length) (S ++ [.lst ds]) := by
    rcases r with z | ⟨n, z, hn⟩ <;> subst z
    · rfl
    · unfold gList
      simp [Lk.listOf, hn]
  have fin : ∀ S2 : Store, S2[S.length]? = some (.lst ds) → ∃ S', b_law_t20 [v0, v1, some (.int b), some (.int e), v4, v5, v6, v7, v8, v9, v10, v11, v12, some (.int b), some (.int e), some th, some .non, some (.tup [.str (Str.ofString "made"), net b e ds, .non]), some (.ref S.length)] S2 = .rt (.bl true) S' := fun S2 h2 => by
    have n2 := net_right (S := S2) (b := b) (e := e) (b' := b) (e' := e) (.inr ⟨S.length, rfl, h2⟩) o.v4 o.v4
    rw [decide_eq_true rfl, decide_eq_true rfl, eqRow_self o.v4] at n2
    simp only [Bool.and_self] at n2
    have q2 := equal_right hb he h2 o
    refine ⟨S2, ?_⟩
    unfold b_law_t20
    simp only [mSeq, RS.seq, mIfS, mTest, mSet, mRet, mVar, mC, mNil, mCons, Lk.m1, Lk.m2, mB, mAnd, mOr, mNot, mAndT, mOrT, mNotT, mIf, mAsg, mNext, mCall, R.bind, R.bindS, R.nxt, asB, gSub', mTup, mLst, List.getElem?_cons_succ, List.getElem?_cons_zero, List.getElem?_nil, List.set_cons_succ, List.set_cons_zero, List.map_cons, List.map_nil, List.cons_append, List.nil_append, List.length_cons, List.length_nil, List.replicate, Lk.gIx, Lk.gAdd, Lk.gSub, Lk.gMul, Lk.gDiv, Lk.gMod, gInt, gCmp, gNeg, gAbs, gGcd, gLen, List.length_map, Lk.listOf, stIx, if_true, if_false, Bool.false_eq_true, reduceIte, Nat.reduceAdd, Nat.reduceSub, Nat.zero_add, eqz_int, pow1010, pow1018, pow1019, Int.reduceMul, Int.reduceAdd, ix40, ix41, ix42, ix43, at40, at41, at42, at43, and_true, true_and, and_self, ne_eq, not_false_eq_true, decide_true, decide_false, decide_eq_true_eq, Bool.and_true, Bool.true_and, mFor, iSeq, srcOf, vals, forGo_n, forGo_c, gSet, mRaise1, mSetF, setF, lim_le, Nat.reduceLeDiff, Bool.not_false, Bool.not_true, Nat.lt_irrefl, List.length_append, List.append_assoc, at31, n2, q2]
  rcases r with z | ⟨n, z, hn⟩
  · subst z
    obtain ⟨S', e'⟩ := fin (S ++ [.lst ds]) last1
    refine ⟨S', ?_⟩
    have gi := (gIl (S := S ++ [Ob.lst ds]) (d := .tup ds)).2 ds rfl
    unfold b_law_t14 b_law_t15 b_law_t16 b_law_t17 b_law_t18 b_law_t19
    generalize b_law_t20 = t20 at e' ⊢
    simp only [mSeq, RS.seq, mIfS, mTest, mSet, mRet, mVar, mC, mNil, mCons, Lk.m1, Lk.m2, mB, mAnd, mOr, mNot, mAndT, mOrT, mNotT, mIf, mAsg, mNext, mCall, R.bind, R.bindS, R.nxt, asB, gSub', mTup, mLst, List.getElem?_cons_succ, List.getElem?_cons_zero, List.getElem?_nil, List.set_cons_succ, List.set_cons_zero, List.map_cons, List.map_nil, List.cons_append, List.nil_append, List.length_cons, List.length_nil, List.replicate, Lk.gIx, Lk.gAdd, Lk.gSub, Lk.gMul, Lk.gDiv, Lk.gMod, gInt, gCmp, gNeg, gAbs, gGcd, gLen, List.length_map, Lk.listOf, stIx, if_true, if_false, Bool.false_eq_true, reduceIte, Nat.reduceAdd, Nat.reduceSub, Nat.zero_add, eqz_int, pow1010, pow1018, pow1019, Int.reduceMul, Int.reduceAdd, ix40, ix41, ix42, ix43, at40, at41, at42, at43, and_true, true_and, and_self, ne_eq, not_false_eq_true, decide_true, decide_false, decide_eq_true_eq, Bool.and_true, Bool.true_and, mFor, iSeq, srcOf, vals, forGo_n, forGo_c, gSet, mRaise1, mSetF, setF, lim_le, Nat.reduceLeDiff, Bool.not_false, Bool.not_true, Nat.lt_irrefl, List.length_append, List.append_assoc, hdue, htold, gNotN, isNonD, Bool.not_true, at30, at31, at32, q1, n1, gl, gi, e']
  · subst z
    have hl := getlt hn
    have hn1 : (S ++ [Ob.lst ds])[n]? = some (.lst ds) := by rw [List.getElem?_append_left hl]; exact hn
    obtain ⟨S', e'⟩ := fin ((S ++ [Ob.lst ds]).set n (Ob.lst (ds ++ [D.tup [.int 0, .int 0, .int 0, .int 0]]))) (by rw [List.getElem?_set_ne (by omega)]; exact last1)
    refine ⟨S', ?_⟩
    have gi := (gIl (S := S ++ [Ob.lst ds]) (d := .ref n)).1 n ds rfl hn1
    have ll : ds.length < lim := by
      have : lim = 16777216 := rfl
      have := o.2.2
      omega
    unfold b_law_t14 b_law_t15 b_law_t16 b_law_t17 b_law_t18 b_law_t19
    generalize b_law_t20 = t20 at e' ⊢
    simp only [mSeq, RS.seq, mIfS, mTest, mSet, mRet, mVar, mC, mNil, mCons, Lk.m1, Lk.m2, mB, mAnd, mOr, mNot, mAndT, mOrT, mNotT, mIf, mAsg, mNext, mCall, R.bind, R.bindS, R.nxt, asB, gSub', mTup, mLst, List.getElem?_cons_succ, List.getElem?_cons_zero, List.getElem?_nil, List.set_cons_succ, List.set_cons_zero, List.map_cons, List.map_nil, List.cons_append, List.nil_append, List.length_cons, List.length_nil, List.replicate, Lk.gIx, Lk.gAdd, Lk.gSub, Lk.gMul, Lk.gDiv, Lk.gMod, gInt, gCmp, gNeg, gAbs, gGcd, gLen, List.length_map, Lk.listOf, stIx, if_true, if_false, Bool.false_eq_true, reduceIte, Nat.reduceAdd, Nat.reduceSub, Nat.zero_add, eqz_int, pow1010, pow1018, pow1019, Int.reduceMul, Int.reduceAdd, ix40, ix41, ix42, ix43, at40, at41, at42, at43, and_true, true_and, and_self, ne_eq, not_false_eq_true, decide_true, decide_false, decide_eq_true_eq, Bool.and_true, Bool.true_and, mFor, iSeq, srcOf, vals, forGo_n, forGo_c, gSet, mRaise1, mSetF, setF, lim_le, Nat.reduceLeDiff, Bool.not_false, Bool.not_true, Nat.lt_irrefl, List.length_append, List.append_assoc, hdue, htold, gNotN, isNonD, Bool.not_true, at30, at31, at32, q1, n1, gl, gi, mDrop, mBM, gAppend, hn1, ll, e']
/-- from the due error on: whatever was drawn -/
theorem tail14 {S : Store} {mb me th : D} {b e : Int} {v0 v1 v4 v5 v6 v7 v8 v9 v10 v11 v12 v16 v17 v18 : Option D} (hb : 3 ≤ b ∧ b ≤ 1440) (he : 1 ≤ e ∧ e ≤ 24)
    (hmb : mb = .int b ∨ (∃ i, mb = .int i ∧ ¬ (3 ≤ i ∧ i ≤ 1440)) ∨ Odd S mb) (hme : me = .int e ∨ (∃ i, me = .int i ∧ ¬ (1 ≤ i ∧ i ≤ 24)) ∨ Odd S me)
    (hth : (∃ ds, Row S th ds ∧ ∀ x ∈ ds, SV S x) ∨ Odd S th) :
    ∃ S', b_law_t14 [v0, v1, some (.int b), some (.int e), v4, v5, v6, v7, v8, v9, v10, v11, v12, some mb, some me, some th, v16, v17, v18] S = .rt (.bl true) S' := by
  have ci : ∀ i : Int, (D.int i).cl S.length = true := fun i => by simp [D.cl]
  rcases hmb with rfl | ⟨i, rfl, hi⟩ | hmb
  · rcases hme with rfl | ⟨i, rfl, hi⟩ | hme
    · have hth' : (∃ ds, Row S th ds ∧ ∀ x ∈ ds, SV S x) ∨ ∀ T : Store, gIsi cs [.bi "list", .bi "tuple"] th (S ++ T) = .ok (.bl false) (S ++ T) := by
        rcases hth with z | z
        · exact .inl z
        · rcases odd_row2 z with ⟨ds, r, s, _⟩ | z
          · exact .inl ⟨ds, r, s⟩
          · exact .inr z
      rcases hth' with ⟨ds, r, sv⟩ | g
      · have hdue := due_row hb he r sv
        by_cases l60 : 60 < ds.length
        · rw [if_pos l60] at hdue
          have hk := net_bad hb he r sv (k := -1) (if_pos l60)
          exact ⟨S, ref_end hdue (told_span (ci _) hk) alike_int⟩
        · rw [if_neg l60] at hdue
          cases hf : fault b e [] 0 ds with
          | some k =>
            rw [hf] at hdue
            have hk := net_bad hb he r sv (k := (k : Nat)) (by rw [if_neg l60, hf]; rfl)
            exact ⟨S, ref_end hdue (told_span (ci _) hk) alike_int⟩
          | none =>
            obtain ⟨h1, h2, _⟩ := (fault_none ds [] 0 (by simp)).mp hf
            exact made_end hb he r ⟨h1, h2, by omega⟩
      · have g0 := g []
        rw [List.append_nil] at g0
        exact ⟨S, ref_end (due_norow hb he g0) (told_span (ci _) (net_no hb he g)) alike_int⟩
    · exact ⟨S, ref_end (due_ev_int hb hi) (told_events (ci _) (ev_int hb hi)) alike_int⟩
    · exact ⟨S, ref_end (due_ev_odd hb hme) (told_events hme.clo (ev_odd hb hme)) (alike_odd hme)⟩
  · exact ⟨S, ref_end (due_beat_int hi) (told_beat (ci _) (beat_int hi)) alike_int⟩
  · exact ⟨S, ref_end (due_beat_odd hmb) (told_beat hmb.clo (beat_odd hmb)) (alike_odd hmb)⟩
end Mi_k02

set_option linter.all false
set_option autoImplicit false
set_option maxRecDepth 100000
set_option maxHeartbeats 4000000
namespace Mi_k02
open PySem Lk L2
noncomputable def lcomp : ME := mLc (iSeq (mVar 4)) (.nm 9) (mTest (mCall 3 f__law_is_span (mCons (mVar 9) (mCons (mVar 2) (mCons (mVar 3) mNil))))) (mVar 9) [9]
noncomputable def lchg : MS := mAsg (mCall 5 f__law_changed (mCons (mCall 2 f__law_source (mCons (mVar 0) (mCons (m2 Lk.gAdd (mC (.int 2)) (mVar 5)) mNil))) (mCons (m2 gIx (mVar 8) (mC (.int 0))) (mCons (mVar 2) (mCons (mVar 3) (mCons (mVar 8) mNil)))))) (gSub' (mVar 4) (mVar 7))
noncomputable def lbody : MS := (mIfS (mTest (m2 (gCmp fun i j => decide (j < i)) (mB gLen (mCons (mVar 4) mNil)) (mC (.int 0)))) (mSeq (mSet 7 (mCall 2 f__law_draw (mCons (mVar 1) (mCons (mB gLen (mCons (mVar 4) mNil)) mNil))))
  (mSeq (mSet 8 (lcomp))
  (mIfS (mTest (m2 (gCmp fun i j => decide (j < i)) (mB gLen (mCons (mVar 8) mNil)) (mC (.int 0)))) lchg mNext))) mNext)
theorem t6_eq : b_law_t6 = mSeq (mFor (iRng1' (mCons (mVar 6) mNil)) (gSet 5) lbody) b_law_t7 := rfl
/-- where the law stands: its source, its spans -/
def St (s p : Nat) (K : Int) (S : Store) : Prop := ∃ ds k, Src S s k ∧ k ≤ K ∧ s < p ∧ S[p]? = some (.lst ds) ∧ (∀ x ∈ ds, SV S x ∧ RG (p + 1) x) ∧ ds.length ≤ 63
theorem RG.mono {L L' : Nat} {d : D} (h : RG L d) (hl : L' ≤ L) : RG L' d := ⟨fun m e => Nat.le_trans hl (h.1 m e), fun xs e x hx m em => Nat.le_trans hl (h.2 xs e x hx m em)⟩
theorem Same.mono {L L' : Nat} {S S' : Store} (h : Same L S S') (hl : L ≤ L') : Same L' S S' := ⟨h.1, fun m h1 h2 => h.2 m (Nat.le_trans hl h1) h2⟩
theorem St.keep {s p : Nat} {K K' : Int} {S S' : Store} (h : St s p K S) (hs : ∃ k, Src S' s k ∧ k ≤ K') (sm : Same p S S') : St s p K' S' := by
  obtain ⟨ds, k, h1, h2, h3, h4, h5, h6⟩ := h
  obtain ⟨k', h7, h8⟩ := hs
  exact ⟨ds, k', h7, h8, h3, by rw [sm.2 p (Nat.le_refl _) (getlt h4)]; exact h4, fun x hx => ⟨(h5 x hx).1.same (h5 x hx).2 (sm.mono (by omega)), (h5 x hx).2⟩, h6⟩
theorem comp_ok {S : Store} {p : Nat} {b e : Int} {ds : List D} {v0 v1 v5 v6 v7 v8 v9 v10 v11 v12 v13 v14 v15 v16 v17 v18 : Option D} (hp : S[p]? = some (.lst ds)) (hs : ∀ x ∈ ds, SV S x) (hl : ds.length ≤ 63) :
    lcomp [v0, v1, some (.int b), some (.int e), some (.ref p), v5, v6, v7, v8, v9, v10, v11, v12, v13, v14, v15, v16, v17, v18] S = .ok (.ref S.length) (S ++ [.lst (ds.filter (spanB b e))]) := by
  have ll : ([] : List D).length + ds.length ≤ lim := by
    have : lim = 16777216 := rfl
    simp
    omega
  have key := lc_filterG (gd := (lstAt p ds).gd) (i := 9) (mt := mTest (mCall 3 f__law_is_span (mCons (mVar 9) (mCons (mVar 2) (mCons (mVar 3) mNil))))) (me := mVar 9) (env := [v0, v1, some (.int b), some (.int e), some (.ref p), v5, v6, v7, v8, none, v10, v11, v12, v13, v14, v15, v16, v17, v18]) (S := S) (spanB b e) (fun d => d)
    (fun T => by show (S ++ T)[p]? = some (.lst ds); rw [List.getElem?_append_left (getlt hp)]; exact hp) ds [] ll
    (fun d hd a => by
      have h := law_span (b := b) (e := e) ((hs d hd).app (T := [.lst a]))
      simp only [mSeq, RS.seq, mIfS, mTest, mSet, mRet, mVar, mC, mNil, mCons, Lk.m1, Lk.m2, mB, mAnd, mOr, mNot, mAndT, mOrT, mNotT, mIf, mAsg, mNext, mCall, R.bind, R.bindS, R.nxt, asB, gSub', mTup, mLst, List.getElem?_cons_succ, List.getElem?_cons_zero, List.getElem?_nil, List.set_cons_succ, List.set_cons_zero, List.map_cons, List.map_nil, List.cons_append, List.nil_append, List.length_cons, List.length_nil, List.replicate, Lk.gIx, Lk.gAdd, Lk.gSub, Lk.gMul, Lk.gDiv, Lk.gMod, gInt, gCmp, gNeg, gAbs, gGcd, gLen, List.length_map, Lk.listOf, stIx, if_true, if_false, Bool.false_eq_true, reduceIte, Nat.reduceAdd, Nat.reduceSub, Nat.zero_add, eqz_int, pow1010, pow1018, pow1019, Int.reduceMul, Int.reduceAdd, ix40, ix41, ix42, ix43, at40, at41, at42, at43, and_true, true_and, and_self, ne_eq, not_false_eq_true, decide_true, decide_false, decide_eq_true_eq, Bool.and_true, Bool.true_and, mFor, iSeq, srcOf, vals, forGo_n, forGo_c, gSet, mRaise1, mSetF, setF, lim_le, Nat.reduceLeDiff, Bool.not_false, Bool.not_true, Nat.lt_irrefl, List.length_append, List.append_assoc, h])
    (fun d hd _ a => by simp only [mSeq, RS.seq, mIfS, mTest, mSet, mRet, mVar, mC, mNil, mCons, Lk.m1, Lk.m2, mB, mAnd, mOr, mNot, mAndT, mOrT, mNotT, mIf, mAsg, mNext, mCall, R.bind, R.bindS, R.nxt, asB, gSub', mTup, mLst, List.getElem?_cons_succ, List.getElem?_cons_zero, List.getElem?_nil, List.set_cons_succ, List.set_cons_zero, List.map_cons, List.map_nil, List.cons_append, List.nil_append, List.length_cons, List.length_nil, List.replicate, Lk.gIx, Lk.gAdd, Lk.gSub, Lk.gMul, Lk.gDiv, Lk.gMod, gInt, gCmp, gNeg, gAbs, gGcd, gLen, List.length_map, Lk.listOf, stIx, if_true, if_false, Bool.false_eq_true, reduceIte, Nat.reduceAdd, Nat.reduceSub, Nat.zero_add, eqz_int, pow1010, pow1018, pow1019, Int.reduceMul, Int.reduceAdd, ix40, ix41, ix42, ix43, at40, at41, at42, at43, and_true, true_and, and_self, ne_eq, not_false_eq_true, decide_true, decide_false, decide_eq_true_eq, Bool.and_true, Bool.true_and, mFor, iSeq, srcOf, vals, forGo_n, forGo_c, gSet, mRaise1, mSetF, setF, lim_le, Nat.reduceLeDiff, Bool.not_false, Bool.not_true, Nat.lt_irrefl, List.length_append, List.append_assoc, ])
  have ei : iSeq (mVar 4) [v0, v1, some (.int b), some (.int e), some (.ref p), v5, v6, v7, v8, v9, v10, v11, v12, v13, v14, v15, v16, v17, v18] S = .ok (lstAt p ds) S := by
    simp only [iSeq, mVar, R.bind, List.getElem?_cons_succ, List.getElem?_cons_zero, srcOf, hp]
  unfold lcomp mLc
  rw [ei]
  simp only [R.bind, wipeE, List.set_cons_succ, List.set_cons_zero]
  rw [show (lstAt p ds).items = ds from rfl, key]
  simp
theorem chg_ok {ns : List Int} (hns : ns.length ≤ 63) {S : Store} {s p g : Nat} {i : Nat} {at_ b e K : Int} {gs : List D} {v1 v6 v9 v10 v11 v12 v13 v14 v15 v16 v17 v18 : Option D} (st : St s p K S) (hi : i ≤ 2) (hg : S[g]? = some (.lst gs)) (hv : ∀ x ∈ gs, V4 x) (h0 : 0 < gs.length) (h63 : gs.length ≤ 63)
    (hat : ∀ ds, S[p]? = some (.lst ds) → 0 ≤ at_ ∧ at_ < (ds.length : Nat)) :
    ∃ S', lchg [some (.rol (ns.map D.int)), v1, some (.int b), some (.int e), some (.ref p), some (.int (i : Nat)), v6, some (.int at_), some (.ref g), v9, v10, v11, v12, v13, v14, v15, v16, v17, v18] S
      = .nx [some (.rol (ns.map D.int)), v1, some (.int b), some (.int e), some (.ref p), some (.int (i : Nat)), v6, some (.int at_), some (.ref g), v9, v10, v11, v12, v13, v14, v15, v16, v17, v18] S' ∧ St s p K S' := by
  obtain ⟨ds, k, h1, h2, h3, h4, h5, h6⟩ := st
  obtain ⟨at1, at2⟩ := hat ds h4
  have hpl := getlt h4
  have hgl := getlt hg
  obtain ⟨T, e1, lT, s1⟩ := source ns hns (2 + i) (by omega) S
  rw [show ((2 + i : Nat) : Int) = 2 + (i : Int) by omega] at e1
  obtain ⟨x0, hx0, hm0⟩ : ∃ x, atI gs 0 = some x ∧ x ∈ gs := at_mem (by omega) (by omega)
  have hg1 : (S ++ T)[g]? = some (.lst gs) := by rw [List.getElem?_append_left hgl]; exact hg
  obtain ⟨d', S4, e2, sv, rg, ag⟩ := changed_ok (S := S ++ T) (n := S.length) (g := g) (k := 0) (b := b) (e := e) (d := x0) (gs := gs) s1 (by decide) (hv x0 hm0) hg1 (by omega) hv h0 (by omega)
  have sm : Same p S S4 := (Same.app p S T).ag ag (.inl (Nat.le_refl _))
  have hp4 : S4[p]? = some (.lst ds) := by rw [sm.2 p (Nat.le_refl _) hpl]; exact h4
  obtain ⟨j, hj⟩ : ∃ j, ixN ds.length at_ = some j := by
    unfold ixN
    simp [at1, at2]
  have sm5 : Same (p + 1) S4 (S4.set p (.lst (ds.set j d'))) := .set (by omega)
  have rg' : RG (p + 1) d' := rg.mono (by simp; omega)
  refine ⟨S4.set p (.lst (ds.set j d')), ?_, ds.set j d', k, ?_, h2, h3, by simp [getlt hp4], fun x hx => ?_, by simpa using h6⟩
  · unfold lchg
    simp only [mSeq, RS.seq, mIfS, mTest, mSet, mRet, mVar, mC, mNil, mCons, Lk.m1, Lk.m2, mB, mAnd, mOr, mNot, mAndT, mOrT, mNotT, mIf, mAsg, mNext, mCall, R.bind, R.bindS, R.nxt, asB, gSub', mTup, mLst, List.getElem?_cons_succ, List.getElem?_cons_zero, List.getElem?_nil, List.set_cons_succ, List.set_cons_zero, List.map_cons, List.map_nil, List.cons_append, List.nil_append, List.length_cons, List.length_nil, List.replicate, Lk.gIx, Lk.gAdd, Lk.gSub, Lk.gMul, Lk.gDiv, Lk.gMod, gInt, gCmp, gNeg, gAbs, gGcd, gLen, List.length_map, Lk.listOf, stIx, if_true, if_false, Bool.false_eq_true, reduceIte, Nat.reduceAdd, Nat.reduceSub, Nat.zero_add, eqz_int, pow1010, pow1018, pow1019, Int.reduceMul, Int.reduceAdd, ix40, ix41, ix42, ix43, at40, at41, at42, at43, and_true, true_and, and_self, ne_eq, not_false_eq_true, decide_true, decide_false, decide_eq_true_eq, Bool.and_true, Bool.true_and, mFor, iSeq, srcOf, vals, forGo_n, forGo_c, gSet, mRaise1, mSetF, setF, lim_le, Nat.reduceLeDiff, Bool.not_false, Bool.not_true, Nat.lt_irrefl, List.length_append, List.append_assoc, e1, hg1, hx0, e2, hp4, hj]
  · have hsl := h1.lt
    have a : Src S4 s k := (h1.app (T := T)).ag ag (by omega)
    exact a.ag (Ch.ag ⟨_, rfl⟩) (by omega)
  · rcases List.mem_or_eq_of_mem_set hx with z | z
    · exact ⟨((h5 x z).1.same (h5 x z).2 (sm.mono (by omega))).same (h5 x z).2 sm5, (h5 x z).2⟩
    · rw [z]
      exact ⟨sv.same rg' sm5, rg'⟩
def LInv (ns : List Int) (s p : Nat) (b e sp : Int) (v9 v10 v11 v12 v13 v14 v15 v16 v17 v18 : Option D) (K : Int) (ds : List D) (env : Lk.Env) (S : Store) : Prop :=
  (∀ d ∈ ds, ∃ i : Nat, i ≤ 2 ∧ d = .int (i : Nat)) ∧ (∃ v5 v7 v8, env = [some (.rol (ns.map D.int)), some (.ref s), some (.int b), some (.int e), some (.ref p), v5, some (.int sp), v7, v8, v9, v10, v11, v12, v13, v14, v15, v16, v17, v18]) ∧ St s p (K - (ds.length : Nat)) S
theorem body_ok {ns : List Int} (hns : ns.length ≤ 63) {s p : Nat} {b e sp K : Int} {v9 v10 v11 v12 v13 v14 v15 v16 v17 v18 : Option D} (hK : K < 2 ^ 30) (d : D) (ds : List D) (env : Lk.Env) (S : Store) (h : LInv ns s p b e sp v9 v10 v11 v12 v13 v14 v15 v16 v17 v18 K (d :: ds) env S) :
    ∃ e1 S1, gSet 5 d env S = .ok e1 S1 ∧ ∃ e2 S2, lbody e1 S1 = .nx e2 S2 ∧ LInv ns s p b e sp v9 v10 v11 v12 v13 v14 v15 v16 v17 v18 K ds e2 S2 := by
  obtain ⟨hd, ⟨v5, v7, v8, rfl⟩, st⟩ := h
  obtain ⟨i, hi, rfl⟩ := hd d List.mem_cons_self
  have hd' : ∀ d ∈ ds, ∃ i : Nat, i ≤ 2 ∧ d = .int (i : Nat) := fun d h => hd d (List.mem_cons_of_mem _ h)
  refine ⟨_, _, rfl, ?_⟩
  obtain ⟨xs, k, h1, h2, h3, h4, h5, h6⟩ := st
  simp only [List.length_cons] at h2
  have gl : gLen [.ref p] S = .ok (.int (xs.length : Nat)) S := gLenR (.inr ⟨p, rfl, h4⟩)
  by_cases c0 : (0 : Int) < (xs.length : Nat)
  · have cc : (gCmp fun i j => decide (j < i)) (.int (xs.length : Nat)) (.int 0) S = .ok (.bl true) S := by
      simp only [gCmp, decide_eq_true c0]
    obtain ⟨r, S1, r1, r2, q1, s1, u1⟩ := draw h1 (m := (xs.length : Nat)) (by omega) c0 (Nat.lt_trans (bits_small (by omega) (by omega)) (by decide))
    have sm1 : Same p S S1 := u1.same h3
    have st1 : St s p (K - (ds.length : Nat)) S1 := St.keep ⟨xs, k, h1, h2, h3, h4, h5, h6⟩ ⟨k + 1, s1, by omega⟩ sm1
    have hp1 : S1[p]? = some (.lst xs) := by rw [sm1.2 p (Nat.le_refl _) (getlt h4)]; exact h4
    have hc := comp_ok (v0 := some (.rol (ns.map D.int))) (v1 := some (.ref s)) (v5 := some (.int (i : Nat))) (v6 := some (.int sp)) (v7 := some (.int r)) (v8 := v8) (v9 := v9) (v10 := v10) (v11 := v11) (v12 := v12) (v13 := v13) (v14 := v14) (v15 := v15) (v16 := v16) (v17 := v17) (v18 := v18) (b := b) (e := e) hp1 (fun x hx => ((h5 x hx).1.same (h5 x hx).2 (sm1.mono (by omega)))) h6
    obtain ⟨gs, hgs⟩ : ∃ gs, gs = xs.filter (spanB b e) := ⟨_, rfl⟩
    rw [← hgs] at hc
    have sm2 : Same p S1 (S1 ++ [.lst gs]) := .app p _ _
    have st2 : St s p (K - (ds.length : Nat)) (S1 ++ [.lst gs]) := st1.keep ⟨k + 1, s1.app, by omega⟩ sm2
    have gl2 : gLen [.ref S1.length] (S1 ++ [.lst gs]) = .ok (.int (gs.length : Nat)) (S1 ++ [.lst gs]) := gLenR (.inr ⟨_, rfl, last1⟩)
    have glen : gs.length ≤ xs.length := by rw [hgs]; exact List.length_filter_le _ _
    by_cases c1 : (0 : Int) < (gs.length : Nat)
    · have cc1 : (gCmp fun i j => decide (j < i)) (.int (gs.length : Nat)) (.int 0) (S1 ++ [.lst gs]) = .ok (.bl true) (S1 ++ [.lst gs]) := by
        simp only [gCmp, decide_eq_true c1]
      obtain ⟨S', e', st'⟩ := chg_ok hns (v1 := some (.ref s)) (b := b) (e := e) (v6 := some (.int sp)) (v9 := v9) (v10 := v10) (v11 := v11) (v12 := v12) (v13 := v13) (v14 := v14) (v15 := v15) (v16 := v16) (v17 := v17) (v18 := v18) (at_ := r) st2 hi (last1 (l := S1) (a := Ob.lst gs)) (fun x hx => by
          rw [hgs] at hx
          exact spanB_v4 (List.mem_filter.mp hx).2) (by omega) (by omega) (fun ds' hds => by
          rw [List.getElem?_append_left (getlt hp1), hp1] at hds
          cases hds
          exact ⟨r1, r2⟩)
      refine ⟨_, S', ?_, hd', ⟨some (.int (i : Nat)), some (.int r), some (.ref S1.length), rfl⟩, st'⟩
      unfold lbody
      simp only [mIfS, mSeq, RS.seq, mTest, mSet, R.bindS, Lk.m2, mB, mCall, mCons, mNil, mVar, mC, R.bind, List.getElem?_cons_succ, List.getElem?_cons_zero, List.set_cons_succ, List.set_cons_zero, gl, cc, asB, if_true, List.length_cons, List.length_nil, Nat.zero_add, Nat.reduceAdd, q1, hc, gl2, cc1, e']
    · have cc1 : (gCmp fun i j => decide (j < i)) (.int (gs.length : Nat)) (.int 0) (S1 ++ [.lst gs]) = .ok (.bl false) (S1 ++ [.lst gs]) := by
        simp only [gCmp, decide_eq_false c1]
      refine ⟨_, _, ?_, hd', ⟨some (.int (i : Nat)), some (.int r), some (.ref S1.length), rfl⟩, st2⟩
      unfold lbody
      simp only [mIfS, mSeq, RS.seq, mTest, mSet, R.bindS, Lk.m2, mB, mCall, mCons, mNil, mVar, mC, R.bind, List.getElem?_cons_succ, List.getElem?_cons_zero, List.set_cons_succ, List.set_cons_zero, gl, cc, asB, if_true, List.length_cons, List.length_nil, Nat.zero_add, Nat.reduceAdd, q1, hc, gl2, cc1, Bool.false_eq_true, if_false, mNext]
  · have cc : (gCmp fun i j => decide (j < i)) (.int (xs.length : Nat)) (.int 0) S = .ok (.bl false) S := by
      simp only [gCmp, decide_eq_false c0]
    refine ⟨_, S, ?_, hd', ⟨some (.int (i : Nat)), v7, v8, rfl⟩, xs, k, h1, by omega, h3, h4, h5, h6⟩
    unfold lbody
    simp only [mIfS, mTest, Lk.m2, mB, mCons, mNil, mVar, mC, R.bind, R.bindS, List.getElem?_cons_succ, List.getElem?_cons_zero, List.set_cons_succ, List.set_cons_zero, gl, cc, asB, Bool.false_eq_true, if_false, mNext]
theorem t6_ok {ns : List Int} (hns : ns.length ≤ 63) {s p : Nat} {b e sp K : Int} {v9 v10 v11 v12 v13 v14 v15 v16 v17 v18 : Option D} (hK : K < 2 ^ 30) (hsp : 0 ≤ sp ∧ sp ≤ 2) {S : Store} (st : St s p (K - 3) S) :
    ∃ v5 v7 v8 S', b_law_t6 [some (.rol (ns.map D.int)), some (.ref s), some (.int b), some (.int e), some (.ref p), none, some (.int sp), none, none, v9, v10, v11, v12, v13, v14, v15, v16, v17, v18] S = b_law_t7 [some (.rol (ns.map D.int)), some (.ref s), some (.int b), some (.int e), some (.ref p), v5, some (.int sp), v7, v8, v9, v10, v11, v12, v13, v14, v15, v16, v17, v18] S' ∧ St s p K S' := by
  have bdm : bd sp := by
    have e : (2 : Int) ^ 62 = 4611686018427387904 := by decide
    unfold bd
    rw [e]
    constructor <;> omega
  have hi : iRng1' (mCons (mVar 6) mNil) [some (.rol (ns.map D.int)), some (.ref s), some (.int b), some (.int e), some (.ref p), none, some (.int sp), none, none, v9, v10, v11, v12, v13, v14, v15, v16, v17, v18] S = .ok (vals (rngI 0 sp.toNat)) S :=
    iRng1_of (by simp only [mCons, mNil, mVar, R.bind, List.getElem?_cons_succ, List.getElem?_cons_zero]) bdm
  have lenr : (rngI 0 sp.toNat).length = sp.toNat := by simp [rngI]
  obtain ⟨ds, k, h1, h2, h3, h4, h5, h6⟩ := st
  have loop := for_inv (g := gSet 5) (mb := lbody) (I := LInv ns s p b e sp v9 v10 v11 v12 v13 v14 v15 v16 v17 v18 K) (Fin := fun r => ∃ env S', r = .nx env S' ∧ LInv ns s p b e sp v9 v10 v11 v12 v13 v14 v15 v16 v17 v18 K [] env S') (rngI 0 sp.toNat)
    [some (.rol (ns.map D.int)), some (.ref s), some (.int b), some (.int e), some (.ref p), none, some (.int sp), none, none, v9, v10, v11, v12, v13, v14, v15, v16, v17, v18] S
    ⟨fun d hd => by
      simp only [rngI, List.mem_map, List.mem_range] at hd
      obtain ⟨i, hi, rfl⟩ := hd
      exact ⟨i, by omega, by simp⟩, ⟨none, none, none, rfl⟩, ds, k, h1, by rw [lenr]; omega, h3, h4, h5, h6⟩
    (fun env S' h => ⟨env, S', rfl, h⟩)
    (fun d ds env S' h => by
      obtain ⟨e1, S1, g1, e2, S2, b2, i2⟩ := body_ok hns hK d ds env S' h
      refine ⟨e1, S1, g1, ?_⟩
      rw [b2]
      exact i2)
  obtain ⟨env, S', el, _, ⟨v5, v7, v8, rfl⟩, st'⟩ := loop
  refine ⟨v5, v7, v8, S', ?_, by simpa using st'⟩
  rw [t6_eq]
  unfold mFor
  simp only [mSeq, hi, R.bindS]
  rw [show (vals (rngI 0 sp.toNat)).gd = (fun _ => True) from rfl, show (vals (rngI 0 sp.toNat)).items = rngI 0 sp.toNat from rfl, el]
  rfl
end Mi_k02

set_option linter.all false
set_option autoImplicit false
set_option maxRecDepth 100000
set_option maxHeartbeats 4000000
namespace Mi_k02
open PySem Lk L2
theorem gin {S : Store} {s x y : Int} : gIn false (.int s) (.tup [.int x, .int y]) S = .ok (.bl (decide (s = x) || decide (s = y))) S := by
  have e : ∀ i j : Int, L2.eqV (.int i) (.int j) = decide (j = i) := fun i j => by
    show decide (i = j) = decide (j = i)
    exact decide_eq_decide.mpr eq_comm
  simp [gIn, Lk.listOf, flatD, flatV, inV, e]
theorem ginz {S : Store} {s x y : Int} : gInZ false (.int s) (.tup [.int x, .int y]) S = .ok (.bl (decide (s = x) || decide (s = y))) S := by
  unfold gInZ
  rw [gin]
theorem bs {i : Int} (h1 : 0 ≤ i) (h2 : i ≤ 100000) : bits i < 9000 := Nat.lt_trans (bits_small (by omega) (by omega)) (by decide)
theorem at5 {a b c d e : D} : atI [a, b, c, d, e] 0 = some a ∧ atI [a, b, c, d, e] 1 = some b ∧ atI [a, b, c, d, e] 2 = some c ∧ atI [a, b, c, d, e] 3 = some d ∧ atI [a, b, c, d, e] 4 = some e := ⟨rfl, rfl, rfl, rfl, rfl⟩
theorem t1_ok {S : Store} {s : Nat} {k : Int} (hs : Src S s k) (hk : k < 2 ^ 30) {v0 v3 v4 v5 v6 v7 v8 v9 v10 v11 v12 v13 v14 v15 v16 v17 v18 : Option D} :
    ∃ b S', b_law_t1 [v0, some (.ref s), none, v3, v4, v5, v6, v7, v8, v9, v10, v11, v12, v13, v14, v15, v16, v17, v18] S = b_law_t2 [v0, some (.ref s), some (.int b), v3, v4, v5, v6, v7, v8, v9, v10, v11, v12, v13, v14, v15, v16, v17, v18] S' ∧ 3 ≤ b ∧ b ≤ 1440 ∧ Src S' s (k + 3) := by
  obtain ⟨r1, S1, a1, a2, q1, s1, u1⟩ := draw hs (m := 12) (by omega) (by decide) (bs (by decide) (by decide))
  obtain ⟨r2, S2, b1, b2, q2, s2, u2⟩ := draw s1 (m := 1438) (by omega) (by decide) (bs (by decide) (by decide))
  have hl := s2.lt
  obtain ⟨r3, S3, c1, c2, q3, s3, u3⟩ := draw (s2.app (T := [.lst [.int (3 + r1), .int 3, .int 4, .int 1440, .int (3 + r2)]])) (m := 5) (by omega) (by decide) (bs (by decide) (by decide))
  have h3 : S3[S2.length]? = some (.lst [.int (3 + r1), .int 3, .int 4, .int 1440, .int (3 + r2)]) := by
    obtain ⟨o, rfl⟩ := u3
    rw [List.getElem?_set_ne (by omega)]
    exact last1
  have z5 : (5 : Nat) ≤ lim := by decide
  obtain ⟨b, hb, hb1, hb2⟩ : ∃ b, atI [D.int (3 + r1), .int 3, .int 4, .int 1440, .int (3 + r2)] r3 = some (.int b) ∧ 3 ≤ b ∧ b ≤ 1440 := by
    have : r3 = 0 ∨ r3 = 1 ∨ r3 = 2 ∨ r3 = 3 ∨ r3 = 4 := by omega
    rcases this with rfl | rfl | rfl | rfl | rfl
    · exact ⟨_, rfl, by omega, by omega⟩
    · exact ⟨_, rfl, by omega, by omega⟩
    · exact ⟨_, rfl, by omega, by omega⟩
    · exact ⟨_, rfl, by omega, by omega⟩
    · exact ⟨_, rfl, by omega, by omega⟩
  refine ⟨b, S3, ?_, hb1, hb2, s3.mono (by omega)⟩
  unfold b_law_t1
  generalize b_law_t2 = t2
  simp only [mSeq, RS.seq, mIfS, mTest, mSet, mRet, mVar, mC, mNil, mCons, Lk.m1, Lk.m2, mB, mAnd, mOr, mNot, mAndT, mOrT, mNotT, mIf, mAsg, mNext, mCall, R.bind, R.bindS, R.nxt, asB, gSub', mTup, mLst, List.getElem?_cons_succ, List.getElem?_cons_zero, List.getElem?_nil, List.set_cons_succ, List.set_cons_zero, List.map_cons, List.map_nil, List.cons_append, List.nil_append, List.length_cons, List.length_nil, List.replicate, Lk.gIx, Lk.gAdd, Lk.gSub, Lk.gMul, Lk.gDiv, Lk.gMod, gInt, gCmp, gNeg, gAbs, gGcd, gLen, List.length_map, Lk.listOf, stIx, if_true, if_false, Bool.false_eq_true, reduceIte, Nat.reduceAdd, Nat.reduceSub, Nat.zero_add, eqz_int, pow1010, pow1018, pow1019, Int.reduceMul, Int.reduceAdd, ix40, ix41, ix42, ix43, at40, at41, at42, at43, and_true, true_and, and_self, ne_eq, not_false_eq_true, decide_true, decide_false, decide_eq_true_eq, Bool.and_true, Bool.true_and, mFor, iSeq, srcOf, vals, forGo_n, forGo_c, gSet, mRaise1, mSetF, setF, lim_le, Nat.reduceLeDiff, Bool.not_false, Bool.not_true, Nat.lt_irrefl, List.length_append, List.append_assoc, q1, q2, z5, q3, h3, hb]
theorem t2_ok {S : Store} {s : Nat} {k : Int} (hs : Src S s k) (hk : k < 2 ^ 30) {v0 v2 v4 v5 v6 v7 v8 v9 v10 v11 v12 v13 v14 v15 v16 v17 v18 : Option D} :
    ∃ b S', b_law_t2 [v0, some (.ref s), v2, none, v4, v5, v6, v7, v8, v9, v10, v11, v12, v13, v14, v15, v16, v17, v18] S = b_law_t3 [v0, some (.ref s), v2, some (.int b), v4, v5, v6, v7, v8, v9, v10, v11, v12, v13, v14, v15, v16, v17, v18] S' ∧ 1 ≤ b ∧ b ≤ 24 ∧ Src S' s (k + 3) := by
  obtain ⟨r1, S2, a1, a2, q1, s2, u1⟩ := draw hs (m := 24) (by omega) (by decide) (bs (by decide) (by decide))
  have hl := s2.lt
  obtain ⟨r3, S3, c1, c2, q3, s3, u3⟩ := draw (s2.app (T := [.lst [.int (1 + r1), .int 1, .int 2, .int 24]])) (m := 4) (by omega) (by decide) (bs (by decide) (by decide))
  have h3 : S3[S2.length]? = some (.lst [.int (1 + r1), .int 1, .int 2, .int 24]) := by
    obtain ⟨o, rfl⟩ := u3
    rw [List.getElem?_set_ne (by omega)]
    exact last1
  have z4 : (4 : Nat) ≤ lim := by decide
  obtain ⟨b, hb, hb1, hb2⟩ : ∃ b, atI [D.int (1 + r1), .int 1, .int 2, .int 24] r3 = some (.int b) ∧ 1 ≤ b ∧ b ≤ 24 := by
    have : r3 = 0 ∨ r3 = 1 ∨ r3 = 2 ∨ r3 = 3 := by omega
    rcases this with rfl | rfl | rfl | rfl
    · exact ⟨_, rfl, by omega, by omega⟩
    · exact ⟨_, rfl, by omega, by omega⟩
    · exact ⟨_, rfl, by omega, by omega⟩
    · exact ⟨_, rfl, by omega, by omega⟩
  refine ⟨b, S3, ?_, hb1, hb2, s3.mono (by omega)⟩
  unfold b_law_t2
  generalize b_law_t3 = t3
  simp only [mSeq, RS.seq, mIfS, mTest, mSet, mRet, mVar, mC, mNil, mCons, Lk.m1, Lk.m2, mB, mAnd, mOr, mNot, mAndT, mOrT, mNotT, mIf, mAsg, mNext, mCall, R.bind, R.bindS, R.nxt, asB, gSub', mTup, mLst, List.getElem?_cons_succ, List.getElem?_cons_zero, List.getElem?_nil, List.set_cons_succ, List.set_cons_zero, List.map_cons, List.map_nil, List.cons_append, List.nil_append, List.length_cons, List.length_nil, List.replicate, Lk.gIx, Lk.gAdd, Lk.gSub, Lk.gMul, Lk.gDiv, Lk.gMod, gInt, gCmp, gNeg, gAbs, gGcd, gLen, List.length_map, Lk.listOf, stIx, if_true, if_false, Bool.false_eq_true, reduceIte, Nat.reduceAdd, Nat.reduceSub, Nat.zero_add, eqz_int, pow1010, pow1018, pow1019, Int.reduceMul, Int.reduceAdd, ix40, ix41, ix42, ix43, at40, at41, at42, at43, and_true, true_and, and_self, ne_eq, not_false_eq_true, decide_true, decide_false, decide_eq_true_eq, Bool.and_true, Bool.true_and, mFor, iSeq, srcOf, vals, forGo_n, forGo_c, gSet, mRaise1, mSetF, setF, lim_le, Nat.reduceLeDiff, Bool.not_false, Bool.not_true, Nat.lt_irrefl, List.length_append, List.append_assoc, q1, z4, q3, h3, hb]
theorem t3_ok {ns : List Int} (hns : ns.length ≤ 63) {S : Store} {s : Nat} {k b e : Int} (hb : 3 ≤ b ∧ b ≤ 1440) (he : 1 ≤ e ∧ e ≤ 24) (hs : Src S s k) (hk : k < 2 ^ 30) {v5 v6 v7 v8 v9 v10 v11 v12 v13 v14 v15 v16 v17 v18 : Option D} :
    ∃ p S', b_law_t3 [some (.rol (ns.map D.int)), some (.ref s), some (.int b), some (.int e), none, v5, v6, v7, v8, v9, v10, v11, v12, v13, v14, v15, v16, v17, v18] S = b_law_t4 [some (.rol (ns.map D.int)), some (.ref s), some (.int b), some (.int e), some (.ref p), v5, v6, v7, v8, v9, v10, v11, v12, v13, v14, v15, v16, v17, v18] S' ∧ St s p (k + 1) S' := by
  have hsl := hs.lt
  obtain ⟨T, e1, lT, s1⟩ := source ns hns 1 (by omega) S
  have e1 : f__law_source [.rol (ns.map D.int), .int 1] S = .ok (.ref S.length) (S ++ T) := e1
  obtain ⟨m, S2, m1, m2', q2, s2, u2⟩ := draw (hs.app (T := T)) (m := 64) (by omega) (by decide) (bs (by decide) (by decide))
  have sn : Src S2 S.length 0 := s1.ag u2.ag (by omega)
  obtain ⟨l, S3, e3, h3, l3, a3, v3, n3⟩ := rows_ok hb he (m := m) (by omega) sn (by decide)
  have s3 : Src S3 s (k + 1) := by
    have h2 := s2.lt
    obtain ⟨a, b', c, d, h, r⟩ := s2
    exact ⟨a, b', c, d, by unfold Src4 at h ⊢; rw [a3 s h2 (by omega)]; exact h, r⟩
  have hl2 : S.length ≤ S2.length := by rw [u2.len]; simp
  refine ⟨S2.length, S3, ?_, l, k + 1, s3, Int.le_refl _, by omega, h3, fun x hx => ⟨(v3 x hx).sv, (v3 x hx).rg⟩, n3⟩
  unfold b_law_t3
  generalize b_law_t4 = t4
  simp only [mSeq, RS.seq, mIfS, mTest, mSet, mRet, mVar, mC, mNil, mCons, Lk.m1, Lk.m2, mB, mAnd, mOr, mNot, mAndT, mOrT, mNotT, mIf, mAsg, mNext, mCall, R.bind, R.bindS, R.nxt, asB, gSub', mTup, mLst, List.getElem?_cons_succ, List.getElem?_cons_zero, List.getElem?_nil, List.set_cons_succ, List.set_cons_zero, List.map_cons, List.map_nil, List.cons_append, List.nil_append, List.length_cons, List.length_nil, List.replicate, Lk.gIx, Lk.gAdd, Lk.gSub, Lk.gMul, Lk.gDiv, Lk.gMod, gInt, gCmp, gNeg, gAbs, gGcd, gLen, List.length_map, Lk.listOf, stIx, if_true, if_false, Bool.false_eq_true, reduceIte, Nat.reduceAdd, Nat.reduceSub, Nat.zero_add, eqz_int, pow1010, pow1018, pow1019, Int.reduceMul, Int.reduceAdd, ix40, ix41, ix42, ix43, at40, at41, at42, at43, and_true, true_and, and_self, ne_eq, not_false_eq_true, decide_true, decide_false, decide_eq_true_eq, Bool.and_true, Bool.true_and, mFor, iSeq, srcOf, vals, forGo_n, forGo_c, gSet, mRaise1, mSetF, setF, lim_le, Nat.reduceLeDiff, Bool.not_false, Bool.not_true, Nat.lt_irrefl, List.length_append, List.append_assoc, e1, q2, e3]
theorem t4_ok {S : Store} {s p : Nat} {k b e : Int} (st : St s p k S) (hk : k < 2 ^ 30) {v0 v6 v7 v8 v9 v10 v11 v12 v13 v14 v15 v16 v17 v18 : Option D} :
    ∃ p' S', b_law_t4 [v0, some (.ref s), some (.int b), some (.int e), some (.ref p), none, v6, v7, v8, v9, v10, v11, v12, v13, v14, v15, v16, v17, v18] S = b_law_t5 [v0, some (.ref s), some (.int b), some (.int e), some (.ref p'), none, v6, v7, v8, v9, v10, v11, v12, v13, v14, v15, v16, v17, v18] S' ∧ St s p' (k + 2) S' := by
  obtain ⟨ds, k', h1, h2, h3, h4, h5, h6⟩ := st
  obtain ⟨r, S1, r1, r2, q1, s1, u1⟩ := draw h1 (m := 8) (by omega) (by decide) (bs (by decide) (by decide))
  have sm1 : Same p S S1 := u1.same h3
  have st1 : St s p (k + 2) S1 := St.keep ⟨ds, k', h1, h2, h3, h4, h5, h6⟩ ⟨k' + 1, s1, by omega⟩ sm1
  by_cases c0 : r = 0
  · by_cases c1 : 1 < e
    · obtain ⟨q, S2, a1, a2, q2, s2, u2⟩ := draw s1 (m := 4) (by omega) (by decide) (bs (by decide) (by decide))
      have hsl := s2.lt
      have bdm : bd (59 + q) := by
        have e : (2 : Int) ^ 62 = 4611686018427387904 := by decide
        unfold bd
        rw [e]
        constructor <;> omega
      obtain ⟨n, hn⟩ : ∃ n, n = (59 + q).toNat := ⟨_, rfl⟩
      have lenr : (rngI 0 n).length = n := by simp [rngI]
      have ll : ([] : List D).length + (rngI 0 n).length ≤ lim := by
        have : lim = 16777216 := rfl
        rw [lenr]
        simp
        omega
      have key := lc_map (i := 5) (me := mTup (mCons (mC (.int 0)) (mCons (mC (.int 1)) (mCons (mVar 5) (mCons (mVar 5) mNil))))) (env := [v0, some (.ref s), some (.int b), some (.int e), some (.ref p), none, v6, v7, v8, v9, v10, v11, v12, v13, v14, v15, v16, v17, v18]) (S := S2) (fun d => .tup [.int 0, .int 1, d, d]) (rngI 0 n) [] ll
        (fun d hd a => by simp only [mSeq, RS.seq, mIfS, mTest, mSet, mRet, mVar, mC, mNil, mCons, Lk.m1, Lk.m2, mB, mAnd, mOr, mNot, mAndT, mOrT, mNotT, mIf, mAsg, mNext, mCall, R.bind, R.bindS, R.nxt, asB, gSub', mTup, mLst, List.getElem?_cons_succ, List.getElem?_cons_zero, List.getElem?_nil, List.set_cons_succ, List.set_cons_zero, List.map_cons, List.map_nil, List.cons_append, List.nil_append, List.length_cons, List.length_nil, List.replicate, Lk.gIx, Lk.gAdd, Lk.gSub, Lk.gMul, Lk.gDiv, Lk.gMod, gInt, gCmp, gNeg, gAbs, gGcd, gLen, List.length_map, Lk.listOf, stIx, if_true, if_false, Bool.false_eq_true, reduceIte, Nat.reduceAdd, Nat.reduceSub, Nat.zero_add, eqz_int, pow1010, pow1018, pow1019, Int.reduceMul, Int.reduceAdd, ix40, ix41, ix42, ix43, at40, at41, at42, at43, and_true, true_and, and_self, ne_eq, not_false_eq_true, decide_true, decide_false, decide_eq_true_eq, Bool.and_true, Bool.true_and, mFor, iSeq, srcOf, vals, forGo_n, forGo_c, gSet, mRaise1, mSetF, setF, lim_le, Nat.reduceLeDiff, Bool.not_false, Bool.not_true, Nat.lt_irrefl, List.length_append, List.append_assoc, ])
      have hi : iRng1' (mCons (m2 Lk.gAdd (mC (.int 59)) (mCall 2 f__law_draw (mCons (mVar 1) (mCons (mC (.int 4)) mNil)))) mNil) [v0, some (.ref s), some (.int b), some (.int e), some (.ref p), none, v6, v7, v8, v9, v10, v11, v12, v13, v14, v15, v16, v17, v18] S1 = .ok (vals (rngI 0 n)) S2 := by
        rw [hn]
        exact iRng1_of (by simp only [mSeq, RS.seq, mIfS, mTest, mSet, mRet, mVar, mC, mNil, mCons, Lk.m1, Lk.m2, mB, mAnd, mOr, mNot, mAndT, mOrT, mNotT, mIf, mAsg, mNext, mCall, R.bind, R.bindS, R.nxt, asB, gSub', mTup, mLst, List.getElem?_cons_succ, List.getElem?_cons_zero, List.getElem?_nil, List.set_cons_succ, List.set_cons_zero, List.map_cons, List.map_nil, List.cons_append, List.nil_append, List.length_cons, List.length_nil, List.replicate, Lk.gIx, Lk.gAdd, Lk.gSub, Lk.gMul, Lk.gDiv, Lk.gMod, gInt, gCmp, gNeg, gAbs, gGcd, gLen, List.length_map, Lk.listOf, stIx, if_true, if_false, Bool.false_eq_true, reduceIte, Nat.reduceAdd, Nat.reduceSub, Nat.zero_add, eqz_int, pow1010, pow1018, pow1019, Int.reduceMul, Int.reduceAdd, ix40, ix41, ix42, ix43, at40, at41, at42, at43, and_true, true_and, and_self, ne_eq, not_false_eq_true, decide_true, decide_false, decide_eq_true_eq, Bool.and_true, Bool.true_and, mFor, iSeq, srcOf, vals, forGo_n, forGo_c, gSet, mRaise1, mSetF, setF, lim_le, Nat.reduceLeDiff, Bool.not_false, Bool.not_true, Nat.lt_irrefl, List.length_append, List.append_assoc, q2]) bdm
      have hc : mLc (iRng1' (mCons (m2 Lk.gAdd (mC (.int 59)) (mCall 2 f__law_draw (mCons (mVar 1) (mCons (mC (.int 4)) mNil)))) mNil)) (.nm 5) mYes (mTup (mCons (mC (.int 0)) (mCons (mC (.int 1)) (mCons (mVar 5) (mCons (mVar 5) mNil))))) [5] [v0, some (.ref s), some (.int b), some (.int e), some (.ref p), none, v6, v7, v8, v9, v10, v11, v12, v13, v14, v15, v16, v17, v18] S1
          = .ok (.ref S2.length) (S2 ++ [.lst ((rngI 0 n).map fun d => .tup [.int 0, .int 1, d, d])]) := by
        unfold mLc
        rw [hi]
        simp only [R.bind, wipeE, List.set_cons_succ, List.set_cons_zero]
        rw [show (vals (rngI 0 n)).gd = (fun _ => True) from rfl, show (vals (rngI 0 n)).items = rngI 0 n from rfl, key]
        simp
      have vv : ∀ x ∈ (rngI 0 n).map (fun d => D.tup [.int 0, .int 1, d, d]), V4 x := fun x hx => by
        simp only [rngI, List.mem_map, List.mem_range] at hx
        obtain ⟨d, ⟨i, _, rfl⟩, rfl⟩ := hx
        exact ⟨_, _, _, _, rfl⟩
      refine ⟨S2.length, S2 ++ [.lst ((rngI 0 n).map fun d => .tup [.int 0, .int 1, d, d])], ?_, _, k' + 1 + 1, s2.app, by omega, hsl, last1, fun x hx => ⟨(vv x hx).sv, (vv x hx).rg⟩, by rw [List.length_map, lenr]; omega⟩
      have t0 : (decide (r = 0)) = true := decide_eq_true c0
      unfold b_law_t4
      generalize b_law_t5 = t5
      generalize mLc _ (.nm 5) mYes _ [5] = LC at hc ⊢
      simp only [mSeq, RS.seq, mIfS, mTest, mSet, mRet, mVar, mC, mNil, mCons, Lk.m1, Lk.m2, mB, mAnd, mOr, mNot, mAndT, mOrT, mNotT, mIf, mAsg, mNext, mCall, R.bind, R.bindS, R.nxt, asB, gSub', mTup, mLst, List.getElem?_cons_succ, List.getElem?_cons_zero, List.getElem?_nil, List.set_cons_succ, List.set_cons_zero, List.map_cons, List.map_nil, List.cons_append, List.nil_append, List.length_cons, List.length_nil, List.replicate, Lk.gIx, Lk.gAdd, Lk.gSub, Lk.gMul, Lk.gDiv, Lk.gMod, gInt, gCmp, gNeg, gAbs, gGcd, gLen, List.length_map, Lk.listOf, stIx, if_true, if_false, Bool.false_eq_true, reduceIte, Nat.reduceAdd, Nat.reduceSub, Nat.zero_add, eqz_int, pow1010, pow1018, pow1019, Int.reduceMul, Int.reduceAdd, ix40, ix41, ix42, ix43, at40, at41, at42, at43, and_true, true_and, and_self, ne_eq, not_false_eq_true, decide_true, decide_false, decide_eq_true_eq, Bool.and_true, Bool.true_and, mFor, iSeq, srcOf, vals, forGo_n, forGo_c, gSet, mRaise1, mSetF, setF, lim_le, Nat.reduceLeDiff, Bool.not_false, Bool.not_true, Nat.lt_irrefl, List.length_append, List.append_assoc, q1, t0, c1, hc]
    · refine ⟨p, S1, ?_, st1⟩
      have t0 : (decide (r = 0)) = true := decide_eq_true c0
      unfold b_law_t4
      generalize b_law_t5 = t5
      simp only [mSeq, RS.seq, mIfS, mTest, mSet, mRet, mVar, mC, mNil, mCons, Lk.m1, Lk.m2, mB, mAnd, mOr, mNot, mAndT, mOrT, mNotT, mIf, mAsg, mNext, mCall, R.bind, R.bindS, R.nxt, asB, gSub', mTup, mLst, List.getElem?_cons_succ, List.getElem?_cons_zero, List.getElem?_nil, List.set_cons_succ, List.set_cons_zero, List.map_cons, List.map_nil, List.cons_append, List.nil_append, List.length_cons, List.length_nil, List.replicate, Lk.gIx, Lk.gAdd, Lk.gSub, Lk.gMul, Lk.gDiv, Lk.gMod, gInt, gCmp, gNeg, gAbs, gGcd, gLen, List.length_map, Lk.listOf, stIx, if_true, if_false, Bool.false_eq_true, reduceIte, Nat.reduceAdd, Nat.reduceSub, Nat.zero_add, eqz_int, pow1010, pow1018, pow1019, Int.reduceMul, Int.reduceAdd, ix40, ix41, ix42, ix43, at40, at41, at42, at43, and_true, true_and, and_self, ne_eq, not_false_eq_true, decide_true, decide_false, decide_eq_true_eq, Bool.and_true, Bool.true_and, mFor, iSeq, srcOf, vals, forGo_n, forGo_c, gSet, mRaise1, mSetF, setF, lim_le, Nat.reduceLeDiff, Bool.not_false, Bool.not_true, Nat.lt_irrefl, List.length_append, List.append_assoc, q1, t0, c1]
  · refine ⟨p, S1, ?_, st1⟩
    have t0 : (decide (r = 0)) = false := decide_eq_false c0
    unfold b_law_t4
    generalize b_law_t5 = t5
    simp only [mSeq, RS.seq, mIfS, mTest, mSet, mRet, mVar, mC, mNil, mCons, Lk.m1, Lk.m2, mB, mAnd, mOr, mNot, mAndT, mOrT, mNotT, mIf, mAsg, mNext, mCall, R.bind, R.bindS, R.nxt, asB, gSub', mTup, mLst, List.getElem?_cons_succ, List.getElem?_cons_zero, List.getElem?_nil, List.set_cons_succ, List.set_cons_zero, List.map_cons, List.map_nil, List.cons_append, List.nil_append, List.length_cons, List.length_nil, List.replicate, Lk.gIx, Lk.gAdd, Lk.gSub, Lk.gMul, Lk.gDiv, Lk.gMod, gInt, gCmp, gNeg, gAbs, gGcd, gLen, List.length_map, Lk.listOf, stIx, if_true, if_false, Bool.false_eq_true, reduceIte, Nat.reduceAdd, Nat.reduceSub, Nat.zero_add, eqz_int, pow1010, pow1018, pow1019, Int.reduceMul, Int.reduceAdd, ix40, ix41, ix42, ix43, at40, at41, at42, at43, and_true, true_and, and_self, ne_eq, not_false_eq_true, decide_true, decide_false, decide_eq_true_eq, Bool.and_true, Bool.true_and, mFor, iSeq, srcOf, vals, forGo_n, forGo_c, gSet, mRaise1, mSetF, setF, lim_le, Nat.reduceLeDiff, Bool.not_false, Bool.not_true, Nat.lt_irrefl, List.length_append, List.append_assoc, q1, t0]
/-- a draw of the law's own source, into a slot -/
theorem st_draw {S : Store} {s p : Nat} {k m : Int} (st : St s p k S) (hk : k < 2 ^ 30) (hm : 0 < m) (hm2 : m ≤ 100000) : ∃ r S', 0 ≤ r ∧ r < m ∧ f__law_draw [.ref s, .int m] S = .ok (.int r) S' ∧ St s p (k + 1) S' ∧ Same p S S' := by
  obtain ⟨ds, k', h1, h2, h3, h4, h5, h6⟩ := st
  obtain ⟨r, S1, r1, r2, q1, s1, u1⟩ := draw h1 (m := m) (by omega) hm (bs (by omega) hm2)
  have sm1 : Same p S S1 := u1.same h3
  exact ⟨r, S1, r1, r2, q1, St.keep ⟨ds, k', h1, h2, h3, h4, h5, h6⟩ ⟨k' + 1, s1, by omega⟩ sm1, sm1⟩
theorem t5_ok {S : Store} {s p : Nat} {k : Int} (st : St s p k S) (hk : k < 2 ^ 30) {v0 v2 v3 v4 v5 v7 v8 v9 v10 v11 v12 v13 v14 v15 v16 v17 v18 : Option D} :
    ∃ r S', b_law_t5 [v0, some (.ref s), v2, v3, v4, v5, none, v7, v8, v9, v10, v11, v12, v13, v14, v15, v16, v17, v18] S = b_law_t6 [v0, some (.ref s), v2, v3, v4, v5, some (.int r), v7, v8, v9, v10, v11, v12, v13, v14, v15, v16, v17, v18] S' ∧ 0 ≤ r ∧ r ≤ 2 ∧ St s p (k + 1) S' := by
  obtain ⟨r, S', r1, r2, q, st', _⟩ := st_draw st hk (m := 3) (by decide) (by decide)
  refine ⟨r, S', ?_, r1, by omega, st'⟩
  unfold b_law_t5
  generalize b_law_t6 = t
  simp only [mSeq, RS.seq, mIfS, mTest, mSet, mRet, mVar, mC, mNil, mCons, Lk.m1, Lk.m2, mB, mAnd, mOr, mNot, mAndT, mOrT, mNotT, mIf, mAsg, mNext, mCall, R.bind, R.bindS, R.nxt, asB, gSub', mTup, mLst, List.getElem?_cons_succ, List.getElem?_cons_zero, List.getElem?_nil, List.set_cons_succ, List.set_cons_zero, List.map_cons, List.map_nil, List.cons_append, List.nil_append, List.length_cons, List.length_nil, List.replicate, Lk.gIx, Lk.gAdd, Lk.gSub, Lk.gMul, Lk.gDiv, Lk.gMod, gInt, gCmp, gNeg, gAbs, gGcd, gLen, List.length_map, Lk.listOf, stIx, if_true, if_false, Bool.false_eq_true, reduceIte, Nat.reduceAdd, Nat.reduceSub, Nat.zero_add, eqz_int, pow1010, pow1018, pow1019, Int.reduceMul, Int.reduceAdd, ix40, ix41, ix42, ix43, at40, at41, at42, at43, and_true, true_and, and_self, ne_eq, not_false_eq_true, decide_true, decide_false, decide_eq_true_eq, Bool.and_true, Bool.true_and, mFor, iSeq, srcOf, vals, forGo_n, forGo_c, gSet, mRaise1, mSetF, setF, lim_le, Nat.reduceLeDiff, Bool.not_false, Bool.not_true, Nat.lt_irrefl, List.length_append, List.append_assoc, q]
theorem t7_ok {S : Store} {s p : Nat} {k : Int} (st : St s p k S) (hk : k < 2 ^ 30) {v0 v2 v3 v4 v5 v6 v7 v8 v9 v11 v12 v13 v14 v15 v16 v17 v18 : Option D} :
    ∃ r S', b_law_t7 [v0, some (.ref s), v2, v3, v4, v5, v6, v7, v8, v9, none, v11, v12, v13, v14, v15, v16, v17, v18] S = b_law_t8 [v0, some (.ref s), v2, v3, v4, v5, v6, v7, v8, v9, some (.int r), v11, v12, v13, v14, v15, v16, v17, v18] S' ∧ St s p (k + 1) S' := by
  obtain ⟨r, S', r1, r2, q, st', _⟩ := st_draw st hk (m := 12) (by decide) (by decide)
  refine ⟨r, S', ?_, st'⟩
  unfold b_law_t7
  generalize b_law_t8 = t
  simp only [mSeq, RS.seq, mIfS, mTest, mSet, mRet, mVar, mC, mNil, mCons, Lk.m1, Lk.m2, mB, mAnd, mOr, mNot, mAndT, mOrT, mNotT, mIf, mAsg, mNext, mCall, R.bind, R.bindS, R.nxt, asB, gSub', mTup, mLst, List.getElem?_cons_succ, List.getElem?_cons_zero, List.getElem?_nil, List.set_cons_succ, List.set_cons_zero, List.map_cons, List.map_nil, List.cons_append, List.nil_append, List.length_cons, List.length_nil, List.replicate, Lk.gIx, Lk.gAdd, Lk.gSub, Lk.gMul, Lk.gDiv, Lk.gMod, gInt, gCmp, gNeg, gAbs, gGcd, gLen, List.length_map, Lk.listOf, stIx, if_true, if_false, Bool.false_eq_true, reduceIte, Nat.reduceAdd, Nat.reduceSub, Nat.zero_add, eqz_int, pow1010, pow1018, pow1019, Int.reduceMul, Int.reduceAdd, ix40, ix41, ix42, ix43, at40, at41, at42, at43, and_true, true_and, and_self, ne_eq, not_false_eq_true, decide_true, decide_false, decide_eq_true_eq, Bool.and_true, Bool.true_and, mFor, iSeq, srcOf, vals, forGo_n, forGo_c, gSet, mRaise1, mSetF, setF, lim_le, Nat.reduceLeDiff, Bool.not_false, Bool.not_true, Nat.lt_irrefl, List.length_append, List.append_assoc, q]
/-- an odd thing of a source of its own -/
theorem st_odd {ns : List Int} (hns : ns.length ≤ 63) (j : Nat) (hj : j ≤ 10) {S : Store} {s p : Nat} {k : Int} (st : St s p k S) : ∃ T d S', f__law_source [.rol (ns.map D.int), .int (j : Nat)] S = .ok (.ref S.length) (S ++ T) ∧ f__law_odd [.ref S.length] (S ++ T) = .ok d S' ∧ Odd S' d ∧ (∀ m, d = .ref m → p + 1 ≤ m) ∧ St s p k S' ∧ Same p S S' := by
  obtain ⟨T, e1, lT, s1⟩ := source ns hns j hj S
  obtain ⟨d, S', e2, od, ag, fr, _⟩ := odd_ok s1 (by decide)
  have hp : p < S.length := by obtain ⟨ds, k', h1, h2, h3, h4, h5, h6⟩ := st; exact getlt h4
  have sm : Same p S S' := (Same.app p S T).ag ag (.inl (Nat.le_refl _))
  refine ⟨T, d, S', e1, e2, od, fun m e => ?_, st.keep ?_ sm, sm⟩
  · have := fr m e
    simp at this
    omega
  · obtain ⟨ds, k', h1, h2, h3, h4, h5, h6⟩ := st
    exact ⟨k', (h1.app (T := T)).ag ag (by omega), h2⟩
theorem t8_ok {ns : List Int} (hns : ns.length ≤ 63) {S : Store} {s p : Nat} {k : Int} (st : St s p k S) (hk : k < 2 ^ 30) {v2 v3 v4 v5 v6 v7 v8 v9 v10 v12 v13 v14 v15 v16 v17 v18 : Option D} :
    ∃ x S', b_law_t8 [some (.rol (ns.map D.int)), some (.ref s), v2, v3, v4, v5, v6, v7, v8, v9, v10, none, v12, v13, v14, v15, v16, v17, v18] S = b_law_t9 [some (.rol (ns.map D.int)), some (.ref s), v2, v3, v4, v5, v6, v7, v8, v9, v10, some x, v12, v13, v14, v15, v16, v17, v18] S' ∧ St s p (k + 1) S' ∧
      ((∃ i, x = .int i ∧ ¬ (3 ≤ i ∧ i ≤ 1440)) ∨ Odd S' x) ∧ (∀ m, x = .ref m → p + 1 ≤ m) := by
  obtain ⟨T, d, S1, e1, e2, od, fr, st1, _⟩ := st_odd hns 4 (by omega) st
  have e1 : f__law_source [.rol (ns.map D.int), .int 4] S = .ok (.ref S.length) (S ++ T) := e1
  obtain ⟨W, hW⟩ : ∃ W : List D, W = [.int 2, .int 1441, .int 0, .int (-3), d] := ⟨_, rfl⟩
  have st2 : St s p k (S1 ++ [.lst W]) := st1.keep (by obtain ⟨ds, k', h1, h2, _⟩ := st1; exact ⟨k', h1.app, h2⟩) (.app p _ _)
  obtain ⟨r, S2, r1, r2, q, st3, sm⟩ := st_draw st2 hk (m := 5) (by decide) (by decide)
  have hp : p < S1.length := by obtain ⟨ds, k', h1, h2, h3, h4, h5, h6⟩ := st1; exact getlt h4
  have h3 : S2[S1.length]? = some (.lst W) := by
    rw [sm.2 S1.length (by omega) (by simp)]
    exact last1
  have od2 : Odd S2 d := od.same fr (((Same.app p S1 [Ob.lst W]).trans sm).mono (by omega))
  have z5 : (5 : Nat) ≤ lim := by decide
  obtain ⟨x, hx, hx1, hx2⟩ : ∃ x, atI W r = some x ∧ ((∃ i, x = .int i ∧ ¬ (3 ≤ i ∧ i ≤ 1440)) ∨ Odd S2 x) ∧ (∀ m, x = .ref m → p + 1 ≤ m) := by
    rw [hW]
    have : r = 0 ∨ r = 1 ∨ r = 2 ∨ r = 3 ∨ r = 4 := by omega
    rcases this with rfl | rfl | rfl | rfl | rfl
    · exact ⟨_, rfl, .inl ⟨_, rfl, by omega⟩, fun m e => by cases e⟩
    · exact ⟨_, rfl, .inl ⟨_, rfl, by omega⟩, fun m e => by cases e⟩
    · exact ⟨_, rfl, .inl ⟨_, rfl, by omega⟩, fun m e => by cases e⟩
    · exact ⟨_, rfl, .inl ⟨_, rfl, by omega⟩, fun m e => by cases e⟩
    · exact ⟨_, rfl, .inr od2, fr⟩
  refine ⟨x, S2, ?_, st3, hx1, hx2⟩
  subst hW
  unfold b_law_t8
  generalize b_law_t9 = t
  simp only [mSeq, RS.seq, mIfS, mTest, mSet, mRet, mVar, mC, mNil, mCons, Lk.m1, Lk.m2, mB, mAnd, mOr, mNot, mAndT, mOrT, mNotT, mIf, mAsg, mNext, mCall, R.bind, R.bindS, R.nxt, asB, gSub', mTup, mLst, List.getElem?_cons_succ, List.getElem?_cons_zero, List.getElem?_nil, List.set_cons_succ, List.set_cons_zero, List.map_cons, List.map_nil, List.cons_append, List.nil_append, List.length_cons, List.length_nil, List.replicate, Lk.gIx, Lk.gAdd, Lk.gSub, Lk.gMul, Lk.gDiv, Lk.gMod, gInt, gCmp, gNeg, gAbs, gGcd, gLen, List.length_map, Lk.listOf, stIx, if_true, if_false, Bool.false_eq_true, reduceIte, Nat.reduceAdd, Nat.reduceSub, Nat.zero_add, eqz_int, pow1010, pow1018, pow1019, Int.reduceMul, Int.reduceAdd, ix40, ix41, ix42, ix43, at40, at41, at42, at43, and_true, true_and, and_self, ne_eq, not_false_eq_true, decide_true, decide_false, decide_eq_true_eq, Bool.and_true, Bool.true_and, mFor, iSeq, srcOf, vals, forGo_n, forGo_c, gSet, mRaise1, mSetF, setF, lim_le, Nat.reduceLeDiff, Bool.not_false, Bool.not_true, Nat.lt_irrefl, List.length_append, List.append_assoc, e1, e2, z5, q, h3, hx]
theorem t9_ok {ns : List Int} (hns : ns.length ≤ 63) {S : Store} {s p : Nat} {k : Int} (st : St s p k S) (hk : k < 2 ^ 30) {v2 v3 v4 v5 v6 v7 v8 v9 v10 v11 v13 v14 v15 v16 v17 v18 : Option D} :
    ∃ x S', b_law_t9 [some (.rol (ns.map D.int)), some (.ref s), v2, v3, v4, v5, v6, v7, v8, v9, v10, v11, none, v13, v14, v15, v16, v17, v18] S = b_law_t10 [some (.rol (ns.map D.int)), some (.ref s), v2, v3, v4, v5, v6, v7, v8, v9, v10, v11, some x, v13, v14, v15, v16, v17, v18] S' ∧ St s p (k + 1) S' ∧ Same (p + 1) S S' ∧
      ((∃ i, x = .int i ∧ ¬ (1 ≤ i ∧ i ≤ 24)) ∨ Odd S' x) ∧ (∀ m, x = .ref m → p + 1 ≤ m) := by
  obtain ⟨T, d, S1, e1, e2, od, fr, st1, sm0⟩ := st_odd hns 5 (by omega) st
  have e1 : f__law_source [.rol (ns.map D.int), .int 5] S = .ok (.ref S.length) (S ++ T) := e1
  obtain ⟨W, hW⟩ : ∃ W : List D, W = [.int 0, .int 25, .int (-1), d] := ⟨_, rfl⟩
  have st2 : St s p k (S1 ++ [.lst W]) := st1.keep (by obtain ⟨ds, k', h1, h2, _⟩ := st1; exact ⟨k', h1.app, h2⟩) (.app p _ _)
  obtain ⟨r, S2, r1, r2, q, st3, sm⟩ := st_draw st2 hk (m := 4) (by decide) (by decide)
  have hp : p < S1.length := by obtain ⟨ds, k', h1, h2, h3, h4, h5, h6⟩ := st1; exact getlt h4
  have h3 : S2[S1.length]? = some (.lst W) := by
    rw [sm.2 S1.length (by omega) (by simp)]
    exact last1
  have od2 : Odd S2 d := od.same fr (((Same.app p S1 [Ob.lst W]).trans sm).mono (by omega))
  have z4 : (4 : Nat) ≤ lim := by decide
  obtain ⟨x, hx, hx1, hx2⟩ : ∃ x, atI W r = some x ∧ ((∃ i, x = .int i ∧ ¬ (1 ≤ i ∧ i ≤ 24)) ∨ Odd S2 x) ∧ (∀ m, x = .ref m → p + 1 ≤ m) := by
    rw [hW]
    have : r = 0 ∨ r = 1 ∨ r = 2 ∨ r = 3 := by omega
    rcases this with rfl | rfl | rfl | rfl
    · exact ⟨_, rfl, .inl ⟨_, rfl, by omega⟩, fun m e => by cases e⟩
    · exact ⟨_, rfl, .inl ⟨_, rfl, by omega⟩, fun m e => by cases e⟩
    · exact ⟨_, rfl, .inl ⟨_, rfl, by omega⟩, fun m e => by cases e⟩
    · exact ⟨_, rfl, .inr od2, fr⟩
  refine ⟨x, S2, ?_, st3, ((sm0.trans (Same.app p S1 [Ob.lst W])).trans sm).mono (by omega), hx1, hx2⟩
  subst hW
  unfold b_law_t9
  generalize b_law_t10 = t
  simp only [mSeq, RS.seq, mIfS, mTest, mSet, mRet, mVar, mC, mNil, mCons, Lk.m1, Lk.m2, mB, mAnd, mOr, mNot, mAndT, mOrT, mNotT, mIf, mAsg, mNext, mCall, R.bind, R.bindS, R.nxt, asB, gSub', mTup, mLst, List.getElem?_cons_succ, List.getElem?_cons_zero, List.getElem?_nil, List.set_cons_succ, List.set_cons_zero, List.map_cons, List.map_nil, List.cons_append, List.nil_append, List.length_cons, List.length_nil, List.replicate, Lk.gIx, Lk.gAdd, Lk.gSub, Lk.gMul, Lk.gDiv, Lk.gMod, gInt, gCmp, gNeg, gAbs, gGcd, gLen, List.length_map, Lk.listOf, stIx, if_true, if_false, Bool.false_eq_true, reduceIte, Nat.reduceAdd, Nat.reduceSub, Nat.zero_add, eqz_int, pow1010, pow1018, pow1019, Int.reduceMul, Int.reduceAdd, ix40, ix41, ix42, ix43, at40, at41, at42, at43, and_true, true_and, and_self, ne_eq, not_false_eq_true, decide_true, decide_false, decide_eq_true_eq, Bool.and_true, Bool.true_and, mFor, iSeq, srcOf, vals, forGo_n, forGo_c, gSet, mRaise1, mSetF, setF, lim_le, Nat.reduceLeDiff, Bool.not_false, Bool.not_true, Nat.lt_irrefl, List.length_append, List.append_assoc, e1, e2, z4, q, h3, hx]
/-- the row that is passed -/
theorem t12_ok {ns : List Int} (hns : ns.length ≤ 63) {S : Store} {s p : Nat} {k w : Int} (st : St s p k S) {v1 v2 v3 v5 v6 v7 v8 v9 v11 v12 v13 v14 v16 v17 v18 : Option D} :
    ∃ th S', b_law_t12 [some (.rol (ns.map D.int)), v1, v2, v3, some (.ref p), v5, v6, v7, v8, v9, some (.int w), v11, v12, v13, v14, none, v16, v17, v18] S = b_law_t14 [some (.rol (ns.map D.int)), v1, v2, v3, some (.ref p), v5, v6, v7, v8, v9, some (.int w), v11, v12, v13, v14, some th, v16, v17, v18] S' ∧ Same (p + 1) S S' ∧
      ((∃ ds, Row S' th ds ∧ ∀ x ∈ ds, SV S' x) ∨ Odd S' th) := by
  have last : ∀ (th : D) (S1 : Store), St s p k S1 → Same (p + 1) S S1 → ((∃ ds, Row S1 th ds ∧ ∀ x ∈ ds, SV S1 x) ∨ Odd S1 th) → ∃ th' S', b_law_t13 [some (.rol (ns.map D.int)), v1, v2, v3, some (.ref p), v5, v6, v7, v8, v9, some (.int w), v11, v12, v13, v14, some th, v16, v17, v18] S1 = b_law_t14 [some (.rol (ns.map D.int)), v1, v2, v3, some (.ref p), v5, v6, v7, v8, v9, some (.int w), v11, v12, v13, v14, some th', v16, v17, v18] S' ∧ Same (p + 1) S S' ∧
      ((∃ ds, Row S' th' ds ∧ ∀ x ∈ ds, SV S' x) ∨ Odd S' th') := fun th S1 st1 sm1 hth => by
    by_cases c : 8 < w
    · obtain ⟨ds, k', h1, h2, h3, h4, h5, h6⟩ := st1
      have gt : gTuple [.ref p] S1 = .ok (.tup ds) S1 := gTup (.inr ⟨p, rfl, h4⟩)
      refine ⟨.tup ds, S1, ?_, sm1, .inl ⟨ds, .inl rfl, fun x hx => (h5 x hx).1⟩⟩
      unfold b_law_t13
      generalize b_law_t14 = t
      simp only [mSeq, RS.seq, mIfS, mTest, mSet, mRet, mVar, mC, mNil, mCons, Lk.m1, Lk.m2, mB, mAnd, mOr, mNot, mAndT, mOrT, mNotT, mIf, mAsg, mNext, mCall, R.bind, R.bindS, R.nxt, asB, gSub', mTup, mLst, List.getElem?_cons_succ, List.getElem?_cons_zero, List.getElem?_nil, List.set_cons_succ, List.set_cons_zero, List.map_cons, List.map_nil, List.cons_append, List.nil_append, List.length_cons, List.length_nil, List.replicate, Lk.gIx, Lk.gAdd, Lk.gSub, Lk.gMul, Lk.gDiv, Lk.gMod, gInt, gCmp, gNeg, gAbs, gGcd, gLen, List.length_map, Lk.listOf, stIx, if_true, if_false, Bool.false_eq_true, reduceIte, Nat.reduceAdd, Nat.reduceSub, Nat.zero_add, eqz_int, pow1010, pow1018, pow1019, Int.reduceMul, Int.reduceAdd, ix40, ix41, ix42, ix43, at40, at41, at42, at43, and_true, true_and, and_self, ne_eq, not_false_eq_true, decide_true, decide_false, decide_eq_true_eq, Bool.and_true, Bool.true_and, mFor, iSeq, srcOf, vals, forGo_n, forGo_c, gSet, mRaise1, mSetF, setF, lim_le, Nat.reduceLeDiff, Bool.not_false, Bool.not_true, Nat.lt_irrefl, List.length_append, List.append_assoc, c, gt]
    · refine ⟨th, S1, ?_, sm1, hth⟩
      unfold b_law_t13
      generalize b_law_t14 = t
      simp only [mSeq, RS.seq, mIfS, mTest, mSet, mRet, mVar, mC, mNil, mCons, Lk.m1, Lk.m2, mB, mAnd, mOr, mNot, mAndT, mOrT, mNotT, mIf, mAsg, mNext, mCall, R.bind, R.bindS, R.nxt, asB, gSub', mTup, mLst, List.getElem?_cons_succ, List.getElem?_cons_zero, List.getElem?_nil, List.set_cons_succ, List.set_cons_zero, List.map_cons, List.map_nil, List.cons_append, List.nil_append, List.length_cons, List.length_nil, List.replicate, Lk.gIx, Lk.gAdd, Lk.gSub, Lk.gMul, Lk.gDiv, Lk.gMod, gInt, gCmp, gNeg, gAbs, gGcd, gLen, List.length_map, Lk.listOf, stIx, if_true, if_false, Bool.false_eq_true, reduceIte, Nat.reduceAdd, Nat.reduceSub, Nat.zero_add, eqz_int, pow1010, pow1018, pow1019, Int.reduceMul, Int.reduceAdd, ix40, ix41, ix42, ix43, at40, at41, at42, at43, and_true, true_and, and_self, ne_eq, not_false_eq_true, decide_true, decide_false, decide_eq_true_eq, Bool.and_true, Bool.true_and, mFor, iSeq, srcOf, vals, forGo_n, forGo_c, gSet, mRaise1, mSetF, setF, lim_le, Nat.reduceLeDiff, Bool.not_false, Bool.not_true, Nat.lt_irrefl, List.length_append, List.append_assoc, c]
  by_cases c3 : w = 3
  · obtain ⟨T, d, S1, e1, e2, od, fr, st1, sm0⟩ := st_odd hns 6 (by omega) st
    have e1 : f__law_source [.rol (ns.map D.int), .int 6] S = .ok (.ref S.length) (S ++ T) := e1
    obtain ⟨th', S', e', sm', h'⟩ := last d S1 st1 (sm0.mono (by omega)) (.inr od)
    refine ⟨th', S', ?_, sm', h'⟩
    rw [← e']
    have t0 : (decide (w = 3)) = true := decide_eq_true c3
    unfold b_law_t12
    generalize b_law_t13 = t
    simp only [mSeq, RS.seq, mIfS, mTest, mSet, mRet, mVar, mC, mNil, mCons, Lk.m1, Lk.m2, mB, mAnd, mOr, mNot, mAndT, mOrT, mNotT, mIf, mAsg, mNext, mCall, R.bind, R.bindS, R.nxt, asB, gSub', mTup, mLst, List.getElem?_cons_succ, List.getElem?_cons_zero, List.getElem?_nil, List.set_cons_succ, List.set_cons_zero, List.map_cons, List.map_nil, List.cons_append, List.nil_append, List.length_cons, List.length_nil, List.replicate, Lk.gIx, Lk.gAdd, Lk.gSub, Lk.gMul, Lk.gDiv, Lk.gMod, gInt, gCmp, gNeg, gAbs, gGcd, gLen, List.length_map, Lk.listOf, stIx, if_true, if_false, Bool.false_eq_true, reduceIte, Nat.reduceAdd, Nat.reduceSub, Nat.zero_add, eqz_int, pow1010, pow1018, pow1019, Int.reduceMul, Int.reduceAdd, ix40, ix41, ix42, ix43, at40, at41, at42, at43, and_true, true_and, and_self, ne_eq, not_false_eq_true, decide_true, decide_false, decide_eq_true_eq, Bool.and_true, Bool.true_and, mFor, iSeq, srcOf, vals, forGo_n, forGo_c, gSet, mRaise1, mSetF, setF, lim_le, Nat.reduceLeDiff, Bool.not_false, Bool.not_true, Nat.lt_irrefl, List.length_append, List.append_assoc, t0, e1, e2]
  · obtain ⟨ds, k', h1, h2, h3, h4, h5, h6⟩ := st
    have gl : gList [.ref p] S = .ok (.ref S.length) (S ++ [.lst ds]) := by
      unfold gList
      simp [Lk.listOf, h4]
    have st1 : St s p k (S ++ [.lst ds]) := St.keep ⟨ds, k', h1, h2, h3, h4, h5, h6⟩ ⟨k', h1.app, h2⟩ (.app p _ _)
    obtain ⟨th', S', e', sm', h'⟩ := last (.ref S.length) (S ++ [.lst ds]) st1 (.app _ _ _) (.inl ⟨ds, .inr ⟨_, rfl, last1⟩, fun x hx => (h5 x hx).1.app⟩)
    refine ⟨th', S', ?_, sm', h'⟩
    rw [← e']
    have t0 : (decide (w = 3)) = false := decide_eq_false c3
    unfold b_law_t12
    generalize b_law_t13 = t
    simp only [mSeq, RS.seq, mIfS, mTest, mSet, mRet, mVar, mC, mNil, mCons, Lk.m1, Lk.m2, mB, mAnd, mOr, mNot, mAndT, mOrT, mNotT, mIf, mAsg, mNext, mCall, R.bind, R.bindS, R.nxt, asB, gSub', mTup, mLst, List.getElem?_cons_succ, List.getElem?_cons_zero, List.getElem?_nil, List.set_cons_succ, List.set_cons_zero, List.map_cons, List.map_nil, List.cons_append, List.nil_append, List.length_cons, List.length_nil, List.replicate, Lk.gIx, Lk.gAdd, Lk.gSub, Lk.gMul, Lk.gDiv, Lk.gMod, gInt, gCmp, gNeg, gAbs, gGcd, gLen, List.length_map, Lk.listOf, stIx, if_true, if_false, Bool.false_eq_true, reduceIte, Nat.reduceAdd, Nat.reduceSub, Nat.zero_add, eqz_int, pow1010, pow1018, pow1019, Int.reduceMul, Int.reduceAdd, ix40, ix41, ix42, ix43, at40, at41, at42, at43, and_true, true_and, and_self, ne_eq, not_false_eq_true, decide_true, decide_false, decide_eq_true_eq, Bool.and_true, Bool.true_and, mFor, iSeq, srcOf, vals, forGo_n, forGo_c, gSet, mRaise1, mSetF, setF, lim_le, Nat.reduceLeDiff, Bool.not_false, Bool.not_true, Nat.lt_irrefl, List.length_append, List.append_assoc, t0, gl]
theorem t10_ok {S : Store} {w b e : Int} {x y : D} {v0 v1 v4 v5 v6 v7 v8 v9 v15 v16 v17 v18 : Option D} :
    ∃ mb me, b_law_t10 [v0, v1, some (.int b), some (.int e), v4, v5, v6, v7, v8, v9, some (.int w), some x, some y, none, none, v15, v16, v17, v18] S = b_law_t12 [v0, v1, some (.int b), some (.int e), v4, v5, v6, v7, v8, v9, some (.int w), some x, some y, some mb, some me, v15, v16, v17, v18] S ∧ (mb = .int b ∨ mb = x) ∧ (me = .int e ∨ me = y) := by
  have g1 : gInZ false (.int w) (.tup [.int 0, .int 1]) S = .ok (.bl (decide (w = 0) || decide (w = 1))) S := ginz
  have g2 : gInZ false (.int w) (.tup [.int 1, .int 2]) S = .ok (.bl (decide (w = 1) || decide (w = 2))) S := ginz
  generalize (decide (w = 0) || decide (w = 1)) = p1 at g1
  generalize (decide (w = 1) || decide (w = 2)) = p2 at g2
  refine ⟨if p1 = true then x else .int b, if p2 = true then y else .int e, ?_, by cases p1 <;> simp, by cases p2 <;> simp⟩
  unfold b_law_t10 b_law_t11
  generalize b_law_t12 = t
  cases p1 <;> cases p2 <;> simp only [mSeq, RS.seq, mIfS, mTest, mSet, mRet, mVar, mC, mNil, mCons, Lk.m1, Lk.m2, mB, mAnd, mOr, mNot, mAndT, mOrT, mNotT, mIf, mAsg, mNext, mCall, R.bind, R.bindS, R.nxt, asB, gSub', mTup, mLst, List.getElem?_cons_succ, List.getElem?_cons_zero, List.getElem?_nil, List.set_cons_succ, List.set_cons_zero, List.map_cons, List.map_nil, List.cons_append, List.nil_append, List.length_cons, List.length_nil, List.replicate, Lk.gIx, Lk.gAdd, Lk.gSub, Lk.gMul, Lk.gDiv, Lk.gMod, gInt, gCmp, gNeg, gAbs, gGcd, gLen, List.length_map, Lk.listOf, stIx, if_true, if_false, Bool.false_eq_true, reduceIte, Nat.reduceAdd, Nat.reduceSub, Nat.zero_add, eqz_int, pow1010, pow1018, pow1019, Int.reduceMul, Int.reduceAdd, ix40, ix41, ix42, ix43, at40, at41, at42, at43, and_true, true_and, and_self, ne_eq, not_false_eq_true, decide_true, decide_false, decide_eq_true_eq, Bool.and_true, Bool.true_and, mFor, iSeq, srcOf, vals, forGo_n, forGo_c, gSet, mRaise1, mSetF, setF, lim_le, Nat.reduceLeDiff, Bool.not_false, Bool.not_true, Nat.lt_irrefl, List.length_append, List.append_assoc, g1, g2]
theorem law_ok (ns : List Int) (hl : ns.length ≤ 63) : ∃ S', f_law [.rol (ns.map D.int)] [] = .ok (.bl true) S' := by
  obtain ⟨T0, e0, l0, s0⟩ := source ns hl 0 (by omega) []
  have e0 : f__law_source [.rol (ns.map D.int), .int 0] [] = .ok (.ref 0) T0 := e0
  have s0 : Src T0 0 0 := s0
  obtain ⟨b, S2, e2, hb1, hb2, s2⟩ := t1_ok s0 (by decide) (v0 := some (.rol (ns.map D.int))) (v3 := none) (v4 := none) (v5 := none) (v6 := none) (v7 := none) (v8 := none) (v9 := none) (v10 := none) (v11 := none) (v12 := none) (v13 := none) (v14 := none) (v15 := none) (v16 := none) (v17 := none) (v18 := none)
  obtain ⟨e, S3, e3, he1, he2, s3⟩ := t2_ok s2 (by decide) (v0 := some (.rol (ns.map D.int))) (v2 := some (.int b)) (v4 := none) (v5 := none) (v6 := none) (v7 := none) (v8 := none) (v9 := none) (v10 := none) (v11 := none) (v12 := none) (v13 := none) (v14 := none) (v15 := none) (v16 := none) (v17 := none) (v18 := none)
  obtain ⟨p, S4, e4, st4⟩ := t3_ok hl ⟨hb1, hb2⟩ ⟨he1, he2⟩ s3 (by decide) (v5 := none) (v6 := none) (v7 := none) (v8 := none) (v9 := none) (v10 := none) (v11 := none) (v12 := none) (v13 := none) (v14 := none) (v15 := none) (v16 := none) (v17 := none) (v18 := none)
  obtain ⟨p, S5, e5, st5⟩ := t4_ok (b := b) (e := e) st4 (by decide) (v0 := some (.rol (ns.map D.int))) (v6 := none) (v7 := none) (v8 := none) (v9 := none) (v10 := none) (v11 := none) (v12 := none) (v13 := none) (v14 := none) (v15 := none) (v16 := none) (v17 := none) (v18 := none)
  obtain ⟨sp, S6, e6, sp1, sp2, st6⟩ := t5_ok st5 (by decide) (v0 := some (.rol (ns.map D.int))) (v2 := some (.int b)) (v3 := some (.int e)) (v4 := some (.ref p)) (v5 := none) (v7 := none) (v8 := none) (v9 := none) (v10 := none) (v11 := none) (v12 := none) (v13 := none) (v14 := none) (v15 := none) (v16 := none) (v17 := none) (v18 := none)
  obtain ⟨v5, v7, v8, S7, e7, st7⟩ := t6_ok hl (K := 0 + 3 + 3 + 1 + 2 + 1 + 3) (b := b) (e := e) (by decide) ⟨sp1, sp2⟩ (S := S6) (s := 0) (p := p) (by simpa using st6) (v9 := none) (v10 := none) (v11 := none) (v12 := none) (v13 := none) (v14 := none) (v15 := none) (v16 := none) (v17 := none) (v18 := none)
  obtain ⟨w, S8, e8, st8⟩ := t7_ok st7 (by decide) (v0 := some (.rol (ns.map D.int))) (v2 := some (.int b)) (v3 := some (.int e)) (v4 := some (.ref p)) (v5 := v5) (v6 := some (.int sp)) (v7 := v7) (v8 := v8) (v9 := none) (v11 := none) (v12 := none) (v13 := none) (v14 := none) (v15 := none) (v16 := none) (v17 := none) (v18 := none)
  obtain ⟨x, S9, e9, st9, ox, fx⟩ := t8_ok hl st8 (by decide) (v2 := some (.int b)) (v3 := some (.int e)) (v4 := some (.ref p)) (v5 := v5) (v6 := some (.int sp)) (v7 := v7) (v8 := v8) (v9 := none) (v10 := some (.int w)) (v12 := none) (v13 := none) (v14 := none) (v15 := none) (v16 := none) (v17 := none) (v18 := none)
  obtain ⟨y, S10, e10, st10, sm10, oy, fy⟩ := t9_ok hl st9 (by decide) (v2 := some (.int b)) (v3 := some (.int e)) (v4 := some (.ref p)) (v5 := v5) (v6 := some (.int sp)) (v7 := v7) (v8 := v8) (v9 := none) (v10 := some (.int w)) (v11 := some x) (v13 := none) (v14 := none) (v15 := none) (v16 := none) (v17 := none) (v18 := none)
  obtain ⟨mb, me, e12, hmb, hme⟩ := t10_ok (S := S10) (w := w) (b := b) (e := e) (x := x) (y := y) (v0 := some (.rol (ns.map D.int))) (v1 := some (.ref 0)) (v4 := some (.ref p)) (v5 := v5) (v6 := some (.int sp)) (v7 := v7) (v8 := v8) (v9 := none) (v15 := none) (v16 := none) (v17 := none) (v18 := none)
  obtain ⟨th, S14, e14, sm14, hth⟩ := t12_ok hl (w := w) st10 (v1 := some (.ref 0)) (v2 := some (.int b)) (v3 := some (.int e)) (v5 := v5) (v6 := some (.int sp)) (v7 := v7) (v8 := v8) (v9 := none) (v11 := some x) (v12 := some y) (v13 := some mb) (v14 := some me) (v16 := none) (v17 := none) (v18 := none)
  have hmb' : mb = .int b ∨ (∃ i, mb = .int i ∧ ¬ (3 ≤ i ∧ i ≤ 1440)) ∨ Odd S14 mb := by
    rcases hmb with z | z
    · exact .inl z
    · refine .inr ?_
      rw [z]
      exact ox.imp (fun z => z) fun z => z.same fx (sm10.trans sm14)
  have hme' : me = .int e ∨ (∃ i, me = .int i ∧ ¬ (1 ≤ i ∧ i ≤ 24)) ∨ Odd S14 me := by
    rcases hme with z | z
    · exact .inl z
    · refine .inr ?_
      rw [z]
      exact oy.imp (fun z => z) fun z => z.same fy sm14
  obtain ⟨S15, e15⟩ := tail14 (S := S14) (mb := mb) (me := me) (th := th) ⟨hb1, hb2⟩ ⟨he1, he2⟩ hmb' hme' hth (v0 := some (.rol (ns.map D.int))) (v1 := some (.ref 0)) (v4 := some (.ref p)) (v5 := v5) (v6 := some (.int sp)) (v7 := v7) (v8 := v8) (v9 := none) (v10 := some (.int w)) (v11 := some x) (v12 := some y) (v16 := none) (v17 := none) (v18 := none)
  have hB : b_law [some (.rol (ns.map D.int)), none, none, none, none, none, none, none, none, none, none, none, none, none, none, none, none, none, none] [] = .rt (.bl true) S15 := by
    have h1 : b_law [some (.rol (ns.map D.int)), none, none, none, none, none, none, none, none, none, none, none, none, none, none, none, none, none, none] [] = b_law_t1 [some (.rol (ns.map D.int)), some (.ref 0), none, none, none, none, none, none, none, none, none, none, none, none, none, none, none, none, none] T0 := by
      unfold b_law
      generalize b_law_t1 = t
      simp only [mSeq, RS.seq, mIfS, mTest, mSet, mRet, mVar, mC, mNil, mCons, Lk.m1, Lk.m2, mB, mAnd, mOr, mNot, mAndT, mOrT, mNotT, mIf, mAsg, mNext, mCall, R.bind, R.bindS, R.nxt, asB, gSub', mTup, mLst, List.getElem?_cons_succ, List.getElem?_cons_zero, List.getElem?_nil, List.set_cons_succ, List.set_cons_zero, List.map_cons, List.map_nil, List.cons_append, List.nil_append, List.length_cons, List.length_nil, List.replicate, Lk.gIx, Lk.gAdd, Lk.gSub, Lk.gMul, Lk.gDiv, Lk.gMod, gInt, gCmp, gNeg, gAbs, gGcd, gLen, List.length_map, Lk.listOf, stIx, if_true, if_false, Bool.false_eq_true, reduceIte, Nat.reduceAdd, Nat.reduceSub, Nat.zero_add, eqz_int, pow1010, pow1018, pow1019, Int.reduceMul, Int.reduceAdd, ix40, ix41, ix42, ix43, at40, at41, at42, at43, and_true, true_and, and_self, ne_eq, not_false_eq_true, decide_true, decide_false, decide_eq_true_eq, Bool.and_true, Bool.true_and, mFor, iSeq, srcOf, vals, forGo_n, forGo_c, gSet, mRaise1, mSetF, setF, lim_le, Nat.reduceLeDiff, Bool.not_false, Bool.not_true, Nat.lt_irrefl, List.length_append, List.append_assoc, e0]
    rw [h1, e2, e3, e4, e5, e6, e7, e8, e9, e10, e12, e14, e15]
  have hf : f_law [.rol (ns.map D.int)] [] = gc [] (.bl true) S15 := by
    show mDef 19 b_law [.rol (ns.map D.int)] [] = _
    unfold mDef
    show (match b_law [some (.rol (ns.map D.int)), none, none, none, none, none, none, none, none, none, none, none, none, none, none, none, none, none, none] [] with
      | .nx _ S' => gc [] .non S'
      | .rt d S' => gc [] d S'
      | .ex C xs _ S' => gcX [] C xs S'
      | _ => .bad) = _
    rw [hB]
  rw [hf]
  rcases gc_either (S := []) (S' := S15) (d := .bl true) with ⟨g, _⟩ | g
  · exact ⟨_, g⟩
  · exact ⟨_, g⟩
end Mi_k02

theorem PySem.Challenge.cw_likespans_k02_nets_made_holds : PySem.Challenge.rw_likespans_k02_nets_made.Holds := by
  exact Mi_k02.holds_of Mi_k02.law_ok
