import PyProof.Rows.All
import Wide.All
import OpenK.AllK
import Wide.FinOn
import HandS.ForMost
import HandS.Flow
import HandS.IsInst
import HandS.Wide
import HandS.WideBits
import HandS.Walk
import HandS.Deep
import PyProof.StrOps2
import PyProof.ReprRoads
import HandS.Text
import HandS.Style
import HandS.SortInts
import KE.SortData
import HandS.Small
import HandS.SortKw
import HandS.ClsMeth
import KE.KOpsOwn
import HandS.Property
import HandS.Gcd
import HandS.FStr
import KE.SortKeyHeap
import KE.KOwnIter
import HandS.IterNext
import HandS.IterVal
import HandS.TupSets
import HandS.Ends
import HandS.HeadEnd
import HandS.EndBits
import HandS.Words
import HandS.Defaults
import PyProof.ReprLen
import PySem.Challenge.RW_walksback_k13_whole_bridges
set_option Elab.async false
section
set_option Elab.async false
set_option linter.all false
set_option maxRecDepth 100000
set_option maxHeartbeats 2000000
/-! DenA: data as values (D), what a value stands for (Rp), slots (SV), the relation of slots and heap (Rel). -/
namespace Den
open PySem L2

/-- data as a value: no address in it -/
inductive D where
  | non | bl (b : Bool) | int (i : Int) | str (x : Str) | lst (xs : List D) | tup (xs : List D) | dic (kvs : List (Key × D)) | obj (c : Nat) (fs : List (Str × D)) | scr (ns : List Int) | typ (n : String) | kls (c : Nat)

/-- what is fixed: the written part, the addresses of the own classes -/
structure Pw where
  K : PySem.W.Frag
  cl : Nat → Addr

mutual
/-- v stands for d, by what G tracks -/
inductive Rp (W : Pw) (G : Hp) : V → D → Prop
  | non : Rp W G .non .non
  | bl (b : Bool) : Rp W G (.bl b) (.bl b)
  | int (i : Int) : Rp W G (.int i) (.int i)
  | str (x : Str) : Rp W G (.str x) (.str x)
  | lst {a : Addr} {xs : List V} {ds : List D} : G a = some (.lst xs) → RpAll W G xs ds → Rp W G (.ref a) (.lst ds)
  | scr {a : Addr} {ns : List Int} : SqL W.K G a (ns.map V.int) → Rp W G (.ref a) (.scr ns)
  | tup {a : Addr} {xs : List V} {ds : List D} : G a = some (.tup xs) → RpAll W G xs ds → Rp W G (.ref a) (.tup ds)
  | typ (n : String) : Rp W G (.ty n) (.typ n)
  | kls (c : Nat) : Rp W G (.ref (W.cl c)) (.kls c)
  | dic {a : Addr} {kv : List (Key × V)} {kd : List (Key × D)} : G a = some (.dK kv) → RpK W G kv kd → Rp W G (.ref a) (.dic kd)
  | obj {a dx : Addr} {c : Nat} {fv : List (Str × V)} {fd : List (Str × D)} : G a = some (.ins (W.cl c) dx fv) → RpF W G fv fd → Rp W G (.ref a) (.obj c fd)
inductive RpAll (W : Pw) (G : Hp) : List V → List D → Prop
  | nil : RpAll W G [] []
  | cons {v : V} {vs : List V} {d : D} {ds : List D} : Rp W G v d → RpAll W G vs ds → RpAll W G (v :: vs) (d :: ds)
inductive RpK (W : Pw) (G : Hp) : List (Key × V) → List (Key × D) → Prop
  | nil : RpK W G [] []
  | cons {k : Key} {v : V} {vs : List (Key × V)} {d : D} {ds : List (Key × D)} : Rp W G v d → RpK W G vs ds → RpK W G ((k, v) :: vs) ((k, d) :: ds)
inductive RpF (W : Pw) (G : Hp) : List (Str × V) → List (Str × D) → Prop
  | nil : RpF W G [] []
  | cons {k : Str} {v : V} {vs : List (Str × V)} {d : D} {ds : List (Str × D)} : Rp W G v d → RpF W G vs ds → RpF W G ((k, v) :: vs) ((k, d) :: ds)
end

theorem Same.seqT {K : PySem.W.Frag} {H H' : Hp} {a : Addr} {xs : List V} (e : Same H H') (h : SqT K H a xs) : SqT K H' a xs := by
  rcases h with (h | ⟨o, h⟩) | h
  · exact .inl (.inl (e _ _ h))
  · exact .inl (.inr ⟨o, e _ _ h⟩)
  · exact .inr h

mutual
theorem Rp.mono {W : Pw} {G G' : Hp} (s : Same G G') : ∀ {d : D} {v : V}, Rp W G v d → Rp W G' v d
  | .non, _, h => by cases h; exact .non
  | .bl b, _, h => by cases h; exact .bl b
  | .int i, _, h => by cases h; exact .int i
  | .str x, _, h => by cases h; exact .str x
  | .lst ds, _, h => by cases h with | lst q r => exact .lst (s _ _ q) (RpAll.mono s r)
  | .scr ns, _, h => by cases h with | scr q => exact .scr (s.seq q)
  | .tup ds, _, h => by cases h with | tup q r => exact .tup (s _ _ q) (RpAll.mono s r)
  | .typ n, _, h => by cases h; exact .typ n
  | .kls c, _, h => by cases h; exact .kls c
  | .dic kd, _, h => by cases h with | dic q r => exact .dic (s _ _ q) (RpK.mono s r)
  | .obj c fd, _, h => by cases h with | obj q r => exact .obj (s _ _ q) (RpF.mono s r)
theorem RpAll.mono {W : Pw} {G G' : Hp} (s : Same G G') : ∀ {ds : List D} {vs : List V}, RpAll W G vs ds → RpAll W G' vs ds
  | [], _, h => by cases h; exact .nil
  | d :: ds, _, h => by cases h with | cons a b => exact .cons (Rp.mono s a) (RpAll.mono s b)
theorem RpK.mono {W : Pw} {G G' : Hp} (s : Same G G') : ∀ {ds : List (Key × D)} {vs : List (Key × V)}, RpK W G vs ds → RpK W G' vs ds
  | [], _, h => by cases h; exact .nil
  | (k, d) :: ds, _, h => by cases h with | cons a b => exact .cons (Rp.mono s a) (RpK.mono s b)
theorem RpF.mono {W : Pw} {G G' : Hp} (s : Same G G') : ∀ {ds : List (Str × D)} {vs : List (Str × V)}, RpF W G vs ds → RpF W G' vs ds
  | [], _, h => by cases h; exact .nil
  | (k, d) :: ds, _, h => by cases h with | cons a b => exact .cons (Rp.mono s a) (RpF.mono s b)
end

section
variable {W : Pw} {G : Hp}
theorem RpAll.length : ∀ {vs : List V} {ds : List D}, RpAll W G vs ds → vs.length = ds.length
  | _, _, .nil => rfl
  | _, _, .cons _ r => by simp [RpAll.length r]
theorem RpAll.append : ∀ {xs ys : List V} {ds es : List D}, RpAll W G xs ds → RpAll W G ys es → RpAll W G (xs ++ ys) (ds ++ es)
  | _, _, _, _, .nil, s => s
  | _, _, _, _, .cons a r, s => .cons a (RpAll.append r s)
theorem RpAll.get : ∀ {vs : List V} {ds : List D} {i : Nat} {d : D}, RpAll W G vs ds → ds[i]? = some d → ∃ v, vs[i]? = some v ∧ Rp W G v d
  | _, _, _, _, .nil, e => by simp at e
  | _, _, 0, _, .cons a _, e => by simp at e; subst e; exact ⟨_, rfl, a⟩
  | _, _, i + 1, _, .cons _ r, e => by
    obtain ⟨v, h1, h2⟩ := RpAll.get (i := i) r (by simpa using e)
    exact ⟨v, by simpa using h1, h2⟩
theorem RpAll.getV : ∀ {vs : List V} {ds : List D} {i : Nat} {v : V}, RpAll W G vs ds → vs[i]? = some v → ∃ d, ds[i]? = some d ∧ Rp W G v d
  | _, _, _, _, .nil, e => by simp at e
  | _, _, 0, _, .cons a _, e => by simp at e; subst e; exact ⟨_, rfl, a⟩
  | _, _, i + 1, _, .cons _ r, e => by
    obtain ⟨v, h1, h2⟩ := RpAll.getV (i := i) r (by simpa using e)
    exact ⟨v, by simpa using h1, h2⟩
theorem RpAll.take : ∀ {vs : List V} {ds : List D} (n : Nat), RpAll W G vs ds → RpAll W G (vs.take n) (ds.take n)
  | _, _, 0, _ => .nil
  | _, _, _ + 1, .nil => .nil
  | _, _, n + 1, .cons a r => .cons a (RpAll.take n r)
theorem RpAll.drop : ∀ {vs : List V} {ds : List D} (n : Nat), RpAll W G vs ds → RpAll W G (vs.drop n) (ds.drop n)
  | _, _, 0, r => r
  | _, _, _ + 1, .nil => .nil
  | _, _, n + 1, .cons _ r => RpAll.drop n r
theorem RpAll.set {v : V} {d : D} (r : Rp W G v d) : ∀ {vs : List V} {ds : List D} (i : Nat), RpAll W G vs ds → RpAll W G (vs.set i v) (ds.set i d)
  | _, _, _, .nil => .nil
  | _, _, 0, .cons _ t => .cons r t
  | _, _, i + 1, .cons q t => .cons q (RpAll.set r i t)
theorem RpAll.reverse {vs : List V} {ds : List D} (r : RpAll W G vs ds) : RpAll W G vs.reverse ds.reverse := by
  induction r using RpAll.rec (motive_1 := fun _ _ _ => True) (motive_3 := fun _ _ _ => True) (motive_4 := fun _ _ _ => True) with
  | nil => exact .nil
  | cons a _ _ ih => simp only [List.reverse_cons]; exact RpAll.append ih (.cons a .nil)
  | _ => trivial
end

/-- a slot: nothing known, data that nobody changes, an object of one's own (changed by this name alone), somebody's object that is read, an object of one's own with objects of one's own in it -/
inductive SV where
  | und | dat (d : D) | own (d : D) | bor (d : D) | nst (d : D)

/-- the object o stands for d, the things in it by G -/
inductive Ob (W : Pw) (G : Hp) : HO → D → Prop
  | lst {xs : List V} {ds : List D} : RpAll W G xs ds → Ob W G (.lst xs) (.lst ds)
  | dic {kv : List (Key × V)} {kd : List (Key × D)} : RpK W G kv kd → Ob W G (.dK kv) (.dic kd)
  | obj {c : Nat} {dx : Addr} {fv : List (Str × V)} {fd : List (Str × D)} : RpF W G fv fd → Ob W G (.ins (W.cl c) dx fv) (.obj c fd)
theorem Ob.mono {W : Pw} {G G' : Hp} {o : HO} {d : D} (s : Same G G') (h : Ob W G o d) : Ob W G' o d := by
  cases h with
  | lst r => exact .lst (RpAll.mono s r)
  | dic r => exact .dic (RpK.mono s r)
  | obj r => exact .obj (RpF.mono s r)
/-- an object that is tracked, with what it stands for: frozen -/
theorem Ob.rp {W : Pw} {G : Hp} {a : Addr} {o : HO} {d : D} (e : G a = some o) (h : Ob W G o d) : Rp W G (.ref a) d := by
  cases h with
  | lst r => exact .lst e r
  | dic r => exact .dic e r
  | obj r => exact .obj e r

abbrev Env' := List SV
def SV.isOwn : SV → Bool
  | .own _ => true
  | _ => false
def SV.isObj : SV → Bool
  | .own _ => true
  | .bor _ => true
  | .nst _ => true
  | _ => false
/-- the objects that values are -/
def addrs : List V → List Addr
  | [] => []
  | .ref a :: vs => a :: addrs vs
  | _ :: vs => addrs vs
def kidsO : HO → List Addr
  | .lst xs => addrs xs
  | .dK kv => addrs (kv.map Prod.snd)
  | _ => []
/-- the addresses that a slot has for its own -/
def zone (H : Hp) (x : Option (Option V)) (s : SV) : List Addr := match x with
  | some (some (.ref a)) => (match s with
    | .own _ => [a]
    | .bor _ => [a]
    | .nst _ => a :: (match H a with
      | some o => kidsO o
      | none => [])
    | _ => [])
  | _ => []
/-- objects of one's own within an object -/
inductive Kids (W : Pw) (G H : Hp) : List V → List D → Prop
  | nil : Kids W G H [] []
  | cons {b : Addr} {o : HO} {d : D} {vs : List V} {ds : List D} : H b = some o → G b = none → Ob W G o d → Kids W G H vs ds → Kids W G H (.ref b :: vs) (d :: ds)
inductive NestO (W : Pw) (G H : Hp) : HO → D → Prop
  | lst {xs : List V} {ds : List D} : Kids W G H xs ds → NestO W G H (.lst xs) (.lst ds)
  | dic {kv : List (Key × V)} {kd : List (Key × D)} : kv.map Prod.fst = kd.map Prod.fst → Kids W G H (kv.map Prod.snd) (kd.map Prod.snd) → NestO W G H (.dK kv) (.dic kd)
theorem Kids.mono {W : Pw} {G H G' H' : Hp} (sg : Same G G') : ∀ {vs : List V} {ds : List D}, Kids W G H vs ds → (∀ b u, b ∈ addrs vs → H b = some u → H' b = some u) → (∀ b, b ∈ addrs vs → G b = none → H b ≠ none → G' b = none) → Kids W G' H' vs ds
  | _, _, .nil, _, _ => .nil
  | _, _, .cons (b := b) h g o r, kp, gn => .cons (kp b _ (by simp [addrs]) h) (gn b (by simp [addrs]) g (by rw [h]; simp)) (o.mono sg) (Kids.mono sg r (fun c u m => kp c u (by simp [addrs, m])) fun c m => gn c (by simp [addrs, m]))
theorem NestO.mono {W : Pw} {G H G' H' : Hp} {o : HO} {d : D} (sg : Same G G') (h : NestO W G H o d) (kp : ∀ b u, b ∈ kidsO o → H b = some u → H' b = some u) (gn : ∀ b, b ∈ kidsO o → G b = none → H b ≠ none → G' b = none) : NestO W G' H' o d := by
  cases h with
  | lst k => exact .lst (k.mono sg kp gn)
  | dic e k => exact .dic e (k.mono sg kp gn)
/-- slot x, as s says: G the frozen part, H the heap -/
def SlOk (W : Pw) (G H : Hp) (x : Option (Option V)) : SV → Prop
  | .und => True
  | .dat d => ∃ v, x = some (some v) ∧ Rp W G v d
  | .own d => ∃ a o, x = some (some (.ref a)) ∧ H a = some o ∧ G a = none ∧ Ob W G o d
  | .bor d => ∃ a o, x = some (some (.ref a)) ∧ H a = some o ∧ Ob W G o d
  | .nst d => ∃ a o, x = some (some (.ref a)) ∧ H a = some o ∧ G a = none ∧ NestO W G H o d ∧ (a :: kidsO o).Nodup
/-- b is an object of one's own -/
def IsOwn (σ : St) (env : Env') (b : Addr) : Prop := ∃ (i : Nat) (d : D), env[i]? = some (.own d) ∧ σ[i]? = some (some (.ref b))

/-- what nests have for their own, no other slot has -/
def NstOk (σ : St) (env : Env') (H : Hp) : Prop := ∀ (i j : Nat) (d : D) (s : SV) (c : Addr), env[i]? = some (.nst d) → env[j]? = some s → c ∈ zone H σ[i]? (.nst d) → c ∈ zone H σ[j]? s → i = j
theorem NstOk.map {σ σ' : St} {env env' : Env'} {H H' : Hp} (n : NstOk σ env H)
    (f : ∀ (j : Nat) (s : SV) (c : Addr), env'[j]? = some s → c ∈ zone H' σ'[j]? s → ∃ s0, env[j]? = some s0 ∧ c ∈ zone H σ[j]? s0 ∧ ∀ d, s = .nst d → ∃ d0, s0 = .nst d0) : NstOk σ' env' H' := fun i j d s c h1 h2 h3 h4 => by
  obtain ⟨s1, a1, a2, a3⟩ := f i _ c h1 h3
  obtain ⟨d0, rfl⟩ := a3 d rfl
  obtain ⟨s2, b1, b2, _⟩ := f j _ c h2 h4
  exact n i j d0 s2 c a1 b1 a2 b2
theorem zone_own {H H' : Hp} {x : Option (Option V)} {d d' : D} {c : Addr} (h : c ∈ zone H x (.own d)) : c ∈ zone H' x (.own d') := by
  unfold zone at h ⊢
  split at h
  · exact h
  · cases h
/-- a zone, by a heap that has the same at nests' roots -/
theorem zone_h {H H' : Hp} {x : Option (Option V)} {s : SV} {c : Addr} (h : c ∈ zone H' x s) (k : ∀ d a, s = .nst d → x = some (some (.ref a)) → H' a = H a) : c ∈ zone H x s := by
  unfold zone at h ⊢
  split at h
  · rename_i a
    cases s with
    | nst d => simp only at h ⊢; rw [k d a rfl rfl] at h; exact h
    | _ => exact h
  · cases h
structure Rel (W : Pw) (σ : St) (env : Env') (H G : Hp) : Prop where
  len : σ.length = env.length
  sub : Same G H
  slot : ∀ (i : Nat) (s : SV), env[i]? = some s → SlOk W G H σ[i]? s
  dist : ∀ (i j : Nat) (d : D) (s : SV) (a : Addr), env[i]? = some (.own d) → env[j]? = some s → s.isObj = true → σ[i]? = some (some (.ref a)) → σ[j]? = some (some (.ref a)) → i = j
  nst : NstOk σ env H

/-- what a step leaves: G grows by what is new, what is tracked stays tracked -/
structure Ext (H G H' G' : Hp) : Prop where
  same : Same G G'
  new : ∀ b, H b ≠ none → G b = none → G' b = none
  dom : ∀ b, H' b = none → H b = none
theorem Ext.refl (H G : Hp) : Ext H G H G := ⟨Same.refl G, fun _ _ h => h, fun _ h => h⟩
theorem Ext.trans {H G H1 G1 H2 G2 : Hp} (a : Ext H G H1 G1) (b : Ext H1 G1 H2 G2) : Ext H G H2 G2 :=
  ⟨a.same.trans b.same, fun c h e => b.new c (fun z => h (a.dom c z)) (a.new c h e), fun c h => a.dom c (b.dom c h)⟩

/-- the slots behind an expression: own ones may have changed, a block's are forgotten -/
def LeS : SV → SV → Prop
  | _, .und => True
  | s, .own _ => s.isOwn = true
  | s, t => s = t
structure Le (env env' : Env') : Prop where
  len : env.length = env'.length
  at_ : ∀ (i : Nat) (s s' : SV), env[i]? = some s → env'[i]? = some s' → LeS s s'
theorem LeS.refl (s : SV) : LeS s s := by cases s <;> simp [LeS, SV.isOwn]
theorem LeS.trans {a b c : SV} (h : LeS a b) (k : LeS b c) : LeS a c := by
  cases c <;> cases b <;> cases a <;> simp_all [LeS, SV.isOwn]
theorem Le.refl (env : Env') : Le env env := ⟨rfl, fun i s s' h h' => by rw [h] at h'; cases h'; exact LeS.refl s⟩
theorem Le.trans {a b c : Env'} (h : Le a b) (k : Le b c) : Le a c := ⟨h.len.trans k.len, fun i s s' e e' => by
  have hi : i < b.length := by
    have := (List.getElem?_eq_some_iff.mp e).1
    have := h.len; omega
  exact (h.at_ i s b[i] e (by simp [hi])).trans (k.at_ i b[i] s' (by simp [hi]) e')⟩
theorem Le.own {a b : Env'} (h : Le a b) {i : Nat} {d : D} (e : b[i]? = some (.own d)) : ∃ d', a[i]? = some (.own d') := by
  have hi : i < a.length := by
    have := (List.getElem?_eq_some_iff.mp e).1
    have := h.len; omega
  have q := h.at_ i a[i] _ (by simp [hi]) e
  cases z : a[i] <;> rw [z] at q <;> simp [LeS, SV.isOwn] at q
  exact ⟨_, by rw [List.getElem?_eq_getElem hi, z]⟩
theorem IsOwn.le {σ : St} {a b : Env'} (h : Le a b) {c : Addr} (o : IsOwn σ b c) : IsOwn σ a c := by
  obtain ⟨i, d, e, s⟩ := o
  obtain ⟨d', e'⟩ := h.own e
  exact ⟨i, d', e', s⟩

/-- behind an expression -/
structure Step (W : Pw) (σ : St) (env : Env') (H G : Hp) (env' : Env') (H' G' : Hp) : Prop where
  le : Le env env'
  rel : Rel W σ env' H' G'
  ext : Ext H G H' G'
  keep : ∀ b o, H b = some o → ¬ IsOwn σ env b → H' b = some o
theorem Step.refl {W : Pw} {σ : St} {env : Env'} {H G : Hp} (r : Rel W σ env H G) : Step W σ env H G env H G := ⟨Le.refl _, r, Ext.refl _ _, fun _ _ h _ => h⟩
theorem Step.trans {W : Pw} {σ : St} {env env1 env2 : Env'} {H G H1 G1 H2 G2 : Hp} (a : Step W σ env H G env1 H1 G1) (b : Step W σ env1 H1 G1 env2 H2 G2) : Step W σ env H G env2 H2 G2 :=
  ⟨a.le.trans b.le, b.rel, a.ext.trans b.ext, fun c o h n => b.keep c o (a.keep c o h n) fun z => n (z.le a.le)⟩

/-- an expression's value -/
inductive RV where
  | dat (d : D) | own (d : D) | slot (i : Nat)
/-- what the value holds now -/
def RV.cont (env : Env') : RV → Option D
  | .dat d => some d
  | .own d => some d
  | .slot i => match env[i]? with
    | some (.own d) => some d
    | some (.bor d) => some d
    | _ => none

/-- v is the value rv, behind a step from H to H' -/
def RvOk (W : Pw) (σ : St) (H H' G' : Hp) (v : V) : RV → Prop
  | .dat d => Rp W G' v d
  | .own d => ∃ a o, v = .ref a ∧ H' a = some o ∧ G' a = none ∧ H a = none ∧ Ob W G' o d
  | .slot i => ∃ a, v = .ref a ∧ σ[i]? = some (some (.ref a))
/-- behind a further step -/
theorem RvOk.step {W : Pw} {σ : St} {env env' : Env'} {H H1 G1 H2 G2 : Hp} {v : V} {rv : RV} (h : RvOk W σ H H1 G1 v rv) (r : Rel W σ env H1 G1) (hn : ∀ b, IsOwn σ env b → H b ≠ none) (s : Step W σ env H1 G1 env' H2 G2) : RvOk W σ H H2 G2 v rv := by
  cases rv with
  | dat d => exact Rp.mono s.ext.same h
  | own d =>
    obtain ⟨a, o, e, h1, g1, h0, ob⟩ := h
    have na : ¬ IsOwn σ env a := fun z => hn a z h0
    exact ⟨a, o, e, s.keep a o h1 na, s.ext.new a (by rw [h1]; simp) g1, h0, ob.mono s.ext.same⟩
  | slot i => exact h
theorem Rel.ownNe {W : Pw} {σ : St} {env : Env'} {H G : Hp} (r : Rel W σ env H G) {b : Addr} (o : IsOwn σ env b) : H b ≠ none := by
  obtain ⟨i, d, e, s⟩ := o
  obtain ⟨a, ob, h1, h2, _⟩ := r.slot i _ e
  rw [s] at h1
  cases h1
  rw [h2]; simp
theorem Step.ownNe {W : Pw} {σ : St} {env env' : Env'} {H G H' G' : Hp} (r : Rel W σ env H G) (s : Step W σ env H G env' H' G') {b : Addr} (o : IsOwn σ env' b) : H b ≠ none := r.ownNe (o.le s.le)

section
variable {W : Pw}
/-- b is an object of one's own, or one of a nest -/
def Mine (σ : St) (env : Env') (H : Hp) (b : Addr) : Prop := IsOwn σ env b ∨ ∃ (i : Nat) (d : D), env[i]? = some (.nst d) ∧ b ∈ zone H σ[i]? (.nst d)
/-- what is behind a step a nest's, was one's ahead of it -/
theorem Le.nst {a b : Env'} (h : Le a b) {i : Nat} {d : D} (e : b[i]? = some (.nst d)) : a[i]? = some (.nst d) := by
  have hi : i < a.length := by
    have := (List.getElem?_eq_some_iff.mp e).1
    have := h.len; omega
  have q : a[i] = .nst d := h.at_ i a[i] _ (by simp [hi]) e
  rw [List.getElem?_eq_getElem hi, q]
/-- a nest's own objects aren't slots' own ones -/
theorem Rel.zoneOwn {σ : St} {env : Env'} {H G : Hp} (r : Rel W σ env H G) {i : Nat} {d : D} {b : Addr} (hi : env[i]? = some (.nst d)) (hb : b ∈ zone H σ[i]? (.nst d)) : ¬ IsOwn σ env b := fun ⟨j, d', h1, h2⟩ => by
  have e := r.nst i j d (.own d') b hi h1 hb (by rw [h2]; simp [zone])
  subst e
  rw [hi] at h1; cases h1
theorem Rel.nstRoot {σ : St} {env : Env'} {H G : Hp} (r : Rel W σ env H G) {i : Nat} {d : D} (hi : env[i]? = some (.nst d)) : ∃ a o, σ[i]? = some (some (.ref a)) ∧ H a = some o ∧ zone H σ[i]? (.nst d) = a :: kidsO o ∧ G a = none ∧ NestO W G H o d ∧ (a :: kidsO o).Nodup := by
  obtain ⟨a, o, h1, h2, h3, h4, h5⟩ := r.slot i _ hi
  exact ⟨a, o, h1, h2, by rw [h1]; simp [zone, h2], h3, h4, h5⟩
theorem Kids.inH {G H : Hp} : ∀ {vs : List V} {ds : List D}, Kids W G H vs ds → ∀ b ∈ addrs vs, ∃ o, H b = some o ∧ G b = none
  | _, _, .nil, b, m => by simp [addrs] at m
  | _, _, .cons h g o r, b, m => by
    simp only [addrs, List.mem_cons] at m
    rcases m with rfl | m
    · exact ⟨_, h, g⟩
    · exact Kids.inH r b m
theorem NestO.inH {G H : Hp} {o : HO} {d : D} (h : NestO W G H o d) : ∀ b ∈ kidsO o, ∃ u, H b = some u ∧ G b = none := by
  cases h with
  | lst k => exact k.inH
  | dic _ k => exact k.inH
theorem Rel.zoneH {σ : St} {env : Env'} {H G : Hp} (r : Rel W σ env H G) {i : Nat} {d : D} {b : Addr} (hi : env[i]? = some (.nst d)) (hb : b ∈ zone H σ[i]? (.nst d)) : ∃ u, H b = some u ∧ G b = none := by
  obtain ⟨a, o, h1, h2, h3, h4, h5, _⟩ := r.nstRoot hi
  rw [h3] at hb
  simp only [List.mem_cons] at hb
  rcases hb with rfl | hb
  · exact ⟨o, h2, h4⟩
  · exact h5.inH b hb
theorem Rel.mineNe {σ : St} {env : Env'} {H G : Hp} (r : Rel W σ env H G) {b : Addr} (m : Mine σ env H b) : H b ≠ none := by
  rcases m with m | ⟨i, d, h1, h2⟩
  · exact r.ownNe m
  · obtain ⟨u, h3, _⟩ := r.zoneH h1 h2
    rw [h3]; simp
/-- a step leaves the nests' own objects -/
theorem Step.mine {σ : St} {env env' : Env'} {H G H' G' : Hp} (r : Rel W σ env H G) (s : Step W σ env H G env' H' G') {b : Addr} (m : Mine σ env' H' b) : Mine σ env H b := by
  rcases m with m | ⟨i, d, h1, h2⟩
  · exact .inl (m.le s.le)
  · have h0 := s.le.nst h1
    refine .inr ⟨i, d, h0, zone_h h2 fun d' a _ e => ?_⟩
    obtain ⟨a', o, q1, q2, q3, _⟩ := r.nstRoot h0
    rw [e] at q1; cases q1
    rw [q2]
    exact s.keep a o q2 (r.zoneOwn h0 (by rw [q3]; simp))
theorem Step.mineNe {σ : St} {env env' : Env'} {H G H' G' : Hp} (r : Rel W σ env H G) (s : Step W σ env H G env' H' G') {b : Addr} (m : Mine σ env' H' b) : H b ≠ none := r.mineNe (s.mine r m)
end

/-- v shows d: frozen or flat data, or an object that stands in H -/
inductive Vw (W : Pw) (G H : Hp) (v : V) (d : D) : Prop where
  | rp (h : Rp W G v d)
  | ob {a : Addr} {o : HO} (e : v = .ref a) (h : H a = some o) (q : Ob W G o d)
theorem RvOk.vw {W : Pw} {σ : St} {env : Env'} {H H' G' : Hp} {v : V} {rv : RV} {d : D} (h : RvOk W σ H H' G' v rv) (r : Rel W σ env H' G') (c : rv.cont env = some d) : Vw W G' H' v d := by
  cases rv with
  | dat e => simp [RV.cont] at c; subst c; exact .rp h
  | own e => simp [RV.cont] at c; subst c; obtain ⟨a, o, e1, h1, _, _, ob⟩ := h; exact .ob e1 h1 ob
  | slot i =>
    obtain ⟨a, e1, e2⟩ := h
    simp only [RV.cont] at c
    split at c
    · rename_i d' ed
      cases c
      obtain ⟨a', o, h1, h2, _, ob⟩ := r.slot i _ ed
      rw [e2] at h1; cases h1
      exact .ob e1 h2 ob
    · rename_i d' ed
      cases c
      obtain ⟨a', o, h1, h2, ob⟩ := r.slot i _ ed
      rw [e2] at h1; cases h1
      exact .ob e1 h2 ob
    · cases c
section
variable {W : Pw} {G H : Hp} {v : V}
theorem Vw.lst {ds : List D} (s : Same G H) (h : Vw W G H v (.lst ds)) : ∃ a vs, v = .ref a ∧ H a = some (.lst vs) ∧ RpAll W G vs ds := by
  cases h with
  | rp h => cases h with | lst q r => exact ⟨_, _, rfl, s _ _ q, r⟩
  | ob e h q => cases q with | lst r => exact ⟨_, _, e, h, r⟩
theorem Vw.scr {ns : List Int} (s : Same G H) (h : Vw W G H v (.scr ns)) : ∃ a, v = .ref a ∧ SqL W.K H a (ns.map V.int) := by
  cases h with
  | rp h => cases h with | scr q => exact ⟨_, rfl, s.seq q⟩
  | ob e h q => cases q
theorem Vw.tup {ds : List D} (s : Same G H) (h : Vw W G H v (.tup ds)) : ∃ a vs, v = .ref a ∧ H a = some (.tup vs) ∧ RpAll W G vs ds := by
  cases h with
  | rp h => cases h with | tup q r => exact ⟨_, _, rfl, s _ _ q, r⟩
  | ob e h q => cases q
theorem Vw.dic {ds : List (Key × D)} (s : Same G H) (h : Vw W G H v (.dic ds)) : ∃ a vs, v = .ref a ∧ H a = some (.dK vs) ∧ RpK W G vs ds := by
  cases h with
  | rp h => cases h with | dic q r => exact ⟨_, _, rfl, s _ _ q, r⟩
  | ob e h q => cases q with | dic r => exact ⟨_, _, e, h, r⟩
theorem Vw.obj {c : Nat} {fd : List (Str × D)} (s : Same G H) (h : Vw W G H v (.obj c fd)) : ∃ a dx fv, v = .ref a ∧ H a = some (.ins (W.cl c) dx fv) ∧ RpF W G fv fd := by
  cases h with
  | rp h => cases h with | obj q r => exact ⟨_, _, _, rfl, s _ _ q, r⟩
  | ob e h q => cases q with | obj r => exact ⟨_, _, _, e, h, r⟩
theorem Vw.typ {n : String} (h : Vw W G H v (.typ n)) : v = .ty n := by
  cases h with
  | rp h => cases h; rfl
  | ob e h q => cases q
theorem Vw.kls {c : Nat} (h : Vw W G H v (.kls c)) : v = .ref (W.cl c) := by
  cases h with
  | rp h => cases h; rfl
  | ob e h q => cases q
theorem Vw.str {x : Str} (h : Vw W G H v (.str x)) : v = .str x := by
  cases h with
  | rp h => cases h; rfl
  | ob e h q => cases q
theorem Vw.int {i : Int} (h : Vw W G H v (.int i)) : v = .int i := by
  cases h with
  | rp h => cases h; rfl
  | ob e h q => cases q
theorem Vw.bl {b : Bool} (h : Vw W G H v (.bl b)) : v = .bl b := by
  cases h with
  | rp h => cases h; rfl
  | ob e h q => cases q
theorem Vw.non (h : Vw W G H v .non) : v = .non := by
  cases h with
  | rp h => cases h; rfl
  | ob e h q => cases q
end

/-! ### the canonical readings -/
abbrev PF := Env' → Option (RV × Env')
def tE (W : Pw) (P : PF) : TE := fun σ H Q => ∃ env G rv env', Rel W σ env H G ∧ P env = some (rv, env') ∧ ∀ v H' G', Step W σ env H G env' H' G' → RvOk W σ H H' G' v rv → Q v H'
theorem PE.weak {X : Cx} {e : Expr} {t t' : TE} (h : PE X e t) (k : ∀ σ H Q, t' σ H Q → t σ H Q) : PE X e t' := ⟨fun pins s σ H Q I q => h.run pins s σ H Q I (k σ H Q q)⟩
theorem PT.weak {X : Cx} {e : Expr} {t t' : TT} (h : PT X e t) (k : ∀ σ H Q, t' σ H Q → t σ H Q) : PT X e t' := ⟨fun pins s σ H Q I q => h.run pins s σ H Q I (k σ H Q q)⟩
theorem PS.weak {X : Cx} {e : Stmt} {t t' : TS} (h : PS X e t) (k : ∀ D σ H, t' D σ H → t D σ H) : PS X e t' := ⟨fun pins s σ H D I q => h.run pins s σ H D I (k D σ H q)⟩
theorem PSs.weak {X : Cx} {e : List Stmt} {t t' : TS} (h : PSs X e t) (k : ∀ D σ H, t' D σ H → t D σ H) : PSs X e t' := ⟨fun pins s σ H D I q => h.run pins s σ H D I (k D σ H q)⟩
theorem PA.weak {X : Cx} {e : List Expr} {t t' : TA} (h : PA X e t) (k : ∀ σ H Q, t' σ H Q → t σ H Q) : PA X e t' := ⟨fun pos pins s σ H Q I q => h.run pos pins s σ H Q I (k σ H Q q)⟩

section
variable {W : Pw} {σ : St} {env e1 e2 : Env'} {H G : Hp}
/-- one operand -/
theorem tE_one {P : PF} {rv : RV} (r : Rel W σ env H G) (p : P env = some (rv, e1)) {Q : VK} (k : ∀ v H' G', Step W σ env H G e1 H' G' → RvOk W σ H H' G' v rv → Q v H') : tE W P σ H Q := ⟨env, G, rv, e1, r, p, k⟩
/-- two operands, one behind the other -/
theorem tE_two {P P' : PF} {ra rb : RV} (r : Rel W σ env H G) (p : P env = some (ra, e1)) (p' : P' e1 = some (rb, e2)) {R : V → V → Hp → Prop}
    (k : ∀ x y H' G', Step W σ env H G e2 H' G' → RvOk W σ H H' G' x ra → RvOk W σ H H' G' y rb → R x y H') : tE W P σ H fun x H1 => tE W P' σ H1 fun y H2 => R x y H2 := by
  refine ⟨env, G, ra, e1, r, p, fun v H1 G1 s1 o1 => ⟨e1, G1, rb, e2, s1.rel, p', fun u H2 G2 s2 o2 => ?_⟩⟩
  refine k v u H2 G2 (s1.trans s2) (o1.step s1.rel (fun b z => s1.ownNe r z) s2) ?_
  cases rb with
  | dat d => exact o2
  | own d =>
    obtain ⟨a, o, h1, h2, h3, h4, h5⟩ := o2
    exact ⟨a, o, h1, h2, h3, s1.ext.dom a h4, h5⟩
  | slot i => exact o2
end
end Den
end

section
set_option Elab.async false
set_option linter.all false
set_option maxRecDepth 100000
set_option maxHeartbeats 2000000
/-! DenB: expressions: constants, names, operators, tests, displays, arguments. -/
namespace Den
open PySem L2

/-- what an operation leaves that changes nothing that was there: a value that is no slot -/
structure NR (W : Pw) (H G : Hp) (v : V) (rv : RV) (H' G' : Hp) : Prop where
  kept : Same H H'
  ext : Ext H G H' G'
  sub : Same G' H'
  ok : match rv with
    | .dat d => Rp W G' v d
    | .own d => ∃ a o, v = .ref a ∧ H' a = some o ∧ G' a = none ∧ H a = none ∧ Ob W G' o d
    | .slot _ => False
theorem NR.dat {W : Pw} {H G : Hp} {v : V} {d : D} (s : Same G H) (h : Rp W G v d) : NR W H G v (.dat d) H G := ⟨Same.refl _, Ext.refl _ _, s, h⟩
theorem same_upd {H : Hp} {p : Addr} {o : HO} (n : H p = none) : Same H (upd H p o) := fun b u e => by rw [upd_ne (ne_of_none e n)]; exact e
theorem NR.own {W : Pw} {H G : Hp} {p : Addr} {o : HO} {d : D} (s : Same G H) (n : H p = none) (h : Ob W G o d) : NR W H G (.ref p) (.own d) (upd H p o) G := by
  have gp : G p = none := s.free n
  refine ⟨same_upd n, ⟨Same.refl _, fun _ _ h => h, fun b h => ?_⟩, s.trans (same_upd n), ⟨p, o, rfl, upd_same, gp, n, h⟩⟩
  by_cases e : b = p
  · subst e; exact n
  · rw [upd_ne e] at h; exact h
/-- a new object that is frozen at once -/
theorem NR.frz {W : Pw} {H G : Hp} {p : Addr} {o : HO} {d : D} (s : Same G H) (n : H p = none) (h : Rp W (upd G p o) (.ref p) d) : NR W H G (.ref p) (.dat d) (upd H p o) (upd G p o) := by
  have gp : G p = none := s.free n
  refine ⟨same_upd n, ⟨same_upd gp, fun b hb g => ?_, fun b h => ?_⟩, fun b u e => ?_, h⟩
  · have e : b ≠ p := fun z => hb (z ▸ n)
    rw [upd_ne e]; exact g
  · by_cases e : b = p
    · subst e; exact n
    · rw [upd_ne e] at h; exact h
  · by_cases z : b = p
    · subst z; rw [upd_same] at e ⊢; exact e
    · rw [upd_ne z] at e ⊢; exact s b u e
theorem Rel.grow {W : Pw} {σ : St} {env : Env'} {H G H' G' : Hp} (r : Rel W σ env H G) (k : Same H H') (e : Ext H G H' G') (s : Same G' H') : Rel W σ env H' G' := by
  refine ⟨r.len, s, fun i t h => ?_, r.dist, r.nst.map fun j t c h1 h2 => ⟨t, h1, zone_h h2 fun d a e1 e2 => ?_, fun d e => ⟨d, e⟩⟩⟩
  rotate_left
  · subst e1
    obtain ⟨a', o, q1, q2, _⟩ := r.slot j _ h1
    rw [e2] at q1; cases q1
    rw [q2]; exact k a o q2
  have q := r.slot i t h
  cases t with
  | und => trivial
  | dat d => obtain ⟨v, h1, h2⟩ := q; exact ⟨v, h1, Rp.mono e.same h2⟩
  | own d => obtain ⟨a, o, h1, h2, h3, h4⟩ := q; exact ⟨a, o, h1, k a o h2, e.new a (by rw [h2]; simp) h3, h4.mono e.same⟩
  | bor d => obtain ⟨a, o, h1, h2, h4⟩ := q; exact ⟨a, o, h1, k a o h2, h4.mono e.same⟩
  | nst d => obtain ⟨a, o, h1, h2, h3, h4, h5⟩ := q; exact ⟨a, o, h1, k a o h2, e.new a (by rw [h2]; simp) h3, h4.mono e.same (fun b u _ z => k b u z) (fun b _ z y => e.new b y z), h5⟩
theorem NR.step {W : Pw} {σ : St} {env : Env'} {H G H' G' : Hp} {v : V} {rv : RV} (n : NR W H G v rv H' G') (r : Rel W σ env H G) : Step W σ env H G env H' G' :=
  ⟨Le.refl _, r.grow n.kept n.ext n.sub, n.ext, fun b o h _ => n.kept b o h⟩
theorem NR.rv {W : Pw} {σ : St} {H0 H G H' G' : Hp} {v : V} {rv : RV} (n : NR W H G v rv H' G') (dom : ∀ b, H b = none → H0 b = none) : RvOk W σ H0 H' G' v rv := by
  have q := n.ok
  cases rv with
  | dat d => exact q
  | own d => obtain ⟨a, o, h1, h2, h3, h4, h5⟩ := q; exact ⟨a, o, h1, h2, h3, dom a h4, h5⟩
  | slot i => exact q.elim

/-! ### constants, names -/
abbrev PD (X : Cx) (W : Pw) (P : PF) (e : Expr) : Prop := PE X e (tE W P)
def pC (d : D) : PF := fun env => some (.dat d, env)
section
variable {X : Cx} {W : Pw}
theorem pd_flat {e : Expr} {v : V} {d : D} (h : PE X e (tC v)) (f : ∀ G, Rp W G v d) : PD X W (pC d) e := PE.weak h fun σ H Q ⟨env, G, rv, env', r, p, k⟩ => by
  simp only [pC, Option.some.injEq, Prod.mk.injEq] at p
  obtain ⟨rfl, rfl⟩ := p
  exact k v H G (Step.refl r) (f G)
theorem pd_int {i j pos} : PD X W (pC (.int i)) (.Constant (.int i) j pos) := pd_flat pe_int fun _ => .int i
theorem pd_bl {b j pos} : PD X W (pC (.bl b)) (.Constant (.bool b) j pos) := pd_flat pe_bl fun _ => .bl b
theorem pd_non {j pos} : PD X W (pC .non) (.Constant .none j pos) := pd_flat pe_non fun _ => .non
theorem pd_str {x j pos} : PD X W (pC (.str x)) (.Constant (.str x) j pos) := pd_flat pe_str fun _ => .str x
def pVar (i : Nat) : PF := fun env => match env[i]? with
  | some (.dat d) => some (.dat d, env)
  | some (.own _) => some (.slot i, env)
  | some (.bor _) => some (.slot i, env)
  | _ => none
theorem pd_var {i : Nat} {e : Expr} (h : PE X e (tVar i)) : PD X W (pVar i) e := PE.weak h fun σ H Q ⟨env, G, rv, env', r, p, k⟩ => by
  unfold pVar at p
  split at p
  · rename_i d hd
    cases p
    obtain ⟨v, h1, h2⟩ := r.slot i _ hd
    exact ⟨v, h1, k v H G (Step.refl r) h2⟩
  · rename_i d hd
    cases p
    obtain ⟨a, o, h1, _⟩ := r.slot i _ hd
    exact ⟨.ref a, h1, k _ H G (Step.refl r) ⟨a, rfl, h1⟩⟩
  · rename_i d hd
    cases p
    obtain ⟨a, o, h1, _⟩ := r.slot i _ hd
    exact ⟨.ref a, h1, k _ H G (Step.refl r) ⟨a, rfl, h1⟩⟩
  · cases p

/-! ### two operands -/
def pBin (f : D → D → Option RV) (P P' : PF) : PF := fun env => do
  let (ra, e1) ← P env
  let (rb, e2) ← P' e1
  let x ← ra.cont e2
  let y ← rb.cont e2
  let z ← f x y
  some (z, e2)
/-- the reading r gives what f tells -/
def OpD (W : Pw) (r : R2) (f : D → D → Option RV) : Prop := ∀ (x y : V) (d e : D) (G H : Hp) (Q : VK) (z : RV), Same G H → Vw W G H x d → Vw W G H y e → f d e = some z →
  (∀ v H' G', NR W H G v z H' G' → Q v H') → r x y H Q
theorem pBin_some {f : D → D → Option RV} {P P' : PF} {env env' : Env'} {rv : RV} (h : pBin f P P' env = some (rv, env')) :
    ∃ ra e1 rb x y, P env = some (ra, e1) ∧ P' e1 = some (rb, env') ∧ ra.cont env' = some x ∧ rb.cont env' = some y ∧ f x y = some rv := by
  unfold pBin at h
  simp only [Option.bind_eq_bind, Option.bind_eq_some_iff, Prod.exists, Option.some.injEq, Prod.mk.injEq] at h
  obtain ⟨ra, e1, h1, rb, e2, h2, x, h3, y, h4, z, h5, rfl, rfl⟩ := h
  exact ⟨ra, e1, rb, x, y, h1, h2, h3, h4, h5⟩
theorem op_tE {r : R2} {f : D → D → Option RV} (o : OpD W r f) {P P' : PF} {σ : St} {H : Hp} {Q : VK} (h : tE W (pBin f P P') σ H Q) : tOp r (tE W P) (tE W P') σ H Q := by
  obtain ⟨env, G, rv, env', rl, p, k⟩ := h
  obtain ⟨ra, e1, rb, x, y, h1, h2, h3, h4, h5⟩ := pBin_some p
  refine tE_two rl h1 h2 fun u v H1 G1 s o1 o2 => o u v x y G1 H1 Q rv s.rel.sub (o1.vw s.rel h3) (o2.vw s.rel h4) h5 fun w H2 G2 n => ?_
  exact k w H2 G2 (s.trans (n.step s.rel)) (n.rv s.ext.dom)
theorem pd_bin {op : Operator} {r : R2} {f : D → D → Option RV} {a b : Expr} {P P' : PF} {pos : Pos} (ho : OpR X (binaryOp op) r) (o : OpD W r f) (ha : PD X W P a) (hb : PD X W P' b) : PD X W (pBin f P P') (.BinOp a op b pos) :=
  PE.weak (pe_op ho ha hb) fun _ _ _ h => op_tE o h
def notSet : Expr → Bool
  | .Set .. => false
  | _ => true
theorem nomarks {op : CmpOp} {b : Expr} (h : notSet b = true) : behindInMarks op b = false := by cases b <;> first | rfl | cases h
theorem pd_cmp {op : CmpOp} {r : R2} {f : D → D → Option RV} {a b : Expr} {P P' : PF} {pos : Pos} (ho : OpR X (compareOp op) r) (o : OpD W r f) (ha : PD X W P a) (hb : PD X W P' b) (hn : notSet b = true) : PD X W (pBin f P P') (.Compare a [op] [b] pos) :=
  PE.weak (pe_cmpR ho ha hb (nomarks hn)) fun _ _ _ h => op_tE o h

/-! ### one operand -/
def pUn (f : D → Option RV) (P : PF) : PF := fun env => do
  let (ra, e1) ← P env
  let x ← ra.cont e1
  let z ← f x
  some (z, e1)
def UnD (W : Pw) (r : V → Hp → VK → Prop) (f : D → Option RV) : Prop := ∀ (x : V) (d : D) (G H : Hp) (Q : VK) (z : RV), Same G H → Vw W G H x d → f d = some z → (∀ v H' G', NR W H G v z H' G' → Q v H') → r x H Q
theorem un_tE {r : V → Hp → VK → Prop} {f : D → Option RV} (o : UnD W r f) {P : PF} {σ : St} {H : Hp} {Q : VK} (h : tE W (pUn f P) σ H Q) : tUn r (tE W P) σ H Q := by
  obtain ⟨env, G, rv, env', rl, p, k⟩ := h
  unfold pUn at p
  simp only [Option.bind_eq_bind, Option.bind_eq_some_iff, Prod.exists, Option.some.injEq, Prod.mk.injEq] at p
  obtain ⟨ra, e1, h1, x, h3, z, h5, rfl, rfl⟩ := p
  refine tE_one rl h1 fun u H1 G1 s o1 => o u x G1 H1 Q z s.rel.sub (o1.vw s.rel h3) h5 fun w H2 G2 n => ?_
  exact k w H2 G2 (s.trans (n.step s.rel)) (n.rv s.ext.dom)
theorem pd_un {op : UnaryOp} {r : V → Hp → VK → Prop} {f : D → Option RV} {a : Expr} {P : PF} {pos : Pos} (ho : UnR X (unaryOp op) r) (o : UnD W r f) (ha : PD X W P a) : PD X W (pUn f P) (.UnaryOp op a pos) :=
  PE.weak (pe_un ho ha) fun _ _ _ h => un_tE o h

/-! ### tests -/
abbrev BF := Env' → Option (Bool × Env')
def tT (W : Pw) (P : BF) : TT := fun σ H Q => ∃ env G b env', Rel W σ env H G ∧ P env = some (b, env') ∧ ∀ H' G', Step W σ env H G env' H' G' → Q b H'
abbrev PTD (X : Cx) (W : Pw) (P : BF) (e : Expr) : Prop := PT X e (tT W P)
/-- a value as a test: a truth, None, an int, a text, a list, a tuple -/
def truthD : D → Option Bool
  | .non => some false
  | .bl b => some b
  | .int i => some (i != 0)
  | .str x => if x.length ≤ sizeLine then some (x.length != 0) else none
  | .lst xs => some (!xs.isEmpty)
  | .tup xs => some (!xs.isEmpty)
  | _ => none
def bTruth (P : PF) : BF := fun env => do
  let (ra, e1) ← P env
  let x ← ra.cont e1
  let b ← truthD x
  some (b, e1)
theorem RpAll.isEmpty {G : Hp} {vs : List V} {ds : List D} (r : RpAll W G vs ds) : vs.isEmpty = ds.isEmpty := by cases r <;> rfl
theorem truV_of {G H : Hp} {x : V} {d : D} {b : Bool} (s : Same G H) (h : Vw W G H x d) (t : truthD d = some b) : TruV W.K x H b := by
  cases d with
  | non => cases h.non; cases t; rfl
  | bl c => cases h.bl; cases t; rfl
  | int i => cases h.int; cases t; rfl
  | str z =>
    cases h.str
    simp only [truthD] at t
    split at t
    · cases t
      refine ⟨by assumption, ?_⟩
      rw [Bool.eq_iff_iff]
      simp
    · cases t
  | lst xs =>
    obtain ⟨a, vs, rfl, q, r⟩ := h.lst s
    cases t
    exact .inl ⟨vs, SqL.of q, by rw [RpAll.isEmpty r]⟩
  | tup xs =>
    obtain ⟨a, vs, rfl, q, r⟩ := h.tup s
    cases t
    exact .inr (.inl ⟨vs, SqT.of q, by rw [RpAll.isEmpty r]⟩)
  | dic _ => cases t
  | obj _ _ => cases t
  | scr _ => cases t
  | typ _ => cases t
  | kls _ => cases t
theorem bTruth_some {P : PF} {env env' : Env'} {b : Bool} (h : bTruth P env = some (b, env')) : ∃ ra x, P env = some (ra, env') ∧ ra.cont env' = some x ∧ truthD x = some b := by
  unfold bTruth at h
  simp only [Option.bind_eq_bind, Option.bind_eq_some_iff, Prod.exists, Option.some.injEq, Prod.mk.injEq] at h
  obtain ⟨ra, e1, h1, x, h2, c, h3, rfl, rfl⟩ := h
  exact ⟨ra, x, h1, h2, h3⟩
theorem ptd_truth {a : Expr} {P : PF} (hK : X.K = W.K) (h : PD X W P a) (he : ∀ whole, isTrue a X.env whole = (do let v ← whole; standAt a.pos; holding [v] (truthy v))) : PTD X W (bTruth P) a :=
  PT.weak (pt_truth h he) fun σ H Q ⟨env, G, b, env', r, p, k⟩ => by
    obtain ⟨ra, x, h1, h2, h3⟩ := bTruth_some p
    refine tE_one r h1 fun v H1 G1 s o => ⟨b, ?_, k H1 G1 s⟩
    rw [hK]
    exact truV_of s.rel.sub (o.vw s.rel h2) h3
/-- a comparison as a test -/
def bVal (P : PF) : BF := fun env => match P env with
  | some (.dat (.bl b), e1) => some (b, e1)
  | _ => none
theorem bVal_some {P : PF} {env env' : Env'} {b : Bool} (h : bVal P env = some (b, env')) : P env = some (.dat (.bl b), env') := by
  unfold bVal at h
  split at h
  · cases h; assumption
  · cases h
theorem test_tE {P : PF} {σ : St} {H : Hp} {Q : Bool → Hp → Prop} (h : tT W (bVal P) σ H Q) : tE W P σ H fun x H' => ∃ k, x = .bl k ∧ Q k H' := by
  obtain ⟨env, G, b, env', r, p, k⟩ := h
  refine tE_one r (bVal_some p) fun v H1 G1 s o => ?_
  cases o
  exact ⟨b, rfl, k H1 G1 s⟩
theorem ptd_cmp {op : CmpOp} {r : R2} {f : D → D → Option RV} {a b : Expr} {P P' : PF} {pos : Pos} (ho : OpR X (compareOp op) r) (o : OpD W r f) (ha : PD X W P a) (hb : PD X W P' b) (hn : notSet b = true) : PTD X W (bVal (pBin f P P')) (.Compare a [op] [b] pos) :=
  PT.weak (pt_cmpR ho ha hb (nomarks hn)) fun σ H Q h => op_tE o (test_tE h)
def bNot (P : BF) : BF := fun env => (P env).map fun r => (!r.1, r.2)
theorem ptd_not {a : Expr} {P : BF} {pos : Pos} (h : PTD X W P a) : PTD X W (bNot P) (.UnaryOp .Not a pos) := PT.weak (pt_not h) fun σ H Q ⟨env, G, b, env', r, p, k⟩ => by
  unfold bNot at p
  simp only [Option.map_eq_some_iff, Prod.exists, Prod.mk.injEq] at p
  obtain ⟨c, e1, h1, rfl, rfl⟩ := p
  exact ⟨env, G, c, e1, r, h1, k⟩
def bAnd (P P' : BF) : BF := fun env => (P env).bind fun r => if r.1 then P' r.2 else some (false, r.2)
def bOr (P P' : BF) : BF := fun env => (P env).bind fun r => if r.1 then some (true, r.2) else P' r.2
theorem and_tT {P P' : BF} {σ : St} {H : Hp} {Q : Bool → Hp → Prop} (h : tT W (bAnd P P') σ H Q) : tAnd (tT W P) (tT W P') σ H Q := by
  obtain ⟨env, G, b, env', r, p, k⟩ := h
  unfold bAnd at p
  simp only [Option.bind_eq_some_iff, Prod.exists] at p
  obtain ⟨c, e1, h1, p⟩ := p
  refine ⟨env, G, c, e1, r, h1, fun H1 G1 s => ?_⟩
  cases c with
  | true => exact ⟨e1, G1, b, env', s.rel, p, fun H2 G2 s2 => k H2 G2 (s.trans s2)⟩
  | false => cases p; exact k H1 G1 s
theorem or_tT {P P' : BF} {σ : St} {H : Hp} {Q : Bool → Hp → Prop} (h : tT W (bOr P P') σ H Q) : tOr (tT W P) (tT W P') σ H Q := by
  obtain ⟨env, G, b, env', r, p, k⟩ := h
  unfold bOr at p
  simp only [Option.bind_eq_some_iff, Prod.exists] at p
  obtain ⟨c, e1, h1, p⟩ := p
  refine ⟨env, G, c, e1, r, h1, fun H1 G1 s => ?_⟩
  cases c with
  | false => exact ⟨e1, G1, b, env', s.rel, p, fun H2 G2 s2 => k H2 G2 (s.trans s2)⟩
  | true => cases p; exact k H1 G1 s
abbrev PWD (X : Cx) (W : Pw) (P : BF) (e : Expr) : Prop := PW X e (tT W P)
theorem PW.weak {X : Cx} {e : Expr} {t t' : TT} (h : PW X e t) (k : ∀ σ H Q, t' σ H Q → t σ H Q) : PW X e t' := ⟨fun wh pins s σ H Q I q => h.run wh pins s σ H Q I (k σ H Q q)⟩
theorem pwd_and1 {a : Expr} {P : BF} {pos : Pos} (h : PTD X W P a) : PWD X W P (.BoolOp .And [a] pos) := pw_and1 h
theorem pwd_or1 {a : Expr} {P : BF} {pos : Pos} (h : PTD X W P a) : PWD X W P (.BoolOp .Or [a] pos) := pw_or1 h
theorem pwd_and {a b : Expr} {rest : List Expr} {P P' : BF} {pos : Pos} (h : PTD X W P a) (h' : PWD X W P' (.BoolOp .And (b :: rest) pos)) : PWD X W (bAnd P P') (.BoolOp .And (a :: b :: rest) pos) := PW.weak (pw_and h h') fun _ _ _ q => and_tT q
theorem pwd_or {a b : Expr} {rest : List Expr} {P P' : BF} {pos : Pos} (h : PTD X W P a) (h' : PWD X W P' (.BoolOp .Or (b :: rest) pos)) : PWD X W (bOr P P') (.BoolOp .Or (a :: b :: rest) pos) := PW.weak (pw_or h h') fun _ _ _ q => or_tT q

/-! ### and, or, not, if as values -/
def pIf (c : BF) (P P' : PF) : PF := fun env => (c env).bind fun r => if r.1 then P r.2 else P' r.2
theorem RvOk.base {σ : St} {H H1 H2 G2 : Hp} {v : V} {rv : RV} (h : RvOk W σ H1 H2 G2 v rv) (d : ∀ b, H1 b = none → H b = none) : RvOk W σ H H2 G2 v rv := by
  cases rv with
  | dat _ => exact h
  | own _ => obtain ⟨a, o, h1, h2, h3, h4, h5⟩ := h; exact ⟨a, o, h1, h2, h3, d a h4, h5⟩
  | slot _ => exact h
theorem pd_if {c a b : Expr} {pc : BF} {P P' : PF} {pos : Pos} (hc : PTD X W pc c) (ha : PD X W P a) (hb : PD X W P' b) : PD X W (pIf pc P P') (.IfExp c a b pos) := PE.weak (pe_ifExp hc ha hb) fun σ H Q ⟨env, G, rv, env', r, p, k⟩ => by
  unfold pIf at p
  simp only [Option.bind_eq_some_iff, Prod.exists] at p
  obtain ⟨d, e1, h1, p⟩ := p
  refine ⟨env, G, d, e1, r, h1, fun H1 G1 s => ?_⟩
  cases d with
  | true => exact ⟨e1, G1, rv, env', s.rel, p, fun v H2 G2 s2 o => k v H2 G2 (s.trans s2) (o.base s.ext.dom)⟩
  | false => exact ⟨e1, G1, rv, env', s.rel, p, fun v H2 G2 s2 o => k v H2 G2 (s.trans s2) (o.base s.ext.dom)⟩
def pAnd (P P' : PF) : PF := fun env => do
  let (ra, e1) ← P env
  let x ← ra.cont e1
  let b ← truthD x
  if b then P' e1 else some (ra, e1)
def pOr (P P' : PF) : PF := fun env => do
  let (ra, e1) ← P env
  let x ← ra.cont e1
  let b ← truthD x
  if b then some (ra, e1) else P' e1
theorem pd_one {op : BoolOp} {a : Expr} {P : PF} {pos : Pos} (h : PD X W P a) : PD X W P (.BoolOp op [a] pos) := pe_one h
theorem pd_and {a b : Expr} {rest : List Expr} {P P' : PF} {pos : Pos} (hK : X.K = W.K) (h : PD X W P a) (h' : PD X W P' (.BoolOp .And (b :: rest) pos)) : PD X W (pAnd P P') (.BoolOp .And (a :: b :: rest) pos) := PE.weak (pe_andT h h') fun σ H Q ⟨env, G, rv, env', r, p, k⟩ => by
  unfold pAnd at p
  simp only [Option.bind_eq_bind, Option.bind_eq_some_iff, Prod.exists] at p
  obtain ⟨ra, e1, h1, x, h2, c, h3, p⟩ := p
  refine tE_one r h1 fun v H1 G1 s o => ⟨c, by rw [hK]; exact truV_of s.rel.sub (o.vw s.rel h2) h3, ?_⟩
  cases c with
  | true => exact ⟨e1, G1, rv, env', s.rel, p, fun v H2 G2 s2 o => k v H2 G2 (s.trans s2) (o.base s.ext.dom)⟩
  | false => cases p; exact k v H1 G1 s o
theorem pd_or {a b : Expr} {rest : List Expr} {P P' : PF} {pos : Pos} (hK : X.K = W.K) (h : PD X W P a) (h' : PD X W P' (.BoolOp .Or (b :: rest) pos)) : PD X W (pOr P P') (.BoolOp .Or (a :: b :: rest) pos) := PE.weak (pe_orT h h') fun σ H Q ⟨env, G, rv, env', r, p, k⟩ => by
  unfold pOr at p
  simp only [Option.bind_eq_bind, Option.bind_eq_some_iff, Prod.exists] at p
  obtain ⟨ra, e1, h1, x, h2, c, h3, p⟩ := p
  refine tE_one r h1 fun v H1 G1 s o => ⟨c, by rw [hK]; exact truV_of s.rel.sub (o.vw s.rel h2) h3, ?_⟩
  cases c with
  | false => exact ⟨e1, G1, rv, env', s.rel, p, fun v H2 G2 s2 o => k v H2 G2 (s.trans s2) (o.base s.ext.dom)⟩
  | true => cases p; exact k v H1 G1 s o
def pNot (P : PF) : PF := pUn (fun d => (truthD d).map fun b => .dat (.bl (!b))) P
theorem pd_not {a : Expr} {P : PF} {pos : Pos} (hK : X.K = W.K) (h : PD X W P a) : PD X W (pNot P) (.UnaryOp .Not a pos) := PE.weak (pe_notT h) fun σ H Q q => by
  refine un_tE (r := fun x H1 Q => ∃ k, TruV X.K x H1 k ∧ Q (.bl (!k)) H1) (fun x d G H Q z sb w e kk => ?_) q
  simp only [Option.map_eq_some_iff] at e
  obtain ⟨b, hb, rfl⟩ := e
  exact ⟨b, by rw [hK]; exact truV_of sb w hb, kk _ _ _ (NR.dat sb (.bl _))⟩

/-! ### argument lists -/
inductive RvsOk (W : Pw) (σ : St) (H H' G' : Hp) : List V → List RV → Prop
  | nil : RvsOk W σ H H' G' [] []
  | cons {v : V} {rv : RV} {vs : List V} {rvs : List RV} : RvOk W σ H H' G' v rv → (∀ (d e : D) (i : Nat), rv = RV.own d → rvs[i]? = some (RV.own e) → vs[i]? ≠ some v) → RvsOk W σ H H' G' vs rvs → RvsOk W σ H H' G' (v :: vs) (rv :: rvs)
theorem RvsOk.length {σ : St} {H H' G' : Hp} : ∀ {vs : List V} {rvs : List RV}, RvsOk W σ H H' G' vs rvs → vs.length = rvs.length
  | _, _, .nil => rfl
  | _, _, .cons _ _ r => by simp [RvsOk.length r]
theorem RvsOk.get {σ : St} {H H' G' : Hp} : ∀ {vs : List V} {rvs : List RV} {i : Nat} {rv : RV}, RvsOk W σ H H' G' vs rvs → rvs[i]? = some rv → ∃ v, vs[i]? = some v ∧ RvOk W σ H H' G' v rv
  | _, _, _, _, .nil, e => by simp at e
  | _, _, 0, _, .cons h _ _, e => by simp at e; subst e; exact ⟨_, rfl, h⟩
  | _, _, i + 1, _, .cons _ _ r, e => by
    obtain ⟨v, h1, h2⟩ := RvsOk.get (i := i) r (by simpa using e)
    exact ⟨v, by simpa using h1, h2⟩
theorem RvsOk.base {σ : St} {H H1 H2 G2 : Hp} (d : ∀ b, H1 b = none → H b = none) : ∀ {vs : List V} {rvs : List RV}, RvsOk W σ H1 H2 G2 vs rvs → RvsOk W σ H H2 G2 vs rvs
  | _, _, .nil => .nil
  | _, _, .cons h n r => .cons (h.base d) n (RvsOk.base d r)
abbrev PAF := Env' → Option (List RV × Env')
def tA (W : Pw) (P : PAF) : TA := fun σ H Q => ∃ env G rvs env', Rel W σ env H G ∧ P env = some (rvs, env') ∧ ∀ vs H' G', Step W σ env H G env' H' G' → RvsOk W σ H H' G' vs rvs → Q vs H'
abbrev PAD (X : Cx) (W : Pw) (P : PAF) (es : List Expr) : Prop := PA X es (tA W P)
def aNil : PAF := fun env => some ([], env)
def aCons (P : PF) (P' : PAF) : PAF := fun env => do
  let (r, e1) ← P env
  let (rs, e2) ← P' e1
  some (r :: rs, e2)
theorem pad_nil : PAD X W aNil [] := PA.weak pa_nil fun σ H Q ⟨env, G, rvs, env', r, p, k⟩ => by
  cases p
  exact k [] H G (Step.refl r) .nil
theorem RvsOk.fresh {σ : St} {H1 H2 G2 : Hp} {a : Addr} (h0 : H1 a ≠ none) : ∀ {vs : List V} {rvs : List RV} {i : Nat} {e : D}, RvsOk W σ H1 H2 G2 vs rvs → rvs[i]? = some (.own e) → vs[i]? ≠ some (.ref a)
  | vs, rvs, i, e, r, q => fun z => by
    obtain ⟨v, h1, h2⟩ := r.get q
    rw [z] at h1; cases h1
    obtain ⟨a', o, e1, _, _, e4, _⟩ := h2
    cases e1
    exact h0 e4
theorem pad_cons {e : Expr} {es : List Expr} {P : PF} {P' : PAF} (h : PD X W P e) (h' : PAD X W P' es) (hs : starEach (e :: es) X.env = (false, eval e X.env) :: starEach es X.env) : PAD X W (aCons P P') (e :: es) := PA.weak (pa_cons h h' hs) fun σ H Q ⟨env, G, rvs, env', r, p, k⟩ => by
  unfold aCons at p
  simp only [Option.bind_eq_bind, Option.bind_eq_some_iff, Prod.exists, Option.some.injEq, Prod.mk.injEq] at p
  obtain ⟨rv, e1, h1, rs, e2, h2, rfl, rfl⟩ := p
  refine tE_one r h1 fun v H1 G1 s o => ⟨e1, G1, rs, e2, s.rel, h2, fun vs H2 G2 s2 o2 => ?_⟩
  refine k (v :: vs) H2 G2 (s.trans s2) (.cons (o.step s.rel (fun b z => s.ownNe r z) s2) (fun d e i ed er => ?_) (o2.base s.ext.dom))
  subst ed
  obtain ⟨a, ob, ea, ha, _⟩ := o
  subst ea
  exact o2.fresh (by rw [ha]; simp) er
/-- no star -/
def notStar : Expr → Bool
  | .Starred .. => false
  | _ => true
theorem star_plain {e : Expr} {es : List Expr} {env : Env} (h : notStar e = true) : starEach (e :: es) env = (false, eval e env) :: starEach es env := by
  cases e <;> first | rfl | cases h

/-! ### frozen all -/
/-- what a list of values shows -/
def conts (env : Env') : List RV → Option (List D)
  | [] => some []
  | r :: rs => do
    let d ← r.cont env
    let ds ← conts env rs
    some (d :: ds)
/-- values that are put into something: no slot's own object -/
def RV.dt : RV → Option D
  | .dat d => some d
  | .own d => some d
  | .slot _ => none
def dts : List RV → Option (List D)
  | [] => some []
  | r :: rs => do
    let d ← r.dt
    let ds ← dts rs
    some (d :: ds)
/-- own objects that are let go of: from here on they are frozen -/
theorem RvsOk.freeze {σ : St} {env : Env'} : ∀ {vs : List V} {rvs : List RV} {ds : List D} {H H' G' : Hp}, RvsOk W σ H H' G' vs rvs → Rel W σ env H' G' → (∀ b, Mine σ env H' b → H b ≠ none) → dts rvs = some ds →
    ∃ G2, Same G' G2 ∧ Rel W σ env H' G2 ∧ (∀ b, H b ≠ none → G' b = none → G2 b = none) ∧ RpAll W G2 vs ds
  | _, _, _, H, H', G', .nil, r, _, e => by cases e; exact ⟨G', Same.refl _, r, fun _ _ h => h, .nil⟩
  | _, _, _, H, H', G', .cons (v := v) (rv := rv) (vs := vs) (rvs := rvs) h n rr, r, hn, e => by
    simp only [dts, Option.bind_eq_bind, Option.bind_eq_some_iff, Option.some.injEq] at e
    obtain ⟨d, h1, ds, h2, rfl⟩ := e
    obtain ⟨G2, s2, r2, k2, q2⟩ := RvsOk.freeze rr r hn h2
    cases rv with
    | dat d' => cases h1; exact ⟨G2, s2, r2, k2, .cons (Rp.mono s2 h) q2⟩
    | slot i => cases h1
    | own d' =>
      cases h1
      obtain ⟨a, o, rfl, ha, ga, h0, ob⟩ := h
      have na : ¬ IsOwn σ env a := fun z => hn a (.inl z) h0
      by_cases g2 : G2 a = none
      · have sg : Same G2 (upd G2 a o) := same_upd g2
        refine ⟨upd G2 a o, s2.trans sg, ⟨r2.len, fun b u e => ?_, fun i t ht => ?_, r2.dist, r2.nst⟩, fun b hb gb => ?_, .cons ((ob.mono (s2.trans sg)).rp upd_same) (RpAll.mono sg q2)⟩
        · by_cases z : b = a
          · subst z; rw [upd_same] at e; cases e; exact ha
          · rw [upd_ne z] at e; exact r2.sub b u e
        · have q := r2.slot i t ht
          have nz : ∀ d, t = .nst d → a ∉ zone H' σ[i]? (.nst d) := fun d e z => by subst e; exact hn a (.inr ⟨i, d, ht, z⟩) h0
          cases t with
          | und => trivial
          | dat d => obtain ⟨v, h1, h2⟩ := q; exact ⟨v, h1, Rp.mono sg h2⟩
          | own d =>
            obtain ⟨b, o', h1, h2, h3, h4⟩ := q
            have ne : b ≠ a := fun z => na ⟨i, d, ht, by rw [h1, z]⟩
            exact ⟨b, o', h1, h2, by rw [upd_ne ne]; exact h3, h4.mono sg⟩
          | bor d => obtain ⟨b, o', h1, h2, h4⟩ := q; exact ⟨b, o', h1, h2, h4.mono sg⟩
          | nst d =>
            obtain ⟨b, o', h1, h2, h3, h4, h5⟩ := q
            have nz' : a ∉ b :: kidsO o' := by have := nz d rfl; rw [h1] at this; simpa [zone, h2] using this
            exact ⟨b, o', h1, h2, by rw [upd_ne (fun z => nz' (by simp [z]))]; exact h3, h4.mono sg (fun _ _ _ z => z) (fun c m z _ => by rw [upd_ne (fun z => nz' (by rw [← z]; exact List.mem_cons_of_mem _ m))]; exact z), h5⟩
        · have ne : b ≠ a := fun z => hb (z ▸ h0)
          rw [upd_ne ne]; exact k2 b hb gb
      · cases g : G2 a with
        | none => exact (g2 g).elim
        | some u =>
          have e := r2.sub a u g
          rw [ha] at e; cases e
          exact ⟨G2, s2, r2, k2, .cons ((ob.mono s2).rp g) q2⟩
end
end Den
end

section
set_option Elab.async false
set_option linter.all false
set_option maxRecDepth 100000
set_option maxHeartbeats 2000000
/-! DenC: the operators by data. -/
namespace Den
open PySem L2 PySem.Spec PyProof.Rows

mutual
def toPy : D → Option PyData
  | .non => some .none
  | .bl b => some (.bool b)
  | .int i => some (.int i)
  | .str x => some (.str x)
  | .lst xs => (toPyAll xs).map .list
  | .tup xs => (toPyAll xs).map .tuple
  | .dic _ => none
  | .obj _ _ => none
  | .scr _ => none
  | .typ _ => none
  | .kls _ => none
def toPyAll : List D → Option (List PyData)
  | [] => some []
  | d :: ds => match toPy d, toPyAll ds with
    | some p, some ps => some (p :: ps)
    | _, _ => none
end
section
variable {W : Pw} {G : Hp}
mutual
theorem Rp.dp : ∀ {d : D} {v : V} {p : PyData}, Rp W G v d → toPy d = some p → Dp W.K G v p
  | .non, _, _, h, e => by cases h; cases e; exact .non
  | .bl b, _, _, h, e => by cases h; cases e; exact .bl b
  | .int i, _, _, h, e => by cases h; cases e; exact .int i
  | .str x, _, _, h, e => by cases h; cases e; exact .str x
  | .lst xs, _, _, h, e => by
    cases h with
    | lst q r =>
      simp only [toPy, Option.map_eq_some_iff] at e
      obtain ⟨ps, e1, rfl⟩ := e
      exact .lst (SqL.of q) (RpAll.dp r e1)
  | .tup xs, _, _, h, e => by
    cases h with
    | tup q r =>
      simp only [toPy, Option.map_eq_some_iff] at e
      obtain ⟨ps, e1, rfl⟩ := e
      exact .tup (SqT.of q) (RpAll.dp r e1)
  | .dic _, _, _, _, e => by simp [toPy] at e
  | .obj _ _, _, _, _, e => by simp [toPy] at e
  | .scr _, _, _, _, e => by simp [toPy] at e
  | .typ _, _, _, _, e => by simp [toPy] at e
  | .kls _, _, _, _, e => by simp [toPy] at e
theorem RpAll.dp : ∀ {ds : List D} {vs : List V} {ps : List PyData}, RpAll W G vs ds → toPyAll ds = some ps → DpAll W.K G vs ps
  | [], _, _, h, e => by cases h; cases e; exact .nil
  | d :: ds, _, _, h, e => by
    cases h with
    | cons a b =>
      simp only [toPyAll] at e
      split at e
      · rename_i p qs e1 e2
        cases e
        exact .cons (Rp.dp a e1) (RpAll.dp b e2)
      · cases e
end
end
mutual
theorem Dp.mono' {K : PySem.W.Frag} {G H : Hp} (s : Same G H) : ∀ {p : PyData} {v : V}, Dp K G v p → Dp K H v p
  | .none, _, h => by cases h; exact .non
  | .bool b, _, h => by cases h; exact .bl b
  | .int i, _, h => by cases h; exact .int i
  | .str x, _, h => by cases h; exact .str x
  | .list ds, _, h => by cases h with | lst q r => exact .lst (s.seq q) (DpAll.mono' s r)
  | .tuple ds, _, h => by cases h with | tup q r => exact .tup (Same.seqT s q) (DpAll.mono' s r)
  | .dict _, _, h => by cases h
theorem DpAll.mono' {K : PySem.W.Frag} {G H : Hp} (s : Same G H) : ∀ {ps : List PyData} {vs : List V}, DpAll K G vs ps → DpAll K H vs ps
  | [], _, h => by cases h; exact .nil
  | p :: ps, _, h => by cases h with | cons a b => exact .cons (Dp.mono' s a) (DpAll.mono' s b)
end
section
variable {W : Pw} {G H : Hp} {v : V}
theorem Vw.dp {d : D} {p : PyData} (s : Same G H) (h : Vw W G H v d) (e : toPy d = some p) : Dp W.K H v p := by
  cases h with
  | rp h => exact Dp.mono' s (Rp.dp h e)
  | ob ev h q =>
    subst ev
    cases q with
    | lst r =>
      simp only [toPy, Option.map_eq_some_iff] at e
      obtain ⟨ps, e1, rfl⟩ := e
      exact .lst (SqL.of h) (DpAll.mono' s (RpAll.dp r e1))
    | dic r => simp [toPy] at e
    | obj r => simp [toPy] at e
end

/-- two readings of one operation -/
theorem OpR.or {X : Cx} {f : Value → Value → Sem Value} {r r' : R2} (h : OpR X f r) (h' : OpR X f r') : OpR X f (fun x y H Q => r x y H Q ∨ r' x y H Q) :=
  fun pins s σ H x y v u Q I rx ry q => q.elim (h pins s σ H x y v u Q I rx ry) (h' pins s σ H x y v u Q I rx ry)

section
variable {X : Cx} {W : Pw}

/-! ### + - * // % ** -/
def addD : D → D → Option RV
  | .int i, .int j => some (.dat (.int (i + j)))
  | .str x, .str y => if x.length + y.length ≤ sizeLine then some (.dat (.str (x ++ y))) else none
  | .lst xs, .lst ys => if xs.length + ys.length ≤ sizeLine then some (.own (.lst (xs ++ ys))) else none
  | _, _ => none
def rAdd : R2 := fun x y H Q => ((rI0 fun i j => .int (i + j)) x y H Q ∨ (∃ i j, x = .str i ∧ y = .str j ∧ i.length + j.length ≤ sizeLine ∧ Q (.str (i ++ j)) H)) ∨ rCat x y H Q
theorem opr_add : OpR X (binaryOp .Add) rAdd := (op_add.or op_add_str).or op_cat
theorem opd_add : OpD W rAdd addD := by
  intro x y d e G H Q z s vx vy hf k
  unfold addD at hf
  split at hf
  · cases vx.int; cases vy.int; cases hf
    exact .inl (.inl ⟨_, _, rfl, rfl, k _ _ _ (NR.dat s (.int _))⟩)
  · cases vx.str; cases vy.str
    split at hf
    · cases hf
      exact .inl (.inr ⟨_, _, rfl, rfl, by assumption, k _ _ _ (NR.dat s (.str _))⟩)
    · cases hf
  · obtain ⟨a, vs, rfl, ha, ra⟩ := vx.lst s
    obtain ⟨b, ws, rfl, hb, rb⟩ := vy.lst s
    split at hf
    · rename_i hz
      cases hf
      refine .inr ⟨a, b, vs, ws, rfl, rfl, ha, hb, by rw [ra.length, rb.length]; exact hz, fun p hp => k _ _ _ (NR.own s hp (.lst (ra.append rb)))⟩
    · cases hf
  · cases hf
/-- an operation of two ints under a condition -/
def intD (C : Int → Int → Bool) (g : Int → Int → D) : D → D → Option RV
  | .int i, .int j => if C i j then some (.dat (g i j)) else none
  | _, _ => none
theorem opd_int {C : Int → Int → Prop} {Cb : Int → Int → Bool} {g : Int → Int → V} {gd : Int → Int → D} (hC : ∀ i j, Cb i j = true → C i j) (hg : ∀ G i j, Rp W G (g i j) (gd i j)) : OpD W (rI C g) (intD Cb gd) := by
  intro x y d e G H Q z s vx vy hf k
  unfold intD at hf
  split at hf
  · cases vx.int; cases vy.int
    split at hf
    · rename_i hz
      cases hf
      exact ⟨_, _, rfl, rfl, hC _ _ hz, k _ _ _ (NR.dat s (hg _ _ _))⟩
    · cases hf
  · cases hf
theorem rI0_I {g : Int → Int → V} {x y : V} {H : Hp} {Q : VK} (h : rI (fun _ _ => True) g x y H Q) : rI0 g x y H Q := by
  obtain ⟨i, j, h1, h2, _, h3⟩ := h
  exact ⟨i, j, h1, h2, h3⟩
theorem opd_int0 {g : Int → Int → V} {gd : Int → Int → D} (hg : ∀ G i j, Rp W G (g i j) (gd i j)) : OpD W (rI0 g) (intD (fun _ _ => true) gd) :=
  fun x y d e G H Q z s vx vy hf k => rI0_I (opd_int (C := fun _ _ => True) (fun _ _ _ => trivial) hg x y d e G H Q z s vx vy hf k)
def subD : D → D → Option RV := intD (fun _ _ => true) fun i j => .int (i - j)
theorem opd_sub : OpD W (rI0 fun i j => .int (i - j)) subD := opd_int0 fun _ _ _ => .int _
def mulB (i j : Int) : Bool := (decide (-(2 ^ 64) < i) && decide (i < 2 ^ 64)) || (decide (-(2 ^ 64) < j) && decide (j < 2 ^ 64))
theorem mulB_ok {i j : Int} (h : mulB i j = true) : CMul i j := by
  unfold mulB at h
  simp only [Bool.or_eq_true, Bool.and_eq_true, decide_eq_true_eq] at h
  exact h
def rMul : R2 := fun x y H Q => rI CMul (fun i j => .int (i * j)) x y H Q ∨ rRep x y H Q
theorem opr_mul : OpR X (binaryOp .Mult) rMul := op_mul.or op_rep
def mulD : D → D → Option RV
  | .int i, .int j => if mulB i j then some (.dat (.int (i * j))) else none
  | .lst xs, .int k => if -(2 ^ 63) ≤ k ∧ k < 2 ^ 63 ∧ xs.length * k.toNat ≤ sizeLine then some (.own (.lst (List.replicate k.toNat xs).flatten)) else none
  | _, _ => none
theorem RpAll.rep {G : Hp} {vs : List V} {ds : List D} (r : RpAll W G vs ds) : ∀ n : Nat, RpAll W G (List.replicate n vs).flatten (List.replicate n ds).flatten
  | 0 => .nil
  | n + 1 => by
    rw [List.replicate_succ, List.replicate_succ, List.flatten_cons, List.flatten_cons]
    exact r.append (RpAll.rep r n)
theorem opd_mul : OpD W rMul mulD := by
  intro x y d e G H Q z s vx vy hf k
  unfold mulD at hf
  split at hf
  · cases vx.int; cases vy.int
    split at hf
    · rename_i hz
      cases hf
      exact .inl ⟨_, _, rfl, rfl, mulB_ok hz, k _ _ _ (NR.dat s (.int _))⟩
    · cases hf
  · obtain ⟨a, vs, rfl, ha, ra⟩ := vx.lst s
    cases vy.int
    split at hf
    · rename_i hz
      cases hf
      refine .inr ⟨a, _, vs, rfl, rfl, ha, hz.1, hz.2.1, by rw [ra.length]; exact hz.2.2, fun p hp => k _ _ _ (NR.own s hp (.lst (ra.rep _)))⟩
    · cases hf
  · cases hf
def modD : D → D → Option RV := intD (fun _ j => decide (0 < j)) fun i j => .int (i % j)
theorem opd_mod : OpD W (rI (fun _ j => 0 < j) fun i j => .int (i % j)) modD := opd_int (fun _ _ h => of_decide_eq_true h) fun _ _ _ => .int _
def fdivD : D → D → Option RV := intD (fun _ j => decide (0 < j) && decide (j < 1073741824)) fun i j => .int (i / j)
theorem opd_fdiv : OpD W (rI CDiv fun i j => .int (i / j)) fdivD := opd_int (fun _ _ h => by simpa [CDiv] using h) fun _ _ _ => .int _
def powD : D → D → Option RV := intD (fun i j => decide (0 ≤ j) && (decide (j ≤ 1000000) && decide (i.natAbs < 2 ^ 64))) fun i j => .int (i ^ j.toNat)
theorem opd_pow : OpD W (rI CPow fun i j => .int (i ^ j.toNat)) powD := opd_int (fun _ _ h => by simpa [CPow] using h) fun _ _ _ => .int _

/-! ### order -/
def cmpD (gi : Int → Int → Bool) (gs : Str → Str → Bool) : D → D → Option RV
  | .int i, .int j => some (.dat (.bl (gi i j)))
  | .str i, .str j => some (.dat (.bl (gs i j)))
  | _, _ => none
def rCmp (gi : Int → Int → Bool) (gs : Str → Str → Bool) : R2 := fun x y H Q => rI0 (fun i j => .bl (gi i j)) x y H Q ∨ (∃ i j, x = .str i ∧ y = .str j ∧ Q (.bl (gs i j)) H)
theorem opd_cmp {gi : Int → Int → Bool} {gs : Str → Str → Bool} : OpD W (rCmp gi gs) (cmpD gi gs) := by
  intro x y d e G H Q z s vx vy hf k
  unfold cmpD at hf
  split at hf
  · cases vx.int; cases vy.int; cases hf
    exact .inl ⟨_, _, rfl, rfl, k _ _ _ (NR.dat s (.bl _))⟩
  · cases vx.str; cases vy.str; cases hf
    exact .inr ⟨_, _, rfl, rfl, k _ _ _ (NR.dat s (.bl _))⟩
  · cases hf
def ltS (i j : Str) : Bool := decide (i.cps.toList < j.cps.toList)
theorem opr_lt : OpR X (compareOp .Lt) (rCmp (fun i j => decide (i < j)) ltS) := op_lt.or op_lt_str
theorem opr_le : OpR X (compareOp .LtE) (rCmp (fun i j => decide (i ≤ j)) fun i j => !ltS j i) := op_le.or op_le_str
theorem opr_gt : OpR X (compareOp .Gt) (rCmp (fun i j => decide (j < i)) fun i j => ltS j i) := op_gt.or op_gt_str
theorem opr_ge : OpR X (compareOp .GtE) (rCmp (fun i j => decide (j ≤ i)) fun i j => !ltS i j) := op_ge.or op_ge_str

/-! ### == and != -/
/-- the scalars that == tells apart as data does -/
def scalD : D → D → Option Bool
  | .non, .non => some true | .non, .int _ => some false | .int _, .non => some false | .non, .bl _ => some false | .bl _, .non => some false | .non, .str _ => some false | .str _, .non => some false
  | .int i, .int j => some (i == j) | .bl i, .bl j => some (i == j) | .str i, .str j => some (i == j)
  | .int _, .str _ => some false | .str _, .int _ => some false | .bl _, .str _ => some false | .str _, .bl _ => some false
  | _, _ => none
def eqB (d e : D) : Option Bool := match scalD d e with
  | some b => some b
  | none => match toPy d, toPy e with
    | some p, some q => if SeqAt.shaped p && SeqAt.shaped q then some (PyData.eqv p q) else none
    | _, _ => none
def eqD (d e : D) : Option RV := (eqB d e).map fun b => .dat (.bl b)
def neD (d e : D) : Option RV := (eqB d e).map fun b => .dat (.bl (!b))
theorem scalD_ok {G H : Hp} {x y : V} {d e : D} {b : Bool} (vx : Vw W G H x d) (vy : Vw W G H y e) (h : scalD d e = some b) : scal x y = true ∧ decide (x = y) = b := by
  unfold scalD at h
  split at h <;> first
    | (cases h; done)
    | (cases vx.non; cases vy.non; cases h; exact ⟨rfl, by simp⟩)
    | (cases vx.non; cases vy.int; cases h; exact ⟨rfl, by simp⟩)
    | (cases vx.int; cases vy.non; cases h; exact ⟨rfl, by simp⟩)
    | (cases vx.non; cases vy.bl; cases h; exact ⟨rfl, by simp⟩)
    | (cases vx.bl; cases vy.non; cases h; exact ⟨rfl, by simp⟩)
    | (cases vx.non; cases vy.str; cases h; exact ⟨rfl, by simp⟩)
    | (cases vx.str; cases vy.non; cases h; exact ⟨rfl, by simp⟩)
    | (cases vx.int; cases vy.int; cases h; exact ⟨rfl, dec_int⟩)
    | (cases vx.bl; cases vy.bl; cases h; exact ⟨rfl, dec_bl⟩)
    | (cases vx.str; cases vy.str; cases h; exact ⟨rfl, dec_str⟩)
    | (cases vx.int; cases vy.str; cases h; exact ⟨rfl, by simp⟩)
    | (cases vx.str; cases vy.int; cases h; exact ⟨rfl, by simp⟩)
    | (cases vx.bl; cases vy.str; cases h; exact ⟨rfl, by simp⟩)
    | (cases vx.str; cases vy.bl; cases h; exact ⟨rfl, by simp⟩)
def rEqA (K : PySem.W.Frag) : R2 := fun x y H Q => rEq x y H Q ∨ rEqD K x y H Q
def rNeA (K : PySem.W.Frag) : R2 := fun x y H Q => rNe x y H Q ∨ rNeD K x y H Q
theorem opr_eq (hu : X.A.units + 64 < cLine) : OpR X (compareOp .Eq) (rEqA X.K) := op_eq.or (op_eqD hu)
theorem opr_ne (hu : X.A.units + 64 < cLine) : OpR X (compareOp .NotEq) (rNeA X.K) := op_ne.or (op_neD hu)
theorem eqB_ok {G H : Hp} {x y : V} {d e : D} {b : Bool} (s : Same G H) (vx : Vw W G H x d) (vy : Vw W G H y e) (h : eqB d e = some b) :
    (scal x y = true ∧ decide (x = y) = b) ∨ ∃ p q, Dp W.K H x p ∧ Dp W.K H y q ∧ SeqAt.shaped p = true ∧ SeqAt.shaped q = true ∧ PyData.eqv p q = b := by
  unfold eqB at h
  split at h
  · cases h; exact .inl (scalD_ok vx vy (by assumption))
  · split at h
    · split at h
      · rename_i p q hp hq hs
        simp only [Bool.and_eq_true] at hs
        cases h
        exact .inr ⟨p, q, vx.dp s hp, vy.dp s hq, hs.1, hs.2, rfl⟩
      · cases h
    · cases h
theorem opd_eq : OpD W (rEqA W.K) eqD := by
  intro x y d e G H Q z s vx vy hf k
  unfold eqD at hf
  simp only [Option.map_eq_some_iff] at hf
  obtain ⟨b, hb, rfl⟩ := hf
  have q := k (.bl b) H G (NR.dat s (.bl b))
  rcases eqB_ok s vx vy hb with ⟨h1, h2⟩ | ⟨p, p', h1, h2, h3, h4, h5⟩
  · exact .inl ⟨h1, by rw [h2]; exact q⟩
  · exact .inr ⟨p, p', h1, h2, h3, h4, by rw [h5]; exact q⟩
theorem opd_ne : OpD W (rNeA W.K) neD := by
  intro x y d e G H Q z s vx vy hf k
  unfold neD at hf
  simp only [Option.map_eq_some_iff] at hf
  obtain ⟨b, hb, rfl⟩ := hf
  have q := k (.bl (!b)) H G (NR.dat s (.bl _))
  rcases eqB_ok s vx vy hb with ⟨h1, h2⟩ | ⟨p, p', h1, h2, h3, h4, h5⟩
  · exact .inl ⟨h1, by rw [h2]; exact q⟩
  · exact .inr ⟨p, p', h1, h2, h3, h4, by rw [h5]; exact q⟩

/-! ### in, not in -/
def flatD : D → Bool
  | .non => true
  | .bl _ => true
  | .int _ => true
  | .str _ => true
  | _ => false
def eqF : D → D → Bool
  | .non, .non => true
  | .bl a, .bl b => a == b
  | .bl a, .int b => (if a then 1 else 0) == b
  | .int a, .bl b => a == (if b then 1 else 0)
  | .int a, .int b => a == b
  | .str a, .str b => a == b
  | _, _ => false
def strIn (i j : Str) : Bool := !(Builtin.Str.occurrences j i 0 j.length 1).isEmpty
def inB (neg : Bool) : D → D → Option RV
  | .str x, .str y => some (.dat (.bl (if neg then !strIn x y else strIn x y)))
  | x, .lst ys => if flatD x && ys.all flatD then some (.dat (.bl (if neg then !ys.any (fun y => eqF y x) else ys.any fun y => eqF y x))) else none
  | x, .tup ys => if flatD x && ys.all flatD then some (.dat (.bl (if neg then !ys.any (fun y => eqF y x) else ys.any fun y => eqF y x))) else none
  | _, _ => none
def rInS (neg : Bool) : R2 := fun x y H Q => ∃ i j, x = .str i ∧ y = .str j ∧ Q (.bl (if neg then !strIn i j else strIn i j)) H
def rInA (K : PySem.W.Frag) (neg : Bool) : R2 := fun x y H Q => rIn K neg x y H Q ∨ rInS neg x y H Q
theorem opr_in : OpR X (compareOp .In) (rInA X.K false) := op_in_seq.or op_in_str
theorem opr_nin : OpR X (compareOp .NotIn) (rInA X.K true) := op_notIn_seq.or op_notin_str
theorem flat_vw {G H : Hp} {x : V} {d : D} (h : Vw W G H x d) (f : flatD d = true) : Rp W G x d ∧ flatV x = true := by
  cases d with
  | non => cases h.non; exact ⟨.non, rfl⟩
  | bl b => cases h.bl; exact ⟨.bl b, rfl⟩
  | int i => cases h.int; exact ⟨.int i, rfl⟩
  | str i => cases h.str; exact ⟨.str i, rfl⟩
  | _ => cases f
theorem eqF_ok {G : Hp} {x y : V} {d e : D} (hx : Rp W G x d) (hy : Rp W G y e) (fx : flatD d = true) (fy : flatD e = true) : eqV y x = eqF e d := by
  cases d <;> first | (cases fx; done) | skip
  all_goals (cases e <;> first | (cases fy; done) | skip)
  all_goals (cases hx; cases hy; rfl)
theorem inV_ok {G : Hp} {x : V} {d : D} (hx : Rp W G x d) (fx : flatD d = true) : ∀ {ys : List V} {es : List D}, RpAll W G ys es → es.all flatD = true → ys.all flatV = true ∧ inV x ys = es.any fun y => eqF y d
  | _, _, .nil, _ => ⟨rfl, rfl⟩
  | y :: ys, e :: es, .cons h t, f => by
    rw [List.all_cons, Bool.and_eq_true] at f
    obtain ⟨h1, h2⟩ := inV_ok hx fx t f.2
    have fe := (flat_vw (H := G) (Vw.rp h) f.1).2
    refine ⟨by rw [List.all_cons, fe, h1]; rfl, ?_⟩
    unfold inV at h2 ⊢
    rw [List.any_cons, List.any_cons, eqF_ok hx h fx f.1, h2]
theorem opd_in {neg : Bool} : OpD W (rInA W.K neg) (inB neg) := by
  intro x y d e G H Q z s vx vy hf k
  unfold inB at hf
  split at hf
  · cases vx.str; cases vy.str; cases hf
    exact .inr ⟨_, _, rfl, rfl, k _ _ _ (NR.dat s (.bl _))⟩
  · obtain ⟨a, vs, rfl, ha, ra⟩ := vy.lst s
    split at hf
    · rename_i hb
      simp only [Bool.and_eq_true] at hb
      cases hf
      obtain ⟨rx, fx⟩ := flat_vw vx hb.1
      obtain ⟨h1, h2⟩ := inV_ok rx hb.1 ra hb.2
      refine .inl ⟨a, vs, rfl, .inl (SqL.of ha), fx, h1, ?_⟩
      rw [h2]
      exact k _ _ _ (NR.dat s (.bl _))
    · cases hf
  · obtain ⟨a, vs, rfl, ha, ra⟩ := vy.tup s
    split at hf
    · rename_i hb
      simp only [Bool.and_eq_true] at hb
      cases hf
      obtain ⟨rx, fx⟩ := flat_vw vx hb.1
      obtain ⟨h1, h2⟩ := inV_ok rx hb.1 ra hb.2
      refine .inl ⟨a, vs, rfl, .inr (SqT.of ha), fx, h1, ?_⟩
      rw [h2]
      exact k _ _ _ (NR.dat s (.bl _))
    · cases hf
  · cases hf
end
end Den
end

section
set_option Elab.async false
set_option linter.all false
set_option maxRecDepth 100000
set_option maxHeartbeats 2000000
/-! DenD: displays, subscripts, slices, calls of built-ins, methods of built-in types. -/
namespace Den
open PySem L2
section
variable {X : Cx} {W : Pw}

/-! ### displays -/
def pTup (P : PAF) : PF := fun env => do
  let (rvs, e1) ← P env
  let ds ← dts rvs
  if ds.length ≤ sizeLine then some (.dat (.tup ds), e1) else none
def pLst (P : PAF) : PF := fun env => do
  let (rvs, e1) ← P env
  let ds ← dts rvs
  if ds.length ≤ sizeLine then some (.own (.lst ds), e1) else none
/-- behind arguments that are let go of -/
theorem Step.frozen {σ : St} {env e1 : Env'} {H G H1 G1 : Hp} {vs : List V} {rvs : List RV} {ds : List D} (r : Rel W σ env H G) (s : Step W σ env H G e1 H1 G1) (o : RvsOk W σ H H1 G1 vs rvs) (h : dts rvs = some ds) :
    ∃ G2, Step W σ env H G e1 H1 G2 ∧ RpAll W G2 vs ds := by
  obtain ⟨G2, s2, r2, k2, q2⟩ := o.freeze s.rel (fun b z => s.mineNe r z) h
  exact ⟨G2, ⟨s.le, r2, ⟨s.ext.same.trans s2, fun b hb g => k2 b hb (s.ext.new b hb g), s.ext.dom⟩, s.keep⟩, q2⟩
theorem pd_tup {es : List Expr} {P : PAF} {x1 : Nat} {pos : Pos} (h : PAD X W P es) : PD X W (pTup P) (.Tuple es x1 pos) := PE.weak (pe_tup h) fun σ H Q ⟨env, G, rv, env', r, p, k⟩ => by
  unfold pTup at p
  simp only [Option.bind_eq_bind, Option.bind_eq_some_iff, Prod.exists] at p
  obtain ⟨rvs, e1, h1, ds, h2, p⟩ := p
  split at p
  · rename_i hz
    cases p
    refine ⟨env, G, rvs, _, r, h1, fun vs H1 G1 s o => ?_⟩
    obtain ⟨G2, s2, q2⟩ := Step.frozen r s o h2
    refine ⟨by rw [q2.length]; exact hz, fun q hq => ?_⟩
    have n : NR W H1 G2 (.ref q) (.dat (.tup ds)) (upd H1 q (.tup vs)) (upd G2 q (.tup vs)) := NR.frz s2.rel.sub hq (.tup upd_same (RpAll.mono (same_upd (s2.rel.sub.free hq)) q2))
    exact k _ _ _ (s2.trans (n.step s2.rel)) (n.rv s2.ext.dom)
  · cases p
theorem pd_lst {es : List Expr} {P : PAF} {pos : Pos} (h : PAD X W P es) : PD X W (pLst P) (.List es pos) := PE.weak (pe_lst h) fun σ H Q ⟨env, G, rv, env', r, p, k⟩ => by
  unfold pLst at p
  simp only [Option.bind_eq_bind, Option.bind_eq_some_iff, Prod.exists] at p
  obtain ⟨rvs, e1, h1, ds, h2, p⟩ := p
  split at p
  · rename_i hz
    cases p
    refine ⟨env, G, rvs, _, r, h1, fun vs H1 G1 s o => ?_⟩
    obtain ⟨G2, s2, q2⟩ := Step.frozen r s o h2
    refine ⟨by rw [q2.length]; exact hz, fun q hq => ?_⟩
    have n : NR W H1 G2 (.ref q) (.own (.lst ds)) (upd H1 q (.lst vs)) G2 := NR.own s2.rel.sub hq (.lst q2)
    exact k _ _ _ (s2.trans (n.step s2.rel)) (n.rv s2.ext.dom)
  · cases p

/-! ### subscripts -/
def ixD : D → D → Option RV
  | .lst xs, .int i => (atI xs i).map .dat
  | .tup xs, .int i => (atI xs i).map .dat
  | .scr ns, .int i => (atI ns i).map fun n => .dat (.int n)
  | .str z, .int i => if z.length ≤ sizeLine then (atI z.cps.toList i).map fun c => .dat (.str ⟨#[c]⟩) else none
  | _, _ => none
theorem atI_rp {G : Hp} {vs : List V} {ds : List D} {i : Int} {d : D} (r : RpAll W G vs ds) (h : atI ds i = some d) : ∃ v, atI vs i = some v ∧ Rp W G v d := by
  unfold atI at h ⊢
  rw [r.length]
  simp only [Option.bind_eq_some_iff] at h
  obtain ⟨j, h1, h2⟩ := h
  obtain ⟨v, h3, h4⟩ := r.get h2
  exact ⟨v, by rw [h1]; exact h3, h4⟩
theorem opd_ix : OpD W (rIx W.K) ixD := by
  intro x y d e G H Q z s vx vy hf k
  unfold ixD at hf
  split at hf
  · obtain ⟨a, vs, rfl, ha, ra⟩ := vx.lst s
    cases vy.int
    simp only [Option.map_eq_some_iff] at hf
    obtain ⟨d, h1, rfl⟩ := hf
    obtain ⟨v, h2, h3⟩ := atI_rp ra h1
    exact .inl ⟨a, vs, _, v, rfl, rfl, SqL.of ha, h2, k _ _ _ (NR.dat s h3)⟩
  · obtain ⟨a, vs, rfl, ha, ra⟩ := vx.tup s
    cases vy.int
    simp only [Option.map_eq_some_iff] at hf
    obtain ⟨d, h1, rfl⟩ := hf
    obtain ⟨v, h2, h3⟩ := atI_rp ra h1
    exact .inr (.inl ⟨a, vs, _, v, rfl, rfl, SqT.of ha, h2, k _ _ _ (NR.dat s h3)⟩)
  · obtain ⟨a, rfl, ha⟩ := vx.scr s
    cases vy.int
    simp only [Option.map_eq_some_iff] at hf
    obtain ⟨n, h1, rfl⟩ := hf
    refine .inl ⟨a, _, _, .int n, rfl, rfl, ha, ?_, k _ _ _ (NR.dat s (.int n))⟩
    unfold atI at h1 ⊢
    simp only [Option.bind_eq_some_iff] at h1
    obtain ⟨j, h2, h3⟩ := h1
    rw [List.length_map, h2]
    simp [h3]
  · cases vx.str; cases vy.int
    split at hf
    · simp only [Option.map_eq_some_iff] at hf
      obtain ⟨c, h1, rfl⟩ := hf
      exact .inr (.inr ⟨_, _, c, rfl, rfl, by assumption, h1, k _ _ _ (NR.dat s (.str _))⟩)
    · cases hf
  · cases hf
def notSlice : Expr → Bool
  | .Slice .. => false
  | _ => true
theorem plainIx {b : Expr} (h : notSlice b = true) : PlainIx b := by
  cases b <;> first | (intro o i; rfl) | cases h
theorem pd_ix {a b : Expr} {P P' : PF} {pos : Pos} (hK : X.K = W.K) (ha : PD X W P a) (hb : PD X W P' b) (hs : notSlice b = true) : PD X W (pBin ixD P P') (.Subscript a b pos) :=
  PE.weak (pe_ix ix_seq ha hb (plainIx hs)) fun _ _ _ h => by rw [hK]; exact op_tE opd_ix h

/-! ### slices -/
abbrev OF := Env' → Option (Option Int × Env')
def oNone : OF := fun env => some (none, env)
def oSome (P : PF) : OF := fun env => do
  let (rv, e1) ← P env
  match rv with
  | .dat (.int i) => some (some i, e1)
  | _ => none
def tO (W : Pw) (P : OF) : TO := fun σ H Q => ∃ env G o env', Rel W σ env H G ∧ P env = some (o, env') ∧ ∀ H' G', Step W σ env H G env' H' G' → Q o H'
abbrev POD (X : Cx) (W : Pw) (P : OF) (e : Option Expr) : Prop := PO X e (tO W P)
theorem PO.weak {X : Cx} {e : Option Expr} {t t' : TO} (h : PO X e t) (k : ∀ σ H Q, t' σ H Q → t σ H Q) : PO X e t' := ⟨fun pins s σ H Q I q => h.run pins s σ H Q I (k σ H Q q)⟩
theorem pod_none : POD X W oNone none := PO.weak po_none fun σ H Q ⟨env, G, o, env', r, p, k⟩ => by
  cases p
  exact k H G (Step.refl r)
theorem pod_some {e : Expr} {P : PF} (h : PD X W P e) : POD X W (oSome P) (some e) := PO.weak (po_some h) fun σ H Q ⟨env, G, o, env', r, p, k⟩ => by
  unfold oSome at p
  simp only [Option.bind_eq_bind, Option.bind_eq_some_iff, Prod.exists] at p
  obtain ⟨rv, e1, h1, p⟩ := p
  split at p
  · cases p
    refine tE_one r h1 fun v H1 G1 s q => ?_
    cases q
    exact ⟨_, rfl, k H1 G1 s⟩
  · cases p
def cutD (xs : List D) (lo hi : Option Int) : List D := (xs.drop (HT.sIx xs.length 0 lo)).take (HT.sIx xs.length xs.length hi - HT.sIx xs.length 0 lo)
def slD : D → Option Int → Option Int → Option RV
  | .lst xs, lo, hi => some (.own (.lst (cutD xs lo hi)))
  | .str z, lo, hi => if z.length ≤ sizeLine then some (.dat (.str (cutS z lo hi))) else none
  | .tup xs, lo, hi => if HT.sIx xs.length 0 lo = 0 ∧ HT.sIx xs.length xs.length hi = xs.length then none else some (.dat (.tup (cutD xs lo hi)))
  | _, _, _ => none
def pSl (P : PF) (Pl Pu : OF) : PF := fun env => do
  let (rv, e1) ← P env
  let (lo, e2) ← Pl e1
  let (hi, e3) ← Pu e2
  let d ← rv.cont e3
  let z ← slD d lo hi
  some (z, e3)
def rSlA (K : PySem.W.Frag) : V → Option Int → Option Int → Hp → VK → Prop := fun x lo hi H Q => rSlL K x lo hi H Q ∨ rSlS x lo hi H Q ∨ rSlT K x lo hi H Q
theorem slr_all : SlR X (rSlA X.K) := sl_list.or (sl_str.or sl_tup)
theorem RpAll.cut {G : Hp} {vs : List V} {ds : List D} (r : RpAll W G vs ds) (lo hi : Option Int) : RpAll W G (cutV vs lo hi) (cutD ds lo hi) := by
  unfold cutV cutD
  rw [r.length]
  exact (r.drop _).take _
theorem slD_ok {x : V} {d : D} {lo hi : Option Int} {G H : Hp} {Q : VK} {z : RV} (s : Same G H) (vx : Vw W G H x d) (hf : slD d lo hi = some z) (k : ∀ v H' G', NR W H G v z H' G' → Q v H') : rSlA W.K x lo hi H Q := by
  unfold slD at hf
  split at hf
  · obtain ⟨a, vs, rfl, ha, ra⟩ := vx.lst s
    cases hf
    exact .inl ⟨a, vs, rfl, SqL.of ha, fun p hp => k _ _ _ (NR.own s hp (.lst (ra.cut _ _)))⟩
  · cases vx.str
    split at hf
    · cases hf
      exact .inr (.inl ⟨_, rfl, by assumption, k _ _ _ (NR.dat s (.str _))⟩)
    · cases hf
  · obtain ⟨a, vs, rfl, ha, ra⟩ := vx.tup s
    split at hf
    · cases hf
    · rename_i hz
      cases hf
      exact .inr (.inr ⟨a, vs, rfl, SqT.of ha, by rw [ra.length]; exact hz, fun p hp => k _ _ _ (NR.frz s hp (.tup upd_same (RpAll.mono (same_upd (s.free hp)) (ra.cut _ _))))⟩)
  · cases hf
theorem pd_slice {e : Expr} {lo hi : Option Expr} {P : PF} {Pl Pu : OF} {pos p2 : Pos} (hK : X.K = W.K) (he : PD X W P e) (hl : POD X W Pl lo) (hu : POD X W Pu hi) : PD X W (pSl P Pl Pu) (.Subscript e (.Slice lo hi none p2) pos) :=
  PE.weak (pe_slice slr_all he hl hu) fun σ H Q ⟨env, G, rv, env', r, p, k⟩ => by
    unfold pSl at p
    simp only [Option.bind_eq_bind, Option.bind_eq_some_iff, Prod.exists, Option.some.injEq, Prod.mk.injEq] at p
    obtain ⟨ra, e1, h1, lo, e2, h2, hi, e3, h3, d, h4, z, h5, rfl, rfl⟩ := p
    refine tE_one r h1 fun v H1 G1 s1 o1 => ⟨e1, G1, lo, e2, s1.rel, h2, fun H2 G2 s2 => ⟨e2, G2, hi, e3, s2.rel, h3, fun H3 G3 s3 => ?_⟩⟩
    have s12 := s1.trans s2
    have s := s12.trans s3
    have o3 := (o1.step s1.rel (fun b z => s1.ownNe r z) s2).step s2.rel (fun b z => s12.ownNe r z) s3
    rw [hK]
    exact slD_ok s.rel.sub (o3.vw s.rel h4) h5 fun w H4 G4 n => k w H4 G4 (s.trans (n.step s.rel)) (n.rv s.ext.dom)

/-! ### calls of built-ins -/
inductive VwAll (W : Pw) (G H : Hp) : List V → List D → Prop
  | nil : VwAll W G H [] []
  | cons {v : V} {d : D} {vs : List V} {ds : List D} : Vw W G H v d → VwAll W G H vs ds → VwAll W G H (v :: vs) (d :: ds)
theorem RvsOk.vws {σ : St} {env : Env'} {H H' G' : Hp} (r : Rel W σ env H' G') : ∀ {vs : List V} {rvs : List RV} {ds : List D}, RvsOk W σ H H' G' vs rvs → conts env rvs = some ds → VwAll W G' H' vs ds
  | _, _, _, .nil, e => by cases e; exact .nil
  | _, _, _, .cons h n t, e => by
    simp only [conts, Option.bind_eq_bind, Option.bind_eq_some_iff, Option.some.injEq] at e
    obtain ⟨d, h1, ds, h2, rfl⟩ := e
    exact .cons (h.vw r h1) (RvsOk.vws r t h2)
def pCall (f : List D → Option RV) (P : PAF) : PF := fun env => do
  let (rvs, e1) ← P env
  let ds ← conts e1 rvs
  let z ← f ds
  some (z, e1)
def CallD (W : Pw) (r : List V → Hp → VK → Prop) (f : List D → Option RV) : Prop := ∀ (xs : List V) (ds : List D) (G H : Hp) (Q : VK) (z : RV), Same G H → VwAll W G H xs ds → f ds = some z →
  (∀ v H' G', NR W H G v z H' G' → Q v H') → r xs H Q
theorem call_tE {r : List V → Hp → VK → Prop} {f : List D → Option RV} (o : CallD W r f) {P : PAF} {σ : St} {H : Hp} {Q : VK} (h : tE W (pCall f P) σ H Q) : tCB r (tA W P) σ H Q := by
  obtain ⟨env, G, rv, env', rl, p, k⟩ := h
  unfold pCall at p
  simp only [Option.bind_eq_bind, Option.bind_eq_some_iff, Prod.exists, Option.some.injEq, Prod.mk.injEq] at p
  obtain ⟨rvs, e1, h1, ds, h2, z, h3, rfl, rfl⟩ := p
  refine ⟨env, G, rvs, e1, rl, h1, fun vs H1 G1 s o1 => o vs ds G1 H1 Q z s.rel.sub (o1.vws s.rel h2) h3 fun w H2 G2 n => ?_⟩
  exact k w H2 G2 (s.trans (n.step s.rel)) (n.rv s.ext.dom)
theorem noStars {es : List Expr} {env : Env} {pos : Pos} (h : es.all notStar = true) : (backTo pos (starEach es env)).any (·.1) = false := by
  induction es with
  | nil => rfl
  | cons e es ih =>
    rw [List.all_cons, Bool.and_eq_true] at h
    rw [star_plain h.1]
    show (backTo pos (starEach es env)).any (·.1) = false
    exact ih h.2
theorem pd_callB {id : String} {x : Str} {p pos : Pos} {e : Expr} {es : List Expr} {r : List V → Hp → VK → Prop} {f : List D → Option RV} {P : PAF} (hc : CallR X (.builtin id) r) (o : CallD W r f) (hg : Gl X x) (hm : X.mg x = none) (hv : bootBuiltins x = some (.builtin id))
    (ha : PAD X W P (e :: es)) (hs : (e :: es).all notStar = true) (hn : x ≠ "__name__" := by decide) (hdb : (x == ("__debug__" : Str)) = false := by decide) : PD X W (pCall f P) (.Call (.Name x p) (e :: es) [] pos) := by
  have h2 := hs
  rw [List.all_cons, Bool.and_eq_true] at h2
  exact PE.weak (pe_callB hc hg hm hv ha hn hdb (star_plain h2.1) (noStars h2.2)) fun _ _ _ h => call_tE o h
theorem pd_callTy {T : String} {x : Str} {p pos : Pos} {e : Expr} {es : List Expr} {r : List V → Hp → VK → Prop} {f : List D → Option RV} {P : PAF} (hc : CallR X (.type T) r) (o : CallD W r f) (hg : Gl X x) (hm : X.mg x = none) (hv : bootBuiltins x = some (.type T))
    (ha : PAD X W P (e :: es)) (hs : (e :: es).all notStar = true) (hn : x ≠ "__name__" := by decide) (hdb : (x == ("__debug__" : Str)) = false := by decide) : PD X W (pCall f P) (.Call (.Name x p) (e :: es) [] pos) := by
  have h2 := hs
  rw [List.all_cons, Bool.and_eq_true] at h2
  exact PE.weak (pe_callTy hc hg hm hv ha hn hdb (star_plain h2.1) (noStars h2.2)) fun _ _ _ h => call_tE o h

def lenD : List D → Option RV
  | [.str x] => if x.length ≤ sizeLine then some (.dat (.int x.length)) else none
  | [.lst xs] => some (.dat (.int xs.length))
  | [.tup xs] => some (.dat (.int xs.length))
  | [.scr ns] => some (.dat (.int ns.length))
  | _ => none
theorem callD_len : CallD W (fun xs H Q => ∃ x n, xs = [x] ∧ LenV W.K x H n ∧ Q (.int n) H) lenD := by
  intro xs ds G H Q z s vs hf k
  unfold lenD at hf
  split at hf
  · cases vs with
    | cons v t =>
      cases t; cases v.str
      split at hf
      · cases hf; exact ⟨_, _, rfl, ⟨by assumption, rfl⟩, k _ _ _ (NR.dat s (.int _))⟩
      · cases hf
  · cases vs with | cons v t => cases t; obtain ⟨a, ys, rfl, ha, ra⟩ := v.lst s; cases hf; exact ⟨_, ys.length, rfl, .inl ⟨ys, SqL.of ha, rfl⟩, by rw [ra.length]; exact k _ _ _ (NR.dat s (.int _))⟩
  · cases vs with | cons v t => cases t; obtain ⟨a, ys, rfl, ha, ra⟩ := v.tup s; cases hf; exact ⟨_, ys.length, rfl, .inr ⟨ys, SqT.of ha, rfl⟩, by rw [ra.length]; exact k _ _ _ (NR.dat s (.int _))⟩
  · cases vs with | cons v t => cases t; obtain ⟨a, rfl, ha⟩ := v.scr s; cases hf; exact ⟨_, _, rfl, .inl ⟨_, ha, rfl⟩, by rw [List.length_map]; exact k _ _ _ (NR.dat s (.int _))⟩
  · cases hf
def absD : List D → Option RV
  | [.int i] => some (.dat (.int (if i < 0 then -i else i)))
  | _ => none
theorem callD_abs : CallD W (fun xs H Q => ∃ i, xs = [.int i] ∧ Q (.int (if i < 0 then -i else i)) H) absD := by
  intro xs ds G H Q z s vs hf k
  unfold absD at hf
  split at hf
  · cases vs with | cons v t => cases t; cases v.int; cases hf; exact ⟨_, rfl, k _ _ _ (NR.dat s (.int _))⟩
  · cases hf
def max2D : List D → Option RV
  | [.int i, .int j] => some (.dat (.int (if j > i then j else i)))
  | _ => none
theorem callD_max2 : CallD W (fun xs H Q => ∃ i j, xs = [.int i, .int j] ∧ Q (.int (if j > i then j else i)) H) max2D := by
  intro xs ds G H Q z s vs hf k
  unfold max2D at hf
  split at hf
  · cases vs with | cons v t => cases t with | cons v' t => cases t; cases v.int; cases v'.int; cases hf; exact ⟨_, _, rfl, k _ _ _ (NR.dat s (.int _))⟩
  · cases hf
def min2D : List D → Option RV
  | [.int i, .int j] => some (.dat (.int (if j < i then j else i)))
  | _ => none
theorem callD_min2 : CallD W (fun xs H Q => ∃ i j, xs = [.int i, .int j] ∧ Q (.int (if j < i then j else i)) H) min2D := by
  intro xs ds G H Q z s vs hf k
  unfold min2D at hf
  split at hf
  · cases vs with | cons v t => cases t with | cons v' t => cases t; cases v.int; cases v'.int; cases hf; exact ⟨_, _, rfl, k _ _ _ (NR.dat s (.int _))⟩
  · cases hf
def int1D : List D → Option RV
  | [.int i] => some (.dat (.int i))
  | [.bl b] => some (.dat (.int (if b then 1 else 0)))
  | _ => none
theorem callD_int1 : CallD W (fun xs H Q => (∃ i, xs = [.int i] ∧ Q (.int i) H) ∨ ∃ k, xs = [.bl k] ∧ Q (.int (if k then 1 else 0)) H) int1D := by
  intro xs ds G H Q z s vs hf k
  unfold int1D at hf
  split at hf
  · cases vs with | cons v t => cases t; cases v.int; cases hf; exact .inl ⟨_, rfl, k _ _ _ (NR.dat s (.int _))⟩
  · cases vs with | cons v t => cases t; cases v.bl; cases hf; exact .inr ⟨_, rfl, k _ _ _ (NR.dat s (.int _))⟩
  · cases hf
def divmodD : List D → Option RV
  | [.int i, .int j] => if 0 < j ∧ j < 1073741824 then some (.dat (.tup [.int (i / j), .int (i % j)])) else none
  | _ => none
theorem callD_divmod : CallD W (fun xs H Q => ∃ i j, xs = [.int i, .int j] ∧ CDiv i j ∧ ∀ p, H p = none → Q (.ref p) (upd H p (.tup [.int (i / j), .int (i % j)]))) divmodD := by
  intro xs ds G H Q z s vs hf k
  unfold divmodD at hf
  split at hf
  · cases vs with
    | cons v t => cases t with
      | cons v' t =>
        cases t; cases v.int; cases v'.int
        split at hf
        · rename_i hz
          cases hf
          exact ⟨_, _, rfl, hz, fun p hp => k _ _ _ (NR.frz s hp (.tup upd_same (.cons (.int _) (.cons (.int _) .nil))))⟩
        · cases hf
  · cases hf
/-- all(list of truths), any(..) -/
def bools : List D → Option (List Bool)
  | [] => some []
  | .bl b :: ds => (bools ds).map (b :: ·)
  | _ :: _ => none
theorem bools_ok {G : Hp} : ∀ {vs : List V} {ds : List D} {bs : List Bool}, RpAll W G vs ds → bools ds = some bs → vs = bs.map V.bl
  | _, _, _, .nil, e => by cases e; rfl
  | _, .bl b :: ds, _, .cons h t, e => by
    simp only [bools, Option.map_eq_some_iff] at e
    obtain ⟨bs, h1, rfl⟩ := e
    cases h
    rw [List.map_cons, bools_ok t h1]
def allD : List D → Option RV
  | [.lst ds] => (bools ds).map fun bs => .dat (.bl (bs.all id))
  | _ => none
def anyD : List D → Option RV
  | [.lst ds] => (bools ds).map fun bs => .dat (.bl (bs.any id))
  | _ => none
theorem callD_all : CallD W (rAll W.K) allD := by
  intro xs ds G H Q z s vs hf k
  unfold allD at hf
  split at hf
  · cases vs with
    | cons v t =>
      cases t
      obtain ⟨a, ys, rfl, ha, ra⟩ := v.lst s
      simp only [Option.map_eq_some_iff] at hf
      obtain ⟨bs, h1, rfl⟩ := hf
      exact ⟨a, bs, rfl, by rw [← bools_ok ra h1]; exact SqL.of ha, k _ _ _ (NR.dat s (.bl _))⟩
  · cases hf
/-- repr of data -/
def showD (d : D) : Option Str := match toPy d with
  | some p => if p.showable && (decide (p.depth ≤ 64) && decide (p.shown.length ≤ sizeLine)) then some p.shown else none
  | none => none
def isRefD : D → Bool
  | .lst _ => true
  | .tup _ => true
  | _ => false
def reprD : List D → Option RV
  | [d] => if isRefD d then (showD d).map fun x => .dat (.str x) else none
  | _ => none
def rRepr (K : PySem.W.Frag) : List V → Hp → VK → Prop := fun xs H Q => ∃ (a : Addr) (p : PyData), xs = [.ref a] ∧ Dp K H (.ref a) p ∧ p.showable = true ∧ p.depth ≤ 64 ∧ p.shown.length ≤ sizeLine ∧ Q (.str p.shown) H
theorem dp_nodict {K : PySem.W.Frag} {H : Hp} : ∀ {p : PyData} {v : V}, Dp K H v p → p.hasDict = false
  := by
  intro p v h
  induction h using Dp.rec (motive_2 := fun _ ps _ => PyData.hasDictAll ps = false) with
  | _ => simp_all [PyData.hasDict, PyData.hasDictAll]
theorem cr_repr (hg : X.A.guards = some []) (hu : X.A.units + 70 < cLine) : CallR X (.builtin "repr") (rRepr X.K) := by
  intro pins s σ H xs us Q I r h
  obtain ⟨a, p, rfl, hd, h1, h2, h3, q⟩ := h
  obtain ⟨u, rfl, ru⟩ := vals1 r
  obtain ⟨as, rr⟩ := Dp.reads I p _ u hd ru
  cases ru
  exact PySem.repr_of_reads' rr h1 (PyData.noDict_hsm (dp_nodict hd)) hg (by omega) (fun _ _ e => e) (fun h' u tk hk => ⟨.str p.shown, H, I.kept hk, ⟨_, rfl⟩, q⟩) h3
theorem callD_repr : CallD W (rRepr W.K) reprD := by
  intro xs ds G H Q z s vs hf k
  unfold reprD at hf
  split at hf
  · rename_i d
    cases vs with
    | cons v t =>
      cases t
      split at hf
      · rename_i hr
        simp only [Option.map_eq_some_iff] at hf
        obtain ⟨x, h1, rfl⟩ := hf
        unfold showD at h1
        split at h1
        · rename_i p hp
          split at h1
          · rename_i hz
            simp only [Bool.and_eq_true, decide_eq_true_eq] at hz
            cases h1
            have hd := v.dp s hp
            cases d with
            | lst ds => obtain ⟨a, ys, rfl, _⟩ := v.lst s; exact ⟨a, p, rfl, hd, hz.1, hz.2.1, hz.2.2, k _ _ _ (NR.dat s (.str _))⟩
            | tup ds => obtain ⟨a, ys, rfl, _⟩ := v.tup s; exact ⟨a, p, rfl, hd, hz.1, hz.2.1, hz.2.2, k _ _ _ (NR.dat s (.str _))⟩
            | _ => cases hr
          · cases h1
        · cases h1
      · cases hf
  · cases hf
end
end Den
end

section
set_option Elab.async false
set_option linter.all false
set_option maxRecDepth 100000
set_option maxHeartbeats 2000000
/-! DenD2: more operators and built-in functions by data. -/
namespace Den
open PySem L2 PySem.Spec PyProof.Rows
section
variable {X : Cx} {W : Pw}

/-! ### bits -/
def orD : D → D → Option RV := intD (fun _ _ => true) fun i j => .int (Builtin.bitOr i j)
theorem opd_or : OpD W (rI0 fun i j => .int (Builtin.bitOr i j)) orD := opd_int0 fun _ _ _ => .int _
def andD : D → D → Option RV := intD (fun _ _ => true) fun i j => .int (Builtin.bitAnd i j)
theorem opd_and : OpD W (rI0 fun i j => .int (Builtin.bitAnd i j)) andD := opd_int0 fun _ _ _ => .int _
def xorD : D → D → Option RV := intD (fun _ _ => true) fun i j => .int (Builtin.bitXor i j)
theorem opd_xor : OpD W (rI0 fun i j => .int (Builtin.bitXor i j)) xorD := opd_int0 fun _ _ _ => .int _
def shlD : D → D → Option RV := intD (fun i j => decide (0 ≤ j) && decide ((Builtin.Int.intBits i : Int) + j ≤ 2 ^ 27)) fun i j => .int (i * 2 ^ j.toNat)
theorem opd_shl : OpD W (rI CShl fun i j => .int (i * 2 ^ j.toNat)) shlD := opd_int (fun _ _ h => by rw [Bool.and_eq_true] at h; exact ⟨of_decide_eq_true h.1, of_decide_eq_true h.2⟩) fun _ _ _ => .int _
def shrD : D → D → Option RV := intD (fun _ j => decide (0 ≤ j)) fun i j => .int (i / 2 ^ j.toNat)
theorem opd_shr : OpD W (rI (fun _ j => 0 ≤ j) fun i j => .int (i / 2 ^ j.toNat)) shrD := opd_int (fun _ _ h => of_decide_eq_true h) fun _ _ _ => .int _

/-! ### text times a number -/
def repS (x : Str) (k : Int) : Str := ⟨(List.replicate k.toNat x.cps).foldl (· ++ ·) #[]⟩
theorem repS_one (x : Str) : repS x 1 = x := by
  unfold repS
  show (⟨#[] ++ x.cps⟩ : Str) = x
  rw [Array.empty_append]
theorem foldl_empty : ∀ (n : Nat) (a : Array Nat), (List.replicate n (#[] : Array Nat)).foldl (· ++ ·) a = a
  | 0, a => rfl
  | n + 1, a => by
    rw [List.replicate_succ, List.foldl_cons, Array.append_empty]
    exact foldl_empty n a
theorem repS_none {x : Str} {k : Int} (h : x.length = 0) : repS x k = x := by
  obtain ⟨c⟩ := x
  have e : c = #[] := by
    have : c.size = 0 := h
    simpa using this
  subst e
  unfold repS
  simp only [foldl_empty]
theorem foldl_rep (c : Array Nat) : ∀ (n : Nat) (a : Array Nat), ((List.replicate n c).foldl (· ++ ·) a).size = a.size + c.size * n
  | 0, a => rfl
  | n + 1, a => by
    rw [List.replicate_succ, List.foldl_cons, foldl_rep c n, Array.size_append, Nat.mul_succ]
    omega
theorem repS_len (x : Str) (k : Int) : (repS x k).length = x.length * k.toNat := by
  show ((List.replicate k.toNat x.cps).foldl (· ++ ·) #[]).size = x.cps.size * k.toNat
  rw [foldl_rep]
  simp
def rMulS : R2 := fun x y H Q => ∃ (z : Str) (k : Int), x = .str z ∧ y = .int k ∧ -(2 ^ 62) ≤ k ∧ k < 2 ^ 62 ∧ z.length * k.toNat ≤ 16777216 ∧ Q (.str (repS z k)) H
theorem op_mulS : OpR X (binaryOp .Mult) rMulS := by
  intro pins s σ H x y v u Q I rx ry h
  obtain ⟨z, k, rfl, rfl, h1, h2, h3, q⟩ := h
  obtain ⟨t, rfl⟩ := rx
  obtain ⟨t', rfl⟩ := ry
  have sz : sizeLine = 16777216 := sizeLine_eq
  refine PySem.P.mul_str ?_ (fun hn hz => ?_) (fun _ _ => ?_) ?_
  · rw [Bool.or_eq_false_iff]
    exact ⟨decide_eq_false (by omega), decide_eq_false (by omega)⟩
  · have hk : (k.toNat : Int) = k := Int.toNat_of_nonneg (by omega)
    have h4 : (z.length : Int) * k ≤ 16777216 := by
      have q3 := Int.ofNat_le.mpr h3
      rw [Int.natCast_mul, hk] at q3
      omega
    have h5 : (z.length : Int) ≤ (2 ^ 63 - 1) / k := (Int.le_ediv_iff_mul_le (by omega)).mpr (by omega)
    omega
  · unfold Builtin.Str.tooLong
    exact decide_eq_false (by omega)
  · by_cases hk : k < 1
    · rw [if_pos hk]
      have e : repS z k = Str.empty := by
        unfold repS
        have : k.toNat = 0 := by omega
        rw [this]
        rfl
      rw [e] at q
      exact ⟨by decide, ⟨.str Str.empty, H, I.tok _, ⟨_, rfl⟩, q⟩⟩
    · rw [if_neg hk]
      split
      · rename_i hz
        have e : repS z k = z := by
          simp only [Bool.or_eq_true, beq_iff_eq] at hz
          rcases hz with hz | hz
          · rw [hz]; exact repS_one z
          · exact repS_none hz
        rw [e] at q
        exact ⟨.str z, H, I, ⟨_, rfl⟩, q⟩
      · refine ⟨?_, ⟨.str (repS z k), H, I.tok _, ⟨_, rfl⟩, q⟩⟩
        show (repS z k).length ≤ sizeLine
        rw [repS_len]
        omega

def mul2D : D → D → Option RV
  | .str x, .int k => if -(2 ^ 62) ≤ k ∧ k < 2 ^ 62 ∧ x.length * k.toNat ≤ 16777216 then some (.dat (.str (repS x k))) else none
  | d, e => mulD d e
def rMul2 : R2 := fun x y H Q => rMul x y H Q ∨ rMulS x y H Q
theorem opr_mul2 : OpR X (binaryOp .Mult) rMul2 := opr_mul.or op_mulS
theorem opd_mul2 : OpD W rMul2 mul2D := by
  intro x y d e G H Q z s vx vy hf k
  unfold mul2D at hf
  split at hf
  · cases vx.str; cases vy.int
    split at hf
    · rename_i hz
      cases hf
      exact .inr ⟨_, _, rfl, rfl, hz.1, hz.2.1, hz.2.2, k _ _ _ (NR.dat s (.str _))⟩
    · cases hf
  · exact .inl (opd_mul x y d e G H Q z s vx vy hf k)

/-! ### is, is not -/
def isNon : D → Option Bool
  | .non => some true | .bl _ => some false | .int _ => some false | .str _ => some false | .lst _ => some false | .tup _ => some false | .dic _ => some false | .obj _ _ => some false | .scr _ => some false | _ => none
def isD (neg : Bool) : D → D → Option RV
  | d, .non => (isNon d).map fun b => .dat (.bl (if neg then !b else b))
  | .bl a, .bl b => some (.dat (.bl (if neg then !decide (a = b) else decide (a = b))))
  | _, _ => none
def rIsA (neg : Bool) : R2 := fun x y H Q => (y = .non ∧ Q (.bl (if neg then !decide (x = .non) else decide (x = .non))) H) ∨ (∃ a b : Bool, x = .bl a ∧ y = .bl b ∧ Q (.bl (if neg then !decide (a = b) else decide (a = b))) H)
theorem opr_is : OpR X (compareOp .Is) (rIsA false) := op_isN.or op_isBl
theorem opr_isn : OpR X (compareOp .IsNot) (rIsA true) := op_notN.or op_notBl
theorem isNon_ok {G H : Hp} {x : V} {d : D} {b : Bool} (vx : Vw W G H x d) (h : isNon d = some b) : decide (x = .non) = b := by
  cases vx with
  | rp r => cases r <;> simp [isNon] at h <;> subst h <;> simp
  | ob ev h1 q => subst ev; cases q <;> simp [isNon] at h <;> subst h <;> simp
theorem opd_is {neg : Bool} : OpD W (rIsA neg) (isD neg) := by
  intro x y d e G H Q z s vx vy hf k
  unfold isD at hf
  split at hf
  · cases vy.non
    simp only [Option.map_eq_some_iff] at hf
    obtain ⟨b, hb, rfl⟩ := hf
    refine .inl ⟨rfl, ?_⟩
    rw [isNon_ok vx hb]
    exact k _ _ _ (NR.dat s (.bl _))
  · cases vx.bl; cases vy.bl; cases hf
    exact .inr ⟨_, _, rfl, rfl, k _ _ _ (NR.dat s (.bl _))⟩
  · cases hf

/-! ### any, sum, isinstance -/
theorem callD_any : CallD W (rAny W.K) anyD := by
  intro xs ds G H Q z s vs hf k
  unfold anyD at hf
  split at hf
  · cases vs with
    | cons v t =>
      cases t
      obtain ⟨a, ys, rfl, ha, ra⟩ := v.lst s
      simp only [Option.map_eq_some_iff] at hf
      obtain ⟨bs, h1, rfl⟩ := hf
      exact ⟨a, bs, rfl, by rw [← bools_ok ra h1]; exact SqL.of ha, k _ _ _ (NR.dat s (.bl _))⟩
  · cases hf
def intsD : List D → Option (List Int)
  | [] => some []
  | .int i :: ds => (intsD ds).map (i :: ·)
  | _ :: _ => none
theorem intsD_ok {G : Hp} : ∀ {vs : List V} {ds : List D} {bs : List Int}, RpAll W G vs ds → intsD ds = some bs → vs = bs.map V.int
  | _, _, _, .nil, e => by cases e; rfl
  | _, .int b :: ds, _, .cons h t, e => by
    simp only [intsD, Option.map_eq_some_iff] at e
    obtain ⟨bs, h1, rfl⟩ := e
    cases h
    rw [List.map_cons, intsD_ok t h1]
def strsD : List D → Option (List Str)
  | [] => some []
  | .str i :: ds => (strsD ds).map (i :: ·)
  | _ :: _ => none
theorem strsD_ok {G : Hp} : ∀ {vs : List V} {ds : List D} {bs : List Str}, RpAll W G vs ds → strsD ds = some bs → vs = bs.map V.str
  | _, _, _, .nil, e => by cases e; rfl
  | _, .str b :: ds, _, .cons h t, e => by
    simp only [strsD, Option.map_eq_some_iff] at e
    obtain ⟨bs, h1, rfl⟩ := e
    cases h
    rw [List.map_cons, strsD_ok t h1]
def sumD : List D → Option RV
  | [.lst ds] => (intsD ds).map fun ns => .dat (.int ns.sum)
  | _ => none
theorem callD_sum : CallD W (rSum W.K) sumD := by
  intro xs ds G H Q z s vs hf k
  unfold sumD at hf
  split at hf
  · cases vs with
    | cons v t =>
      cases t
      obtain ⟨a, ys, rfl, ha, ra⟩ := v.lst s
      simp only [Option.map_eq_some_iff] at hf
      obtain ⟨ns, h1, rfl⟩ := hf
      exact ⟨a, ns, rfl, by rw [← intsD_ok ra h1]; exact SqL.of ha, k _ _ _ (NR.dat s (.int _))⟩
  · cases hf
def tyNm : D → Option String
  | .non => some "NoneType" | .bl _ => some "bool" | .int _ => some "int" | .str _ => some "str" | .lst _ => some "list" | .tup _ => some "tuple" | .dic _ => some "dict" | _ => none
def typs : List D → Option (List String)
  | [] => some []
  | .typ i :: ds => (typs ds).map (i :: ·)
  | _ :: _ => none
def kitBs (t : String) : List String → Option Bool
  | [] => some false
  | c :: cs => match kitB t c with
    | some true => some true
    | some false => kitBs t cs
    | none => none
theorem kitBs_ok {K : PySem.W.Frag} {t : String} : ∀ {cs : List String} {b : Bool}, kitBs t cs = some b → PySem.W.kitAny K (.type t) (cs.map Value.type) = some b
  | [], b, h => by cases h; rfl
  | c :: cs, b, h => by
    unfold kitBs at h
    rw [List.map_cons]
    split at h
    · rename_i e
      cases h
      exact kitAny_cons (kit_ty e) (fun z => nomatch z) fun _ => rfl
    · rename_i e
      exact kitAny_cons (kit_ty e) (fun _ => kitBs_ok h) fun z => nomatch z
    · cases h
theorem typs_ok {G : Hp} : ∀ {vs : List V} {ds : List D} {cs : List String}, RpAll W G vs ds → typs ds = some cs → Paired ClsV vs (cs.map Value.type)
  | _, _, _, .nil, e => by cases e; exact .nil
  | _, .typ c :: ds, _, .cons h t, e => by
    simp only [typs, Option.map_eq_some_iff] at e
    obtain ⟨cs, h1, rfl⟩ := e
    cases h
    exact .cons (.ty c) (typs_ok t h1)
theorem tyNm_ok {G H : Hp} {x : V} {d : D} {t : String} (s : Same G H) (vx : Vw W G H x d) (h : tyNm d = some t) : TyX W.K H x (.type t) := by
  cases d <;> simp only [tyNm] at h <;> cases h
  · cases vx.non; exact .base .non
  · cases vx.bl; exact .base (.bl _)
  · cases vx.int; exact .base (.int _)
  · cases vx.str; exact .base (.str _)
  · obtain ⟨a, ys, rfl, ha, ra⟩ := vx.lst s; exact .base (.lst ha)
  · obtain ⟨a, ys, rfl, ha, ra⟩ := vx.tup s; exact .base (.tup ha)
  · cases vx with
    | rp r => cases r with | dic e r => exact .base (.dK (s _ _ e))
    | ob ev h q => subst ev; cases q with | dic r => exact .base (.dK h)
def isiD : List D → Option RV
  | [d, .typ c] => (tyNm d).bind fun t => (kitB t c).map fun b => .dat (.bl b)
  | [d, .tup cs] => (tyNm d).bind fun t => (typs cs).bind fun cs => (kitBs t cs).map fun b => .dat (.bl b)
  | _ => none
def rIsiA (K : PySem.W.Frag) : List V → Hp → VK → Prop := fun xs H Q => rIsi K xs H Q ∨ rIsiT K xs H Q
theorem CallR.or {f : Value} {r r' : List V → Hp → VK → Prop} (h : CallR X f r) (h' : CallR X f r') : CallR X f (fun xs H Q => r xs H Q ∨ r' xs H Q) :=
  fun pins s σ H vs us Q I rr q => q.elim (h pins s σ H vs us Q I rr) (h' pins s σ H vs us Q I rr)
theorem cr_isi : CallR X (.builtin "isinstance") (rIsiA X.K) := CallR.or call_isi call_isiT
theorem callD_isi : CallD W (rIsiA W.K) isiD := by
  intro xs ds G H Q z s vs hf k
  unfold isiD at hf
  split at hf
  · simp only [Option.bind_eq_some_iff, Option.map_eq_some_iff] at hf
    obtain ⟨t, h1, b, h2, rfl⟩ := hf
    cases vs with
    | cons v w => cases w with
      | cons v' w =>
        cases w
        cases v'.typ
        exact .inl ⟨_, _, _, _, b, rfl, .ty _, tyNm_ok s v h1, kit_ty h2, k _ _ _ (NR.dat s (.bl _))⟩
  · simp only [Option.bind_eq_some_iff, Option.map_eq_some_iff] at hf
    obtain ⟨t, h1, cs, h3, b, h2, rfl⟩ := hf
    cases vs with
    | cons v w => cases w with
      | cons v' w =>
        cases w
        obtain ⟨a, ys, rfl, ha, ra⟩ := v'.tup s
        exact .inr ⟨_, a, ys, _, _, b, rfl, ha, typs_ok ra h3, tyNm_ok s v h1, kitBs_ok h2, k _ _ _ (NR.dat s (.bl _))⟩
  · cases hf

/-! ### a < b < c -/
def pChain (f f' : D → D → Option RV) (P P' P'' : PF) : PF := fun env => do
  let (ra, e1) ← P env
  let (rb, e2) ← P' e1
  let x ← ra.cont e2
  match rb with
  | .dat y => match f x y with
    | some (.dat (.bl true)) => do
      let (rc, e3) ← P'' e2
      let w ← rc.cont e3
      let z ← f' y w
      some (z, e3)
    | some (.dat (.bl false)) => some (.dat (.bl false), e2)
    | _ => none
  | _ => none
theorem chain_tE {r r' : R2} {f f' : D → D → Option RV} (o : OpD W r f) (o' : OpD W r' f') {P P' P'' : PF} {σ : L2.St} {H : Hp} {Q : VK} (h : tE W (pChain f f' P P' P'') σ H Q) : tChain r r' (tE W P) (tE W P') (tE W P'') σ H Q := by
  obtain ⟨env, G, rv, env', rl, p, k⟩ := h
  unfold pChain at p
  simp only [Option.bind_eq_bind, Option.bind_eq_some_iff, Prod.exists] at p
  obtain ⟨ra, e1, h1, rb, e2, h2, x, h3, p⟩ := p
  refine tE_two rl h1 h2 fun u v H1 G1 s o1 o2 => ?_
  split at p
  · rename_i y
    have vy : Vw W G1 H1 v y := .rp o2
    split at p
    · rename_i hz
      simp only [Option.bind_eq_some_iff, Prod.exists, Option.some.injEq, Prod.mk.injEq] at p
      obtain ⟨rc, e3, h4, w, h5, z, h6, rfl, rfl⟩ := p
      refine o u v x y G1 H1 _ _ s.rel.sub (o1.vw s.rel h3) vy hz fun t H2 G2 n => ?_
      have q : Rp W G2 t (.bl true) := n.ok
      cases q
      have s2 := s.trans (n.step s.rel)
      refine ⟨true, rfl, ?_⟩
      rw [if_pos rfl]
      refine tE_one s2.rel h4 fun c H3 G3 s3 o3 => ?_
      refine o' v c y w G3 H3 Q z s3.rel.sub (.rp (Rp.mono (n.ext.same.trans s3.ext.same) o2)) (o3.vw s3.rel h5) h6 fun b H4 G4 n4 => ?_
      exact k b H4 G4 ((s2.trans s3).trans (n4.step s3.rel)) (n4.rv fun b hb => s2.ext.dom b (s3.ext.dom b hb))
    · rename_i hz
      cases p
      refine o u v x y G1 H1 _ _ s.rel.sub (o1.vw s.rel h3) vy hz fun t H2 G2 n => ?_
      have q : Rp W G2 t (.bl false) := n.ok
      cases q
      refine ⟨false, rfl, ?_⟩
      rw [if_neg (by simp)]
      exact k _ H2 G2 (s.trans (n.step s.rel)) (.bl false)
    · cases p
  · cases p
theorem lastMarks2 {op op' : CmpOp} {b c : Expr} (h : notSet c = true) : lastMarks [op, op'] [b, c] = false := by
  show behindInMarks op' c = false
  exact nomarks h
theorem pd_chain {op op' : CmpOp} {r r' : R2} {f f' : D → D → Option RV} {a b c : Expr} {P P' P'' : PF} {pos : Pos} (ho : OpR X (compareOp op) r) (o : OpD W r f) (ho' : OpR X (compareOp op') r') (o' : OpD W r' f') (ha : PD X W P a) (hb : PD X W P' b) (hc : PD X W P'' c) (hn : notSet c = true) :
    PD X W (pChain f f' P P' P'') (.Compare a [op, op'] [b, c] pos) :=
  PE.weak (pe_chain ho ho' ha hb hc (lastMarks2 hn)) fun _ _ _ h => chain_tE o o' h
theorem ptd_chain {op op' : CmpOp} {r r' : R2} {f f' : D → D → Option RV} {a b c : Expr} {P P' P'' : PF} {pos : Pos} (ho : OpR X (compareOp op) r) (o : OpD W r f) (ho' : OpR X (compareOp op') r') (o' : OpD W r' f') (ha : PD X W P a) (hb : PD X W P' b) (hc : PD X W P'' c) (hn : notSet c = true) :
    PTD X W (bVal (pChain f f' P P' P'')) (.Compare a [op, op'] [b, c] pos) :=
  PT.weak (pt_chain ho ho' ha hb hc (lastMarks2 hn)) fun σ H Q h => chain_tE o o' (test_tE h)

/-! ### a text's method with one argument -/
def pM1 (f : Str → D → Option RV) (P P' : PF) : PF := fun env => do
  let (ra, e1) ← P env
  match ra with
  | .dat (.str a) => do
    let (rb, e2) ← P' e1
    let y ← rb.cont e2
    let z ← f a y
    some (z, e2)
  | _ => none
def M1D (W : Pw) (r : V → List V → Hp → VK → Prop) (f : Str → D → Option RV) : Prop := ∀ (a : Str) (y : V) (e : D) (G H : Hp) (Q : VK) (z : RV), Same G H → Vw W G H y e → f a e = some z → (∀ v H' G', NR W H G v z H' G' → Q v H') → r (.str a) [y] H Q
theorem m1_tE {r : V → List V → Hp → VK → Prop} {f : Str → D → Option RV} (o : M1D W r f) {P P' : PF} {σ : L2.St} {H : Hp} {Q : VK} (h : tE W (pM1 f P P') σ H Q) : tM1 r (tE W P) (tE W P') σ H Q := by
  obtain ⟨env, G, rv, env', rl, p, k⟩ := h
  unfold pM1 at p
  simp only [Option.bind_eq_bind, Option.bind_eq_some_iff, Prod.exists] at p
  obtain ⟨ra, e1, h1, p⟩ := p
  refine tE_one rl h1 fun u H1 G1 s o1 => ?_
  split at p
  · rename_i a
    simp only [Option.bind_eq_some_iff, Prod.exists, Option.some.injEq, Prod.mk.injEq] at p
    obtain ⟨rb, e2, h2, y, h3, z, h4, rfl, rfl⟩ := p
    cases o1
    refine ⟨⟨a, rfl⟩, tE_one s.rel h2 fun v H2 G2 s2 o2 => ?_⟩
    refine o a v y G2 H2 Q z s2.rel.sub (o2.vw s2.rel h3) h4 fun b H3 G3 n => ?_
    exact k b H3 G3 ((s.trans s2).trans (n.step s2.rel)) (n.rv fun b hb => s.ext.dom b (s2.ext.dom b hb))
  · cases p
def joinD (a : Str) : D → Option RV
  | .lst ds => (strsD ds).bind fun ys => if (ys.map (·.length)).sum + ys.length * a.length ≤ 16777216 then some (.dat (.str (Txt.join a ys))) else none
  | .tup ds => (strsD ds).bind fun ys => if (ys.map (·.length)).sum + ys.length * a.length ≤ 16777216 then some (.dat (.str (Txt.join a ys))) else none
  | _ => none
def rJoin (K : PySem.W.Frag) : V → List V → Hp → VK → Prop := fun x xs H Q => ∃ a p, ∃ ys : List Str, x = .str a ∧ xs = [.ref p] ∧ (SqL K H p (ys.map V.str) ∨ SqT K H p (ys.map V.str)) ∧ (ys.map (·.length)).sum + ys.length * a.length ≤ 16777216 ∧ Q (.str (Txt.join a ys)) H
theorem m1d_join : M1D W (rJoin W.K) joinD := by
  intro a y e G H Q z s vy hf k
  unfold joinD at hf
  split at hf
  · simp only [Option.bind_eq_some_iff] at hf
    obtain ⟨ys, h1, h2⟩ := hf
    split at h2
    · rename_i hz
      cases h2
      obtain ⟨p, vs, rfl, hp, rp⟩ := vy.lst s
      exact ⟨a, p, ys, rfl, rfl, .inl (by rw [← strsD_ok rp h1]; exact SqL.of hp), hz, k _ _ _ (NR.dat s (.str _))⟩
    · cases h2
  · simp only [Option.bind_eq_some_iff] at hf
    obtain ⟨ys, h1, h2⟩ := hf
    split at h2
    · rename_i hz
      cases h2
      obtain ⟨p, vs, rfl, hp, rp⟩ := vy.tup s
      exact ⟨a, p, ys, rfl, rfl, .inr (by rw [← strsD_ok rp h1]; exact SqT.of hp), hz, k _ _ _ (NR.dat s (.str _))⟩
    · cases h2
  · cases hf
/-- a text that is written there -/
def isStrC : Expr → Bool
  | .Constant (.str _) _ _ => true
  | _ => false
theorem base_str {o : Expr} {name : Str} {env : Env} {m : Sem Value} (h : isStrC o = true) : attributeBase o name env m = m := by
  cases o <;> first | (cases h; done) | rfl
theorem pd_join {o e : Expr} {P P' : PF} {apos pos : Pos} (hK : X.K = W.K) (ho : PD X W P o) (he : PD X W P' e) (hb : isStrC o = true) (hs : notStar e = true) (hl : (apos.endLine == pos.line) = true) : PD X W (pM1 joinD P P') (.Call (.Attribute o "join" apos) [e] [] pos) := by
  refine PE.weak (pe_join ho he (by rw [star_plain hs]; rfl) (base_str hb) hl) fun σ H Q h => ?_
  rw [hK]
  exact m1_tE m1d_join h

/-! ### list(xs), tuple(xs) -/
def listD : List D → Option RV
  | [.lst ds] => some (.own (.lst ds))
  | [.tup ds] => some (.own (.lst ds))
  | _ => none
def rListOf (K : PySem.W.Frag) : List V → Hp → VK → Prop := fun xs H Q => ∃ p ys, xs = [.ref p] ∧ (SqL K H p ys ∨ SqT K H p ys) ∧ ∀ l, H l = none → Q (.ref l) (upd H l (.lst ys))
theorem callD_list : CallD W (rListOf W.K) listD := by
  intro xs ds G H Q z s vs hf k
  unfold listD at hf
  split at hf
  · cases vs with | cons v t => cases t; obtain ⟨a, ys, rfl, ha, ra⟩ := v.lst s; cases hf; exact ⟨a, ys, rfl, .inl (SqL.of ha), fun l n => k _ _ _ (NR.own s n (.lst ra))⟩
  · cases vs with | cons v t => cases t; obtain ⟨a, ys, rfl, ha, ra⟩ := v.tup s; cases hf; exact ⟨a, ys, rfl, .inr (SqT.of ha), fun l n => k _ _ _ (NR.own s n (.lst ra))⟩
  · cases hf
def tupleD : List D → Option RV
  | [.lst ds] => some (.dat (.tup ds))
  | _ => none
def rTupOf (K : PySem.W.Frag) : List V → Hp → VK → Prop := fun xs H Q => ∃ p ys, xs = [.ref p] ∧ ((SqL K H p ys ∧ ∀ l, H l = none → Q (.ref l) (upd H l (.tup ys))) ∨ (SqT K H p ys ∧ Q (.ref p) H))
theorem callD_tuple : CallD W (rTupOf W.K) tupleD := by
  intro xs ds G H Q z s vs hf k
  unfold tupleD at hf
  split at hf
  · cases vs with | cons v t => cases t; obtain ⟨a, ys, rfl, ha, ra⟩ := v.lst s; cases hf; exact ⟨a, ys, rfl, .inl ⟨SqL.of ha, fun l n => k _ _ _ (NR.frz s n (.tup upd_same (RpAll.mono (same_upd (s.free n)) ra)))⟩⟩
  · cases hf

/-! ### in, of a dict with numbers and texts as keys -/
def keyOf : D → Option Key
  | .int i => some (.inl i)
  | .str x => some (.inr x)
  | _ => none
def hasK (kd : List (Key × D)) (k : Key) : Bool := kd.any fun kv => decide (kv.1 = k)
theorem hasK_ok {G : Hp} {k : Key} : ∀ {kv : List (Key × V)} {kd : List (Key × D)}, RpK W G kv kd → (kv.any fun p => decide (p.1 = k)) = hasK kd k
  | _, _, .nil => rfl
  | _, _, .cons _ r => by
    unfold hasK
    rw [List.any_cons, List.any_cons, hasK_ok r]
    rfl
theorem keyOf_ok {G H : Hp} {x : V} {d : D} {k : Key} (vx : Vw W G H x d) (h : keyOf d = some k) : x = kV k := by
  cases d <;> simp only [keyOf, reduceCtorEq, Option.some.injEq] at h
  · cases vx.int; subst h; rfl
  · cases vx.str; subst h; rfl
def in2B (neg : Bool) : D → D → Option RV
  | x, .dic kd => (keyOf x).map fun k => .dat (.bl (if neg then !hasK kd k else hasK kd k))
  | x, y => inB neg x y
def rInDc (neg : Bool) : R2 := fun x y H Q => ∃ a o, y = .ref a ∧ DGet H a x o ∧ Q (.bl (if neg then !o.isSome else o.isSome)) H
def rIn2 (K : PySem.W.Frag) (neg : Bool) : R2 := fun x y H Q => rInA K neg x y H Q ∨ rInDc neg x y H Q
theorem op_inDc (hu : X.A.units + 1 < cLine) : OpR X (compareOp .In) (rInDc false) := by
  intro pins s σ H x y v u Q I rx ry h
  obtain ⟨a, o, rfl, g, q⟩ := h
  cases ry
  exact d_in hu I g rx fun s3 I3 => ⟨.bl o.isSome, H, I3, rfl, q⟩
theorem op_ninDc (hu : X.A.units + 1 < cLine) : OpR X (compareOp .NotIn) (rInDc true) := by
  intro pins s σ H x y v u Q I rx ry h
  obtain ⟨a, o, rfl, g, q⟩ := h
  cases ry
  exact d_notIn hu I g rx fun s3 I3 => ⟨.bl (!o.isSome), H, I3, rfl, q⟩
theorem opr_in2 (hu : X.A.units + 1 < cLine) : OpR X (compareOp .In) (rIn2 X.K false) := opr_in.or (op_inDc hu)
theorem opr_nin2 (hu : X.A.units + 1 < cLine) : OpR X (compareOp .NotIn) (rIn2 X.K true) := opr_nin.or (op_ninDc hu)
theorem opd_in2 {neg : Bool} : OpD W (rIn2 W.K neg) (in2B neg) := by
  intro x y d e G H Q z s vx vy hf k
  unfold in2B at hf
  split at hf
  · simp only [Option.map_eq_some_iff] at hf
    obtain ⟨ky, h1, rfl⟩ := hf
    obtain ⟨a, kv, rfl, ha, ra⟩ := vy.dic s
    have ex := keyOf_ok vx h1
    subst ex
    refine .inr ⟨a, valV kv ky, rfl, DGet.k ha, ?_⟩
    rw [← valV_any, hasK_ok ra]
    exact k _ _ _ (NR.dat s (.bl _))
  · exact .inl (opd_in x y d e G H Q z s vx vy hf k)
end
end Den
end

section
set_option Elab.async false
set_option linter.all false
set_option maxRecDepth 100000
set_option maxHeartbeats 2000000
/-! DenD3: sorted, by data of any kind. -/
namespace Den
open PySem L2 PySem.Spec PyProof.Rows PySem.W
def encD (d : D) : PyData := (toPy d).getD .none
def leD : D → D → Bool := dataLe false encD
def allAlike (ps : List PyData) : Bool := ps.all fun p => ps.all fun q => alike p q
def tupB : PyData → Bool
  | .tuple (_ :: _) => true
  | _ => false
def atomB : PyData → Bool
  | .int _ => true
  | .str _ => true
  | .bool _ => true
  | .list _ => true
  | _ => false
/-- what sorted takes: data that reads, alike, all rows or all others -/
def sortB (ds : List D) : Bool := match toPyAll ds with
  | some ps => decide (ds.length ≤ 16777216) && allAlike ps && (ps.all tupB || ps.all atomB) && ps.all fun p => decide (p.depth ≤ 60)
  | none => false
section
variable {X : Cx} {W : Pw}
theorem toPyAll_map : ∀ {ds : List D} {ps : List PyData}, toPyAll ds = some ps → ps = ds.map encD ∧ ∀ d ∈ ds, toPy d = some (encD d)
  | [], ps, h => by cases h; exact ⟨rfl, fun d hd => by cases hd⟩
  | d :: ds, ps, h => by
    simp only [toPyAll] at h
    split at h
    · rename_i p qs h1 h2
      cases h
      obtain ⟨e1, e2⟩ := toPyAll_map h2
      have e3 : encD d = p := by unfold encD; rw [h1]; rfl
      refine ⟨by rw [List.map_cons, e3, e1], fun e he => ?_⟩
      rcases List.mem_cons.mp he with rfl | he
      · rw [h1, e3]
      · exact e2 e he
    · cases h
theorem sortB_ok {ds : List D} (h : sortB ds = true) : ds.length ≤ 16777216 ∧ (∀ d ∈ ds, toPy d = some (encD d)) ∧ AllAlike (ds.map encD) ∧ Sortable (ds.map encD) ∧ ∀ d ∈ ds, (encD d).depth ≤ 60 := by
  unfold sortB at h
  split at h
  · rename_i ps hp
    obtain ⟨e1, e2⟩ := toPyAll_map hp
    subst e1
    simp only [Bool.and_eq_true, Bool.or_eq_true, List.all_eq_true, decide_eq_true_eq, allAlike] at h
    obtain ⟨⟨⟨h0, h1⟩, h2⟩, h3⟩ := h
    refine ⟨h0, e2, fun d hd d' hd' => h1 d hd d' hd', ?_, fun d hd => h3 _ (List.mem_map.mpr ⟨d, hd, rfl⟩)⟩
    rcases h2 with h2 | h2
    · refine .inl fun d hd => ?_
      have q := h2 d hd
      cases d <;> simp only [tupB, Bool.false_eq_true] at q
      rename_i xs
      cases xs with
      | nil => simp [tupB] at q
      | cons x r => exact ⟨x, r, rfl⟩
    · refine .inr fun d hd => ?_
      have q := h2 d hd
      cases d <;> simp [atomB] at q ⊢
  · cases h
/-- the values that stand for ds -/
theorem vals_split {G : Hp} : ∀ {us : List Value} {ds : List D}, EachIs (fun u d => ∃ x, RelV x u ∧ Rp W G x d) us ds → ∃ zs, Vals zs us ∧ RpAll W G zs ds
  | _, _, .nil => ⟨[], .nil, .nil⟩
  | _, _, .cons ⟨x, h1, h2⟩ t => by
    obtain ⟨zs, h3, h4⟩ := vals_split t
    exact ⟨x :: zs, .cons h1 h3, .cons h2 h4⟩
theorem each_join {G : Hp} {R : Value → D → Prop} (hR : ∀ u x d, RelV x u → Rp W G x d → R u d) : ∀ {us : List Value} {xs : List V} {ds : List D}, Vals xs us → RpAll W G xs ds → EachIs R us ds
  | _, _, _, .nil, .nil => .nil
  | _, _, _, .cons a r, .cons b t => .cons (hR _ _ _ a b) (each_join hR r t)
theorem each_mem {α β : Type} {R : α → β → Prop} : ∀ {as : List α} {bs : List β}, EachIs R as bs → EachIs (fun a b => R a b ∧ b ∈ bs) as bs
  | _, _, .nil => .nil
  | _, _, .cons h t => .cons ⟨h, List.mem_cons_self ..⟩ ((each_mem t).mono fun _ _ q => ⟨q.1, List.mem_cons_of_mem _ q.2⟩)
def rSortedW (W : Pw) : List V → Hp → VK → Prop := fun vs H Q => ∃ (a : Addr) (xs : List V) (ds : List D) (G : Hp), vs = [V.ref a] ∧ SqL W.K H a xs ∧ RpAll W G xs ds ∧ Same G H ∧ sortB ds = true ∧
  ∀ (zs : List V) (p : Addr), RpAll W G zs (ds.mergeSort leD) → H p = none → Q (.ref p) (upd H p (.lst zs))
theorem cr_sortedW (hK : X.K = W.K) (hu : X.A.units + 70 < cLine) : CallR X (.builtin "sorted") (rSortedW W) := by
  intro pins s σ H vs us Q I r h
  obtain ⟨a, xs, ds, G, rfl, hs, ra, sg, hb, q⟩ := h
  rw [← hK] at hs
  obtain ⟨its, rv, hl, hz⟩ := I.list hs
  obtain ⟨u, rfl, ru⟩ := vals1 r
  obtain rfl : u = Value.ref a := ru
  obtain ⟨h0, h1, h2, h3, h4⟩ := sortB_ok hb
  refine sorted_data (β := D) (enc := encD) (R := fun u d => ∃ x, RelV x u ∧ Rp W G x d) (bs := ds) hl.isList (each_join (fun u x d r1 r2 => ⟨x, r1, r2⟩) rv ra) ?_ h2 h3 (by rw [sizeLine_eq]; exact h0) (fun d hd => by have := h4 d hd; omega) fun out ho he => ?_
  · refine (each_mem (each_join (fun u x d r1 r2 => show (∃ x, RelV x u ∧ Rp W G x d) from ⟨x, r1, r2⟩) rv ra)).mono fun u d hh => ?_
    obtain ⟨⟨x, r1, r2⟩, hd⟩ := hh
    exact Dp.reads I _ x u (by rw [hK]; exact Dp.mono' sg (Rp.dp r2 (h1 d hd))) r1
  · obtain ⟨zs, z1, z2⟩ := vals_split he
    have hd : s.heap.objs.size ≤ s.heap.objs.size + 1 := Nat.le_succ _
    obtain ⟨n, hn⟩ := sortedAll_at s.heap its out.toArray
    refine ⟨.ref (s.heap.objs.size + 1), upd H _ (.lst zs), I.laid (t' := s.toks) (fun b o e => sortedAll_old e) hd ⟨?_, out, n, z1, hn⟩, rfl, q zs _ z2 (I.hok.fresh hd)⟩
    rw [z2.length, (List.mergeSort_perm ds (dataLe false encD)).length_eq, sizeLine_eq]
    exact h0
def sortedD : List D → Option RV
  | [.lst ds] => if sortB ds then some (.own (.lst (ds.mergeSort leD))) else none
  | _ => none
theorem callD_sorted : CallD W (rSortedW W) sortedD := by
  intro xs ds G H Q z s vs hf k
  unfold sortedD at hf
  split at hf
  · rename_i ds
    split at hf
    · rename_i hb
      cases hf
      cases vs with
      | cons v t =>
        cases t
        obtain ⟨a, ys, rfl, ha, ra⟩ := v.lst s
        exact ⟨a, ys, ds, G, rfl, SqL.of ha, ra, s, hb, fun zs p hz n => k _ _ _ (NR.own s n (.lst hz))⟩
    · cases hf
  · cases hf
end
end Den
end

section
set_option Elab.async false
set_option linter.all false
set_option maxRecDepth 100000
set_option maxHeartbeats 2000000
/-! DenE: statements, targets, walks, loops, comprehensions. -/
namespace Den
open PySem L2
section
variable {X : Cx} {W : Pw}

/-- what a statement ends in -/
inductive Out where
  | nx (env : Env') | rt (rv : RV) (env : Env') | bk (env : Env') | ct (env : Env')
/-- behind a statement: np says which parameters' own objects stay in their slots -/
structure StepS (W : Pw) (np : Nat) (σ : St) (env : Env') (H G : Hp) (σ' : St) (env' : Env') (H' G' : Hp) : Prop where
  rel : Rel W σ' env' H' G'
  ext : Ext H G H' G'
  keep : ∀ b o, H b = some o → ¬ Mine σ env H b → H' b = some o
  own : ∀ b, Mine σ' env' H' b → H b = none ∨ Mine σ env H b
  pin : ∀ (i : Nat) (d : D), i < np → env[i]? = some (.own d) → σ'[i]? = σ[i]? ∧ ∃ d', env'[i]? = some (.own d')
  len : env'.length = env.length
theorem StepS.refl {np : Nat} {σ : St} {env : Env'} {H G : Hp} (r : Rel W σ env H G) : StepS W np σ env H G σ env H G := ⟨r, Ext.refl _ _, fun _ _ h _ => h, fun _ h => .inr h, fun _ d _ h => ⟨rfl, d, h⟩, rfl⟩
theorem StepS.trans {np : Nat} {σ σ1 σ2 : St} {env e1 e2 : Env'} {H G H1 G1 H2 G2 : Hp} (a : StepS W np σ env H G σ1 e1 H1 G1) (b : StepS W np σ1 e1 H1 G1 σ2 e2 H2 G2) : StepS W np σ env H G σ2 e2 H2 G2 := by
  refine ⟨b.rel, a.ext.trans b.ext, fun c o h n => b.keep c o (a.keep c o h n) fun z => ?_, fun c h => ?_, fun i d hi h => ?_, b.len.trans a.len⟩
  · rcases a.own c z with q | q
    · rw [h] at q; cases q
    · exact n q
  · rcases b.own c h with q | q
    · exact .inl (a.ext.dom c q)
    · exact a.own c q
  · obtain ⟨h1, d', h2⟩ := a.pin i d hi h
    obtain ⟨h3, d'', h4⟩ := b.pin i d' hi h2
    exact ⟨h3.trans h1, d'', h4⟩
theorem Le.ownAt {a b : Env'} (h : Le a b) {i : Nat} {d : D} (e : a[i]? = some (.own d)) : ∀ s, b[i]? = some s → s = .und ∨ ∃ d', s = .own d' := fun s hs => by
  have q := h.at_ i _ s e hs
  cases s with
  | und => exact .inl rfl
  | own d' => exact .inr ⟨d', rfl⟩
  | dat d' => simp [LeS] at q
  | bor d' => simp [LeS] at q
  | nst d' => simp [LeS] at q
/-- an expression's step as a statement's, where no own object was forgotten -/
def OwnKept (env env' : Env') : Prop := ∀ (i : Nat) (d : D), env[i]? = some (.own d) → ∃ d', env'[i]? = some (.own d')
theorem Step.toS {np : Nat} {σ : St} {env env' : Env'} {H G H' G' : Hp} (r : Rel W σ env H G) (s : Step W σ env H G env' H' G') (k : ∀ (i : Nat) (d : D), i < np → env[i]? = some (.own d) → ∃ d', env'[i]? = some (.own d')) : StepS W np σ env H G σ env' H' G' :=
  ⟨s.rel, s.ext, fun b o h n => s.keep b o h fun z => n (.inl z), fun b h => .inr (s.mine r h), fun i d hi h => ⟨rfl, k i d hi h⟩, s.le.len.symm⟩

/-! ### a slot is written -/
/-- slot i is a parameter with an own object -/
def pinned (np : Nat) (env : Env') (i : Nat) : Bool := decide (i < np) && (match env[i]? with
  | some (.own _) => true
  | _ => false)
theorem SlOk.mono {H G H' G' : Hp} {x : Option (Option V)} {s : SV} (h : SlOk W G H x s) (sg : Same G G') (kp : ∀ b o, x = some (some (.ref b)) → s.isObj = true → H b = some o → H' b = some o) (gn : ∀ b, x = some (some (.ref b)) → s.isOwn = true → G b = none → H b ≠ none → G' b = none)
    (kz : ∀ d b, s = .nst d → b ∈ zone H x (.nst d) → (∀ u, H b = some u → H' b = some u) ∧ (G b = none → H b ≠ none → G' b = none)) : SlOk W G' H' x s := by
  cases s with
  | und => trivial
  | dat d => obtain ⟨v, h1, h2⟩ := h; exact ⟨v, h1, Rp.mono sg h2⟩
  | own d => obtain ⟨a, o, h1, h2, h3, h4⟩ := h; exact ⟨a, o, h1, kp a o h1 rfl h2, gn a h1 rfl h3 (by rw [h2]; simp), h4.mono sg⟩
  | bor d => obtain ⟨a, o, h1, h2, h4⟩ := h; exact ⟨a, o, h1, kp a o h1 rfl h2, h4.mono sg⟩
  | nst d =>
    obtain ⟨a, o, h1, h2, h3, h4, h5⟩ := h
    have m : ∀ b, b ∈ a :: kidsO o → b ∈ zone H x (.nst d) := fun b z => by rw [h1]; simpa [zone, h2] using z
    exact ⟨a, o, h1, (kz d a rfl (m a (by simp))).1 o h2, (kz d a rfl (m a (by simp))).2 h3 (by rw [h2]; simp), h4.mono sg (fun b u z q => (kz d b rfl (m b (List.mem_cons_of_mem _ z))).1 u q) (fun b z q w => (kz d b rfl (m b (List.mem_cons_of_mem _ z))).2 q w), h5⟩
/-- a slot that is written, in the zones -/
theorem NstOk.set {σ : St} {env : Env'} {H : Hp} {i : Nat} {x : Option V} {s : SV} (n : NstOk σ env H) (hl : σ.length = env.length) (hn : ∀ d, s ≠ .nst d) (f : ∀ (c : Addr) (j : Nat) (d : D), c ∈ zone H (some x) s → env[j]? = some (.nst d) → c ∈ zone H σ[j]? (.nst d) → j = i) : NstOk (σ.set i x) (env.set i s) H := fun j k d t c h1 h2 h3 h4 => by
  have hj : j < env.length := by
    have := (List.getElem?_eq_some_iff.mp h1).1
    simpa using this
  have hk : k < env.length := by
    have := (List.getElem?_eq_some_iff.mp h2).1
    simpa using this
  by_cases ej : j = i
  · subst ej
    rw [List.getElem?_set_self hj] at h1
    cases h1
    exact (hn d rfl).elim
  · rw [List.getElem?_set_ne (Ne.symm ej)] at h1 h3
    by_cases ek : k = i
    · subst ek
      rw [List.getElem?_set_self hk] at h2
      rw [List.getElem?_set_self (by omega)] at h4
      cases h2
      exact f c j d h4 h1 h3
    · rw [List.getElem?_set_ne (Ne.symm ek)] at h2 h4
      exact n j k d t c h1 h2 h3 h4
/-- frozen data into a slot -/
theorem Rel.setDat {σ : St} {env : Env'} {H G : Hp} {i : Nat} {v : V} {d : D} (r : Rel W σ env H G) (h : Rp W G v d) : Rel W (σ.set i (some v)) (env.set i (.dat d)) H G := by
  refine ⟨by simp [r.len], r.sub, fun j s hs => ?_, fun j k d' s a h1 h2 h3 h4 h5 => ?_, r.nst.set r.len (by simp) fun c j d z _ _ => by unfold zone at z; split at z <;> cases z⟩
  · by_cases e : j = i
    · subst e
      have hj : j < env.length := by
        have := (List.getElem?_eq_some_iff.mp hs).1
        simpa using this
      rw [List.getElem?_set_self hj] at hs
      cases hs
      exact ⟨v, by rw [List.getElem?_set_self (by rw [r.len]; exact hj)], h⟩
    · rw [List.getElem?_set_ne (Ne.symm e)] at hs ⊢
      exact r.slot j s hs
  · have ej : j ≠ i := fun e => by
      subst e
      have hj : j < env.length := by
        have := (List.getElem?_eq_some_iff.mp h1).1
        simpa using this
      rw [List.getElem?_set_self hj] at h1
      cases h1
    have ek : k ≠ i := fun e => by
      subst e
      have hk : k < env.length := by
        have := (List.getElem?_eq_some_iff.mp h2).1
        simpa using this
      rw [List.getElem?_set_self hk] at h2
      cases h2
      cases h3
    rw [List.getElem?_set_ne (Ne.symm ej)] at h1 h4
    rw [List.getElem?_set_ne (Ne.symm ek)] at h2 h5
    exact r.dist j k d' s a h1 h2 h3 h4 h5
/-- a new own object into a slot -/
theorem Rel.setOwn {σ : St} {env : Env'} {H G : Hp} {i : Nat} {a : Addr} {o : HO} {d : D} (r : Rel W σ env H G) (h : H a = some o) (g : G a = none) (ob : Ob W G o d)
    (nw : ∀ (j : Nat) (s : SV), env[j]? = some s → s.isObj = true → σ[j]? ≠ some (some (.ref a))) (nz : ∀ (j : Nat) (d : D), env[j]? = some (.nst d) → a ∉ zone H σ[j]? (.nst d)) : Rel W (σ.set i (some (.ref a))) (env.set i (.own d)) H G := by
  refine ⟨by simp [r.len], r.sub, fun j s hs => ?_, fun j k d' s b h1 h2 h3 h4 h5 => ?_, r.nst.set r.len (by simp) fun c j d z q1 q2 => by
    have e : c = a := by simpa [zone] using z
    subst e
    exact (nz j d q1 q2).elim⟩
  · by_cases e : j = i
    · subst e
      have hj : j < env.length := by
        have := (List.getElem?_eq_some_iff.mp hs).1
        simpa using this
      rw [List.getElem?_set_self hj] at hs
      cases hs
      exact ⟨a, o, by rw [List.getElem?_set_self (by rw [r.len]; exact hj)], h, g, ob⟩
    · rw [List.getElem?_set_ne (Ne.symm e)] at hs ⊢
      exact r.slot j s hs
  · have hj : j < env.length := by
      have := (List.getElem?_eq_some_iff.mp h1).1
      simpa using this
    have hk : k < env.length := by
      have := (List.getElem?_eq_some_iff.mp h2).1
      simpa using this
    by_cases ej : j = i
    · by_cases ek : k = i
      · rw [ej, ek]
      · subst ej
        rw [List.getElem?_set_self (by rw [r.len]; exact hj)] at h4
        cases h4
        rw [List.getElem?_set_ne (Ne.symm ek)] at h2 h5
        exact (nw k s h2 h3 h5).elim
    · rw [List.getElem?_set_ne (Ne.symm ej)] at h1 h4
      by_cases ek : k = i
      · subst ek
        rw [List.getElem?_set_self (by rw [r.len]; exact hk)] at h5
        cases h5
        exact (nw j _ h1 rfl h4).elim
      · rw [List.getElem?_set_ne (Ne.symm ek)] at h2 h5
        exact r.dist j k d' s b h1 h2 h3 h4 h5
theorem isOwn_set {σ : St} {env : Env'} {i : Nat} {x : V} {s : SV} {b : Addr} (h : IsOwn (σ.set i (some x)) (env.set i s) b) : (x = .ref b ∧ s.isOwn = true) ∨ IsOwn σ env b := by
  obtain ⟨j, d, h1, h2⟩ := h
  by_cases e : j = i
  · subst e
    have hj : j < env.length := by
      have := (List.getElem?_eq_some_iff.mp h1).1
      simpa using this
    have hj2 : j < σ.length := by
      have := (List.getElem?_eq_some_iff.mp h2).1
      simpa using this
    rw [List.getElem?_set_self hj] at h1
    rw [List.getElem?_set_self hj2] at h2
    cases h1; cases h2
    exact .inl ⟨rfl, rfl⟩
  · rw [List.getElem?_set_ne (Ne.symm e)] at h1 h2
    exact .inr ⟨j, d, h1, h2⟩
theorem mine_set {σ : St} {env : Env'} {H : Hp} {i : Nat} {x : V} {s : SV} {b : Addr} (hn : ∀ d, s ≠ .nst d) (h : Mine (σ.set i (some x)) (env.set i s) H b) : (x = .ref b ∧ s.isOwn = true) ∨ Mine σ env H b := by
  rcases h with h | ⟨j, d, h1, h2⟩
  · rcases isOwn_set h with q | q
    · exact .inl q
    · exact .inr (.inl q)
  · by_cases e : j = i
    · subst e
      have hj : j < env.length := by
        have := (List.getElem?_eq_some_iff.mp h1).1
        simpa using this
      rw [List.getElem?_set_self hj] at h1
      cases h1
      exact (hn d rfl).elim
    · rw [List.getElem?_set_ne (Ne.symm e)] at h1 h2
      exact .inr (.inr ⟨j, d, h1, h2⟩)
theorem pin_set {np i : Nat} {σ : St} {env : Env'} {x : Option V} {s : SV} (hp : pinned np env i = false) : ∀ (j : Nat) (d : D), j < np → env[j]? = some (.own d) → (σ.set i x)[j]? = σ[j]? ∧ ∃ d', (env.set i s)[j]? = some (.own d') := fun j d hj h => by
  have ne : i ≠ j := fun e => by
    subst e
    unfold pinned at hp
    rw [h] at hp
    simp [hj] at hp
  rw [List.getElem?_set_ne ne, List.getElem?_set_ne ne]
  exact ⟨rfl, d, h⟩
theorem StepS.setDat {np : Nat} {σ : St} {env : Env'} {H G : Hp} {i : Nat} {v : V} {d : D} (r : Rel W σ env H G) (h : Rp W G v d) (hp : pinned np env i = false) : StepS W np σ env H G (σ.set i (some v)) (env.set i (.dat d)) H G := by
  refine ⟨r.setDat h, Ext.refl _ _, fun _ _ q _ => q, fun b q => ?_, pin_set hp, by simp⟩
  rcases mine_set (by simp) q with ⟨_, q⟩ | q
  · cases q
  · exact .inr q

/-! ### targets: what is stored is frozen data -/
abbrev GF := D → Env' → Option Env'
def tG (W : Pw) (np : Nat) (P : GF) : TG := fun v σ H Q => ∃ env G d env', Rel W σ env H G ∧ Rp W G v d ∧ P d env = some env' ∧ ∀ σ' H' G', StepS W np σ env H G σ' env' H' G' → Q σ' H'
abbrev PGD (X : Cx) (W : Pw) (np : Nat) (P : GF) (e : Expr) : Prop := PG X e (tG W np P)
theorem PG.weak {X : Cx} {e : Expr} {t t' : TG} (h : PG X e t) (k : ∀ v σ H Q, t' v σ H Q → t v σ H Q) : PG X e t' := ⟨fun pins s σ H v u Q I r q => h.run pins s σ H v u Q I r (k v σ H Q q)⟩
def gSet (np i : Nat) : GF := fun d env => if pinned np env i then none else some (env.set i (.dat d))
theorem pgd_name {np i : Nat} {e : Expr} (h : PG X e (gName i)) : PGD X W np (gSet np i) e := PG.weak h fun v σ H Q ⟨env, G, d, env', r, q, p, k⟩ => by
  unfold gSet at p
  split at p
  · cases p
  · rename_i hp
    cases p
    exact k _ _ _ (StepS.setDat r q (by simpa using hp))
def tGs (W : Pw) (np : Nat) (P : List D → Env' → Option Env') : TGs := fun vs σ H Q => ∃ env G ds env', Rel W σ env H G ∧ RpAll W G vs ds ∧ P ds env = some env' ∧ ∀ σ' H' G', StepS W np σ env H G σ' env' H' G' → Q σ' H'
abbrev PGsD (X : Cx) (W : Pw) (np : Nat) (P : List D → Env' → Option Env') (es : List Expr) : Prop := PGs X es (tGs W np P)
theorem PGs.weak {X : Cx} {e : List Expr} {t t' : TGs} (h : PGs X e t) (k : ∀ v σ H Q, t' v σ H Q → t v σ H Q) : PGs X e t' := ⟨fun pins s σ H v u Q I r q => h.run pins s σ H v u Q I r (k v σ H Q q)⟩
def gsNil : List D → Env' → Option Env' := fun ds env => match ds with
  | [] => some env
  | _ => none
def gsCons (P : GF) (P' : List D → Env' → Option Env') : List D → Env' → Option Env' := fun ds env => match ds with
  | [] => none
  | d :: ds => (P d env).bind (P' ds)
theorem pgsd_nil {np : Nat} : PGsD X W np gsNil [] := PGs.weak pgs_nil fun v σ H Q ⟨env, G, ds, env', r, q, p, k⟩ => by
  cases q with
  | nil => cases p; exact ⟨rfl, k _ _ _ (StepS.refl r)⟩
  | cons _ _ => cases p
theorem pgsd_cons {np : Nat} {e : Expr} {es : List Expr} {g : TG} {gs : TGs} {P : GF} {P' : List D → Env' → Option Env'} (hc : PGs X (e :: es) (gCons (tG W np P) (tGs W np P'))) : PGsD X W np (gsCons P P') (e :: es) := PGs.weak hc fun v σ H Q ⟨env, G, ds, env', r, q, p, k⟩ => by
  cases q with
  | nil => cases p
  | cons h t =>
    simp only [gsCons, Option.bind_eq_some_iff] at p
    obtain ⟨e1, h1, h2⟩ := p
    exact ⟨_, _, rfl, env, G, _, e1, r, h, h1, fun σ1 H1 G1 s1 => ⟨e1, G1, _, env', s1.rel, RpAll.mono s1.ext.same t, h2, fun σ2 H2 G2 s2 => k _ _ _ (s1.trans s2)⟩⟩
/-- a tuple is taken apart -/
def gTupF (n : Nat) (P : List D → Env' → Option Env') : GF := fun d env => match d with
  | .tup ds => if ds.length = n then P ds env else none
  | _ => none
end
end Den
end

section
set_option Elab.async false
set_option linter.all false
set_option maxRecDepth 100000
set_option maxHeartbeats 2000000
/-! DenF: statements. -/
namespace Den
open PySem L2
section
variable {X : Cx} {W : Pw}

abbrev SF := Env' → Option Out
/-- a function's entry -/
structure Entry where
  np : Nat
  σ : St
  env : Env'
  H : Hp
  G : Hp
abbrev Entry.To (W : Pw) (E : Entry) (σ' : St) (env' : Env') (H' G' : Hp) : Prop := StepS W E.np E.σ E.env E.H E.G σ' env' H' G'
/-- what is wanted behind a statement, by where it ends; G: what is frozen ahead of it -/
def Wish (W : Pw) (E : Entry) (G : Hp) (D : Ends) : Out → Prop
  | .nx env' => ∀ σ' H' G', E.To W σ' env' H' G' → Same G G' → D.nx σ' H'
  | .bk env' => ∀ σ' H' G', E.To W σ' env' H' G' → Same G G' → D.bk σ' H'
  | .ct env' => ∀ σ' H' G', E.To W σ' env' H' G' → Same G G' → D.ct σ' H'
  | .rt rv env' => ∀ v σ' H' G', E.To W σ' env' H' G' → Same G G' → RvOk W σ' E.H H' G' v rv → D.rt v H'
theorem Wish.mono {W : Pw} {E : Entry} {G G1 : Hp} {D : Ends} {o : Out} (k : Wish W E G D o) (s : Same G G1) : Wish W E G1 D o := by
  cases o with
  | nx e => exact fun σ' H' G' t z => k σ' H' G' t (s.trans z)
  | bk e => exact fun σ' H' G' t z => k σ' H' G' t (s.trans z)
  | ct e => exact fun σ' H' G' t z => k σ' H' G' t (s.trans z)
  | rt rv e => exact fun v σ' H' G' t z q => k v σ' H' G' t (s.trans z) q
def tS (W : Pw) (E : Entry) (P : SF) : TS := fun D σ H => ∃ env G out, E.To W σ env H G ∧ P env = some out ∧ Wish W E G D out
abbrev PSD (X : Cx) (W : Pw) (E : Entry) (P : SF) (st : Stmt) : Prop := PS X st (tS W E P)
abbrev PSsD (X : Cx) (W : Pw) (E : Entry) (P : SF) (st : List Stmt) : Prop := PSs X st (tS W E P)
def sNil : SF := fun env => some (.nx env)
def sSeq (P P' : SF) : SF := fun env => (P env).bind fun o => match o with
  | .nx e1 => P' e1
  | o => some o
theorem pssd_nil {E : Entry} : PSsD X W E sNil [] := PSs.weak pss_nil fun D σ H ⟨env, G, o, r, p, k⟩ => by
  cases p
  exact k σ H G r (Same.refl _)
theorem seq_tS {E : Entry} {P P' : SF} {D : Ends} {σ : St} {H : Hp} (h : tS W E (sSeq P P') D σ H) : tSeq (tS W E P) (tS W E P') D σ H := by
  obtain ⟨env, G, o, r, p, k⟩ := h
  unfold sSeq at p
  simp only [Option.bind_eq_some_iff] at p
  obtain ⟨o1, h1, p⟩ := p
  refine ⟨env, G, o1, r, h1, ?_⟩
  cases o1 with
  | nx e1 => exact fun σ1 H1 G1 s z => ⟨e1, G1, o, s, p, k.mono z⟩
  | bk e1 => cases p; exact k
  | ct e1 => cases p; exact k
  | rt rv e1 => cases p; exact k
theorem pssd_cons {E : Entry} {st : Stmt} {rest : List Stmt} {P P' : SF} (h : PSD X W E P st) (h' : PSsD X W E P' rest) : PSsD X W E (sSeq P P') (st :: rest) := PSs.weak (pss_cons h h') fun _ _ _ q => seq_tS q

/-! ### name = e -/
/-- mu: the name is changed in place somewhere -/
def sSet (np i : Nat) (mu : Bool) (P : PF) : SF := fun env => do
  let (rv, e1) ← P env
  if (List.range np).all (fun j => match env[j]?, e1[j]? with
    | some (.own _), some (.own _) => true
    | some (.own _), _ => false
    | _, _ => true) && !pinned np e1 i then
    match rv with
    | .dat d => some (.nx (e1.set i (.dat d)))
    | .own d => some (.nx (e1.set i (if mu then .own d else .dat d)))
    | .slot _ => none
  else none
def ownB (np : Nat) (env e1 : Env') : Bool := (List.range np).all (fun j => match env[j]?, e1[j]? with
    | some (.own _), some (.own _) => true
    | some (.own _), _ => false
    | _, _ => true)
theorem ownB_ok {np : Nat} {env e1 : Env'} (h : ownB np env e1 = true) : ∀ (i : Nat) (d : D), i < np → env[i]? = some (.own d) → ∃ d', e1[i]? = some (.own d') := fun i d hi e => by
  unfold ownB at h
  rw [List.all_eq_true] at h
  have q := h i (List.mem_range.mpr hi)
  rw [e] at q
  cases he : e1[i]? with
  | none => rw [he] at q; cases q
  | some s =>
    rw [he] at q
    cases s with
    | own d' => exact ⟨d', rfl⟩
    | _ => cases q
theorem StepS.setOwn {np : Nat} {σ : St} {env : Env'} {H G : Hp} {i : Nat} {a : Addr} {o : HO} {d : D} (r : Rel W σ env H G) (h : H a = some o) (g : G a = none) (ob : Ob W G o d)
    (nw : ∀ (j : Nat) (s : SV), env[j]? = some s → s.isObj = true → σ[j]? ≠ some (some (.ref a))) (nz : ∀ (j : Nat) (d : D), env[j]? = some (.nst d) → a ∉ zone H σ[j]? (.nst d)) (hp : pinned np env i = false) {σ0 : St} {env0 : Env'} {H0 G0 : Hp} (h0 : H0 a = none) (s : StepS W np σ0 env0 H0 G0 σ env H G) : StepS W np σ0 env0 H0 G0 (σ.set i (some (.ref a))) (env.set i (.own d)) H G := by
  refine ⟨r.setOwn h g ob nw nz, s.ext, s.keep, fun b q => ?_, fun j d' hj e => ?_, by simp [s.len]⟩
  · rcases mine_set (by simp) q with ⟨q, _⟩ | q
    · cases q; exact .inl h0
    · exact s.own b q
  · obtain ⟨h1, d2, h2⟩ := s.pin j d' hj e
    obtain ⟨h3, h4⟩ := pin_set (x := some (.ref a)) (s := .own d) hp (σ := σ) j d2 hj h2
    exact ⟨h3.trans h1, h4⟩
/-- an own object is let go of -/
theorem Rel.freeze1 {σ : St} {env : Env'} {H G : Hp} {a : Addr} {o : HO} {d : D} (r : Rel W σ env H G) (h : H a = some o) (g : G a = none) (ob : Ob W G o d) (na : ¬ Mine σ env H a) : Rel W σ env H (upd G a o) ∧ Rp W (upd G a o) (.ref a) d := by
  have sg : Same G (upd G a o) := same_upd g
  refine ⟨⟨r.len, fun b u e => ?_, fun i s hs => (r.slot i s hs).mono sg (fun _ _ _ _ q => q) (fun b e1 e2 e3 e4 => ?_) fun d b e m => ⟨fun _ q => q, fun q _ => by
    subst e
    rw [upd_ne (fun z => na (.inr ⟨i, d, hs, by rw [← z]; exact m⟩))]; exact q⟩, r.dist, r.nst⟩, (ob.mono sg).rp upd_same⟩
  · by_cases z : b = a
    · subst z; rw [upd_same] at e; cases e; exact h
    · rw [upd_ne z] at e; exact r.sub b u e
  · have ne : b ≠ a := fun z => by
      subst z
      cases s with
      | own d' => exact na (.inl ⟨i, d', hs, e1⟩)
      | _ => cases e2
    rw [upd_ne ne]; exact e3
theorem Ext.freeze {H G H1 G1 : Hp} {a : Addr} {o : HO} (e : Ext H G H1 G1) (g : G1 a = none) (h0 : H a = none) : Ext H G H1 (upd G1 a o) :=
  ⟨e.same.trans (same_upd g), fun b hb gb => by rw [upd_ne (fun z => hb (by rw [z]; exact h0))]; exact e.new b hb gb, e.dom⟩
theorem obj_ne {σ : St} {env e1 : Env'} {H G : Hp} {a : Addr} (r : Rel W σ env H G) (l : Le env e1) (h0 : H a = none) : ∀ (j : Nat) (s : SV), e1[j]? = some s → s.isObj = true → σ[j]? ≠ some (some (.ref a)) := fun j s hs ho z => by
  have hj : j < env.length := by
    have := (List.getElem?_eq_some_iff.mp hs).1
    have := l.len; omega
  have q := l.at_ j env[j] s (by simp [hj]) hs
  have : (env[j]).isObj = true := by
    cases s with
    | own d => cases e : env[j] <;> rw [e] at q <;> simp_all [LeS, SV.isOwn, SV.isObj]
    | bor d => have : env[j] = .bor d := q; rw [this]; rfl
    | nst d => have : env[j] = .nst d := q; rw [this]; rfl
    | _ => cases ho
  have k := r.slot j env[j] (by simp [hj])
  cases e : env[j] with
  | own d => rw [e] at k; obtain ⟨b, o, h1, h2, _⟩ := k; rw [z] at h1; cases h1; rw [h0] at h2; cases h2
  | bor d => rw [e] at k; obtain ⟨b, o, h1, h2, _⟩ := k; rw [z] at h1; cases h1; rw [h0] at h2; cases h2
  | nst d => rw [e] at k; obtain ⟨b, o, h1, h2, _⟩ := k; rw [z] at h1; cases h1; rw [h0] at h2; cases h2
  | und => rw [e] at this; cases this
  | dat d => rw [e] at this; cases this
theorem nz_new {σ : St} {env e1 : Env'} {H G H' G' : Hp} {a : Addr} (r : Rel W σ env H G) (s : Step W σ env H G e1 H' G') (h0 : H a = none) : ∀ (j : Nat) (d : D), e1[j]? = some (.nst d) → a ∉ zone H' σ[j]? (.nst d) := fun j d h m => s.mineNe r (.inr ⟨j, d, h, m⟩) h0
/-- a place that no slot has is written -/
theorem Rel.updFree {σ : St} {env : Env'} {H H' G : Hp} {a : Addr} (r : Rel W σ env H G) (kp : ∀ (j : Nat) (s : SV), env[j]? = some s → s.isObj = true → σ[j]? ≠ some (some (.ref a))) (nz : ∀ (j : Nat) (d : D), env[j]? = some (.nst d) → a ∉ zone H σ[j]? (.nst d)) (ga : G a = none)
    (hn : ∀ b, b ≠ a → H' b = H b) : Rel W σ env H' G := by
  refine ⟨r.len, fun b u eb => ?_, fun j s hs => ?_, r.dist, r.nst.map fun j s c hs m => ⟨s, hs, zone_h m fun d b e1 e2 => ?_, fun d e => ⟨d, e⟩⟩⟩
  · rw [hn b (fun z => by rw [z, ga] at eb; cases eb)]; exact r.sub b u eb
  · refine (r.slot j s hs).mono (Same.refl _) (fun b u e1 e2 e3 => by rw [hn b (fun z => kp j s hs e2 (by rw [e1, z]))]; exact e3) (fun _ _ _ g _ => g) fun d b e m => ⟨fun u q => ?_, fun g _ => g⟩
    subst e
    rw [hn b (fun z => nz j d hs (by rw [← z]; exact m))]; exact q
  · subst e1
    exact hn b fun z => kp j _ hs rfl (by rw [e2, z])
theorem set_tS {E : Entry} {i : Nat} {mu : Bool} {P : PF} {D : Ends} {σ : St} {H : Hp} (h : tS W E (sSet E.np i mu P) D σ H) : tAsg (tE W P) (gName i) D σ H := by
  obtain ⟨env, G, o, r0, p, k⟩ := h
  have r := r0.rel
  unfold sSet at p
  simp only [Option.bind_eq_bind, Option.bind_eq_some_iff, Prod.exists] at p
  obtain ⟨rv, e1, h1, p⟩ := p
  split at p
  · rename_i hb
    simp only [Bool.and_eq_true, Bool.not_eq_true'] at hb
    have hk := ownB_ok (np := E.np) (env := env) (e1 := e1) hb.1
    refine tE_one r h1 fun v H1 G1 s q => ?_
    have ss : StepS W E.np σ env H G σ e1 H1 G1 := s.toS r hk
    cases rv with
    | dat d =>
      cases p
      exact k _ _ _ (r0.trans (ss.trans (StepS.setDat s.rel q hb.2))) s.ext.same
    | slot j => cases p
    | own d =>
      obtain ⟨a, ob, rfl, ha, ga, h0, hob⟩ := q
      have na : ¬ Mine σ e1 H1 a := fun z => s.mineNe r z h0
      cases mu with
      | true =>
        cases p
        exact k _ _ _ (r0.trans (StepS.setOwn s.rel ha ga hob (obj_ne r s.le h0) (nz_new r s h0) hb.2 h0 ss)) s.ext.same
      | false =>
        cases p
        obtain ⟨r2, q2⟩ := s.rel.freeze1 ha ga hob na
        have s2 : Step W σ env H G e1 H1 (upd G1 a ob) := ⟨s.le, r2, s.ext.freeze ga h0, s.keep⟩
        exact k _ _ _ (r0.trans ((s2.toS r hk).trans (StepS.setDat r2 q2 hb.2))) s2.ext.same
  · cases p

/-! ### the other statements -/
def sAsg (np : Nat) (P : PF) (g : GF) : SF := fun env => do
  let (rv, e1) ← P env
  if ownB np env e1 then
    match rv with
    | .dat d => (g d e1).map .nx
    | _ => none
  else none
theorem asg_tS {E : Entry} {P : PF} {g : GF} {D : Ends} {σ : St} {H : Hp} (h : tS W E (sAsg E.np P g) D σ H) : tAsg (tE W P) (tG W E.np g) D σ H := by
  obtain ⟨env, G, o, r0, p, k⟩ := h
  have r := r0.rel
  unfold sAsg at p
  simp only [Option.bind_eq_bind, Option.bind_eq_some_iff, Prod.exists] at p
  obtain ⟨rv, e1, h1, p⟩ := p
  split at p
  · rename_i hb
    have hk := ownB_ok hb
    refine tE_one r h1 fun v H1 G1 s q => ?_
    cases rv with
    | dat d =>
      simp only [Option.map_eq_some_iff] at p
      obtain ⟨e2, h2, rfl⟩ := p
      exact ⟨e1, G1, d, e2, s.rel, q, h2, fun σ' H' G' s2 => k _ _ _ (r0.trans ((s.toS r hk).trans s2)) (s.ext.same.trans s2.ext.same)⟩
    | _ => cases p
  · cases p
def sExp (np : Nat) (P : PF) : SF := fun env => do
  let (_, e1) ← P env
  if ownB np env e1 then some (.nx e1) else none
theorem exp_tS {E : Entry} {P : PF} {D : Ends} {σ : St} {H : Hp} (h : tS W E (sExp E.np P) D σ H) : tE W P σ H fun _ H1 => D.nx σ H1 := by
  obtain ⟨env, G, o, r0, p, k⟩ := h
  have r := r0.rel
  unfold sExp at p
  simp only [Option.bind_eq_bind, Option.bind_eq_some_iff, Prod.exists] at p
  obtain ⟨rv, e1, h1, p⟩ := p
  split at p
  · rename_i hb
    cases p
    exact tE_one r h1 fun v H1 G1 s q => k _ _ _ (r0.trans (s.toS r (ownB_ok hb))) s.ext.same
  · cases p
/-- return e: a slot's own object is handed out (no parameter's) -/
def sRet (np : Nat) (P : PF) : SF := fun env => do
  let (rv, e1) ← P env
  if ownB np env e1 then
    match rv with
    | .dat d => some (.rt (.dat d) e1)
    | .own d => some (.rt (.own d) e1)
    | .slot i => match e1[i]? with
      | some (.own d) => if i < np then none else some (.rt (.own d) (e1.set i .und))
      | _ => none
  else none
theorem Rel.unset {σ : St} {env : Env'} {H G : Hp} {i : Nat} (r : Rel W σ env H G) : Rel W σ (env.set i .und) H G := by
  refine ⟨by simp [r.len], r.sub, fun j s hs => ?_, fun j k d' s a h1 h2 h3 h4 h5 => ?_, r.nst.map fun j s c hs m => ?_⟩
  rotate_right
  · by_cases e : j = i
    · subst e
      have hj : j < env.length := by
        have := (List.getElem?_eq_some_iff.mp hs).1
        simpa using this
      rw [List.getElem?_set_self hj] at hs
      cases hs
      unfold zone at m; split at m <;> cases m
    · rw [List.getElem?_set_ne (Ne.symm e)] at hs
      exact ⟨s, hs, m, fun d e => ⟨d, e⟩⟩
  · by_cases e : j = i
    · subst e
      have hj : j < env.length := by
        have := (List.getElem?_eq_some_iff.mp hs).1
        simpa using this
      rw [List.getElem?_set_self hj] at hs
      cases hs
      trivial
    · rw [List.getElem?_set_ne (Ne.symm e)] at hs
      exact r.slot j s hs
  · have un : ∀ (m : Nat) (t : SV), (env.set i .und)[m]? = some t → t.isObj = true → env[m]? = some t := fun m t hm ht => by
      by_cases e : m = i
      · subst e
        have hj : m < env.length := by
          have := (List.getElem?_eq_some_iff.mp hm).1
          simpa using this
        rw [List.getElem?_set_self hj] at hm
        cases hm
        cases ht
      · rw [List.getElem?_set_ne (Ne.symm e)] at hm
        exact hm
    exact r.dist j k d' s a (un j _ h1 rfl) (un k _ h2 h3) h3 h4 h5
theorem isOwn_unset {σ : St} {env : Env'} {i : Nat} {b : Addr} (h : IsOwn σ (env.set i .und) b) : IsOwn σ env b := by
  obtain ⟨j, d, h1, h2⟩ := h
  by_cases e : j = i
  · subst e
    have hj : j < env.length := by
      have := (List.getElem?_eq_some_iff.mp h1).1
      simpa using this
    rw [List.getElem?_set_self hj] at h1
    cases h1
  · rw [List.getElem?_set_ne (Ne.symm e)] at h1
    exact ⟨j, d, h1, h2⟩
theorem mine_unset {σ : St} {env : Env'} {H : Hp} {i : Nat} {b : Addr} (h : Mine σ (env.set i .und) H b) : Mine σ env H b := by
  rcases h with h | ⟨j, d, h1, h2⟩
  · exact .inl (isOwn_unset h)
  · by_cases e : j = i
    · subst e
      have hj : j < env.length := by
        have := (List.getElem?_eq_some_iff.mp h1).1
        simpa using this
      rw [List.getElem?_set_self hj] at h1
      cases h1
    · rw [List.getElem?_set_ne (Ne.symm e)] at h1
      exact .inr ⟨j, d, h1, h2⟩
theorem StepS.unset {np : Nat} {σ0 σ : St} {env0 env : Env'} {H0 G0 H G : Hp} {i : Nat} (s : StepS W np σ0 env0 H0 G0 σ env H G) (hi : ¬ i < np) : StepS W np σ0 env0 H0 G0 σ (env.set i .und) H G := by
  refine ⟨s.rel.unset, s.ext, s.keep, fun b h => s.own b (mine_unset h), fun j d hj e => ?_, by simp [s.len]⟩
  obtain ⟨h1, d', h2⟩ := s.pin j d hj e
  exact ⟨h1, d', by rw [List.getElem?_set_ne (fun z => hi (by omega))]; exact h2⟩
/-- own objects that stand at an entry are parameters' -/
def Entry.Good (E : Entry) : Prop := (∀ (i : Nat) (d : D), E.env[i]? = some (.own d) → i < E.np) ∧ ∀ (i : Nat) (d : D), E.env[i]? ≠ some (.nst d)
theorem Entry.Good.mine {E : Entry} (hE : E.Good) {b : Addr} (m : Mine E.σ E.env E.H b) : IsOwn E.σ E.env b := m.elim id fun ⟨i, d, h, _⟩ => (hE.2 i d h).elim
theorem ret_tS {E : Entry} {P : PF} {D : Ends} {σ : St} {H : Hp} (hE : E.Good) (h : tS W E (sRet E.np P) D σ H) : tRet (tE W P) D σ H := by
  obtain ⟨env, G, o, r0, p, k⟩ := h
  have r := r0.rel
  unfold sRet at p
  simp only [Option.bind_eq_bind, Option.bind_eq_some_iff, Prod.exists] at p
  obtain ⟨rv, e1, h1, p⟩ := p
  split at p
  · rename_i hb
    refine tE_one r h1 fun v H1 G1 s q => ?_
    have ss := r0.trans (s.toS (np := E.np) r (ownB_ok hb))
    cases rv with
    | dat d => cases p; exact k v σ H1 G1 ss s.ext.same q
    | own d => cases p; exact k v σ H1 G1 ss s.ext.same (q.base r0.ext.dom)
    | slot i =>
      simp only at p
      split at p
      · rename_i d hd
        split at p
        · cases p
        · rename_i hi
          cases p
          obtain ⟨a, rfl, ha⟩ := q
          obtain ⟨b, ob, h2, h3, h4, h5⟩ := ss.rel.slot i _ hd
          rw [ha] at h2; cases h2
          refine k _ σ H1 G1 (ss.unset hi) s.ext.same ⟨a, ob, rfl, h3, h4, ?_, h5⟩
          rcases ss.own a (.inl ⟨i, d, hd, ha⟩) with z | z
          · exact z
          · obtain ⟨j, d', z1, z2⟩ := hE.mine z
            have hj := hE.1 j d' z1
            obtain ⟨w1, d2, w2⟩ := ss.pin j d' hj z1
            have e := ss.rel.dist j i d2 (.own d) a w2 hd rfl (by rw [w1]; exact z2) ha
            exact (hi (by omega)).elim
      · cases p
  · cases p
def sIf (c : BF) (np : Nat) (P P' : SF) : SF := fun env => (c env).bind fun r => if ownB np env r.2 then (if r.1 then P r.2 else P' r.2) else none
theorem if_tS {E : Entry} {c : BF} {P P' : SF} {D : Ends} {σ : St} {H : Hp} (h : tS W E (sIf c E.np P P') D σ H) : tIfS (tT W c) (tS W E P) (tS W E P') D σ H := by
  obtain ⟨env, G, o, r0, p, k⟩ := h
  unfold sIf at p
  simp only [Option.bind_eq_some_iff, Prod.exists] at p
  obtain ⟨b, e1, h1, p⟩ := p
  split at p
  · rename_i hb
    refine ⟨env, G, b, e1, r0.rel, h1, fun H1 G1 s => ?_⟩
    have ss := r0.trans (s.toS (np := E.np) r0.rel (ownB_ok hb))
    cases b with
    | true => exact ⟨e1, G1, o, ss, p, k.mono s.ext.same⟩
    | false => exact ⟨e1, G1, o, ss, p, k.mono s.ext.same⟩
  · cases p
end
end Den
end

section
set_option Elab.async false
set_option linter.all false
set_option maxRecDepth 100000
set_option maxHeartbeats 2000000
/-! DenG: what is walked, for, comprehensions. -/
namespace Den
open PySem L2
section
variable {X : Cx} {W : Pw}

/-- J gives the data ds, one behind another, whatever G0 has grown to -/
def WalkD (W : Pw) (J : It) (ds : List D) (G0 : Hp) : Prop := ∃ (Gd : Hp → Prop) (Y : Nat → Hp → V → Hp → Prop), Walk J ds.length Gd Y ∧ (∀ H G1, Same G0 G1 → Same G1 H → Gd H) ∧
  ∀ (i : Nat) (H : Hp) (x : V) (H' G1 : Hp) (d : D), Y i H x H' → Same G0 G1 → Same G1 H → ds[i]? = some d → ∃ G2, NR W H G1 x (.dat d) H' G2
theorem walkd_list {a : Addr} {xs : List V} {ds : List D} {G0 : Hp} (h : G0 a = some (.lst xs)) (r : RpAll W G0 xs ds) : WalkD W (Itl W.K a) ds G0 := by
  refine ⟨fun H => SqL W.K H a xs, YAt xs, ?_, fun H G1 s1 s2 => SqL.of (s2 _ _ (s1 _ _ h)), fun i H x H' G1 d y s1 s2 e => ?_⟩
  · rw [← r.length]; exact walk_list
  · obtain ⟨rfl, h2⟩ := y
    obtain ⟨v, h3, h4⟩ := r.get e
    rw [h2] at h3; cases h3
    exact ⟨G1, NR.dat s2 (Rp.mono s1 h4)⟩
theorem walkd_tup {a : Addr} {xs : List V} {ds : List D} {G0 : Hp} (h : G0 a = some (.tup xs)) (r : RpAll W G0 xs ds) : WalkD W (Itt W.K a) ds G0 := by
  refine ⟨fun H => SqT W.K H a xs, YAt xs, ?_, fun H G1 s1 s2 => SqT.of (s2 _ _ (s1 _ _ h)), fun i H x H' G1 d y s1 s2 e => ?_⟩
  · rw [← r.length]; exact walk_tup
  · obtain ⟨rfl, h2⟩ := y
    obtain ⟨v, h3, h4⟩ := r.get e
    rw [h2] at h3; cases h3
    exact ⟨G1, NR.dat s2 (Rp.mono s1 h4)⟩
def rangeD (lo : Int) (n : Nat) : List D := (List.range n).map fun (i : Nat) => .int (lo + i)
theorem walkd_range {lo : Int} {n : Nat} {G0 : Hp} : WalkD W (Itr lo n) (rangeD lo n) G0 := by
  refine ⟨fun _ => True, YFn fun i => .int (lo + i), ?_, fun _ _ _ _ => trivial, fun i H x H' G1 d y s1 s2 e => ?_⟩
  · have : (rangeD lo n).length = n := by simp [rangeD]
    rw [this]; exact walk_range
  · obtain ⟨rfl, rfl⟩ := y
    simp only [rangeD, List.getElem?_map, Option.map_eq_some_iff] at e
    obtain ⟨j, h1, rfl⟩ := e
    have : j = i := by
      obtain ⟨h2, h3⟩ := List.getElem?_eq_some_iff.mp h1
      simpa using h3.symm
    subst this
    exact ⟨G1, NR.dat s2 (.int _)⟩
def strD (z : Str) : List D := z.cps.toList.map fun c => .str ⟨#[c]⟩
theorem walkd_str {z : Str} {G0 : Hp} : WalkD W (Its z) (strD z) G0 := by
  refine ⟨fun _ => True, fun i H v H' => H' = H ∧ ∃ c, z.cps[i]? = some c ∧ v = .str ⟨#[c]⟩, ?_, fun _ _ _ _ => trivial, fun i H x H' G1 d y s1 s2 e => ?_⟩
  · have : (strD z).length = z.cps.size := by simp [strD]
    rw [this]; exact walk_str
  · obtain ⟨rfl, c, h1, rfl⟩ := y
    simp only [strD, List.getElem?_map, Option.map_eq_some_iff] at e
    obtain ⟨c', h2, rfl⟩ := e
    have : c' = c := by
      rw [Array.getElem?_toList] at h2
      rw [h1] at h2; cases h2; rfl
    subst this
    exact ⟨G1, NR.dat s2 (.str _)⟩
def enumD (ds : List D) : List D := ds.zipIdx.map fun p => .tup [.int (p.2 : Nat), p.1]
theorem walkd_enum {a : Addr} {xs : List V} {ds : List D} {G0 : Hp} (h : G0 a = some (.lst xs)) (r : RpAll W G0 xs ds) : WalkD W (Ite W.K a) (enumD ds) G0 := by
  refine ⟨fun H => SqL W.K H a xs, YPair (fun i => some (.int (i : Nat))) (fun i => xs[i]?), ?_, fun H G1 s1 s2 => SqL.of (s2 _ _ (s1 _ _ h)), fun i H x H' G1 d y s1 s2 e => ?_⟩
  · have : (enumD ds).length = xs.length := by simp [enumD, r.length]
    rw [this]; exact walk_enum
  · obtain ⟨T, u, w, rfl, hT, rfl, hu, hw⟩ := y
    cases hu
    simp only [enumD, List.getElem?_map, Option.map_eq_some_iff] at e
    obtain ⟨⟨d', j⟩, h1, rfl⟩ := e
    simp only [List.getElem?_zipIdx, Option.map_eq_some_iff, Prod.mk.injEq] at h1
    obtain ⟨d2, h2, rfl, rfl⟩ := h1
    obtain ⟨v, h3, h4⟩ := r.get h2
    have hw' : xs[i]? = some w := hw
    rw [hw'] at h3; cases h3
    refine ⟨_, NR.frz s2 hT (.tup upd_same (.cons ?_ (.cons (Rp.mono (s1.trans (same_upd (s2.free hT))) h4) .nil)))⟩
    simp only [Nat.zero_add]
    exact .int _

abbrev IF := Env' → Option (List D × Env')
def tI (W : Pw) (P : IF) : TI := fun σ H R => ∃ env G ds env', Rel W σ env H G ∧ P env = some (ds, env') ∧ ∀ J H' G', Step W σ env H G env' H' G' → WalkD W J ds G' → R J H'
abbrev PID (X : Cx) (W : Pw) (tg : Expr) (P : IF) (e : Expr) : Prop := PI X tg e (tI W P)
theorem PI.weak {X : Cx} {tg e : Expr} {t t' : TI} (h : PI X tg e t) (k : ∀ σ H Q, t' σ H Q → t σ H Q) : PI X tg e t' := ⟨fun pins s σ H Q I q => h.run pins s σ H Q I (k σ H Q q)⟩
theorem PI.or {X : Cx} {tg e : Expr} {t t' : TI} (h : PI X tg e t) (h' : PI X tg e t') : PI X tg e (fun σ H R => t σ H R ∨ t' σ H R) := ⟨fun pins s σ H Q I q => q.elim (h.run pins s σ H Q I) (h'.run pins s σ H Q I)⟩
theorem PE.or {X : Cx} {e : Expr} {t t' : TE} (h : PE X e t) (h' : PE X e t') : PE X e (fun σ H R => t σ H R ∨ t' σ H R) := ⟨fun pins s σ H Q I q => q.elim (h.run pins s σ H Q I) (h'.run pins s σ H Q I)⟩
theorem PT.or {X : Cx} {e : Expr} {t t' : TT} (h : PT X e t) (h' : PT X e t') : PT X e (fun σ H R => t σ H R ∨ t' σ H R) := ⟨fun pins s σ H Q I q => q.elim (h.run pins s σ H Q I) (h'.run pins s σ H Q I)⟩
theorem PS.or {X : Cx} {e : Stmt} {t t' : TS} (h : PS X e t) (h' : PS X e t') : PS X e (fun D σ H => t D σ H ∨ t' D σ H) := ⟨fun pins s σ H Q I q => q.elim (h.run pins s σ H Q I) (h'.run pins s σ H Q I)⟩
/-- a value that is walked: a list or tuple that nobody changes, a text -/
def itemsD : RV → Option (List D)
  | .dat (.lst ds) => some ds
  | .own (.lst ds) => some ds
  | .dat (.tup ds) => some ds
  | .dat (.str z) => some (strD z)
  | _ => none
def iWalk (P : PF) : IF := fun env => do
  let (rv, e1) ← P env
  let ds ← itemsD rv
  some (ds, e1)
/-- a value that is frozen, if it was one's own -/
theorem Step.thaw {σ : St} {env e1 : Env'} {H G H1 G1 : Hp} {a : Addr} {o : HO} {d : D} (r : Rel W σ env H G) (s : Step W σ env H G e1 H1 G1) (ha : H1 a = some o) (ga : G1 a = none) (h0 : H a = none) (ob : Ob W G1 o d) :
    Step W σ env H G e1 H1 (upd G1 a o) ∧ Rp W (upd G1 a o) (.ref a) d := by
  obtain ⟨r2, q2⟩ := s.rel.freeze1 ha ga ob fun z => s.mineNe r z h0
  exact ⟨⟨s.le, r2, s.ext.freeze ga h0, s.keep⟩, q2⟩
theorem pid_walk {tg e : Expr} {P : PF} (hK : X.K = W.K) (h : PD X W P e) : PID X W tg (iWalk P) e :=
  PI.weak (PI.or (pi_list h) (PI.or (pi_tup h) (pi_str h))) fun σ H R ⟨env, G, ds, env', r, p, k⟩ => by
    unfold iWalk at p
    simp only [Option.bind_eq_bind, Option.bind_eq_some_iff, Prod.exists, Option.some.injEq, Prod.mk.injEq] at p
    obtain ⟨rv, e1, h1, ds', h2, rfl, rfl⟩ := p
    unfold itemsD at h2
    split at h2
    · cases h2
      refine .inl (tE_one r h1 fun v H1 G1 s o => ?_)
      cases o with
      | lst ha ra => exact ⟨_, rfl, ⟨_, SqL.of (s.rel.sub _ _ ha)⟩, by rw [hK]; exact k _ _ _ s (walkd_list ha ra)⟩
    · cases h2
      refine .inl (tE_one r h1 fun v H1 G1 s o => ?_)
      obtain ⟨a, ob, rfl, ha, ga, h0, hob⟩ := o
      obtain ⟨s2, q2⟩ := s.thaw r ha ga h0 hob
      cases q2 with
      | lst hb rb => exact ⟨_, rfl, ⟨_, SqL.of (s2.rel.sub _ _ hb)⟩, by rw [hK]; exact k _ _ _ s2 (walkd_list hb rb)⟩
    · cases h2
      refine .inr (.inl (tE_one r h1 fun v H1 G1 s o => ?_))
      cases o with
      | tup ha ra => exact ⟨_, rfl, ⟨_, SqT.of (s.rel.sub _ _ ha)⟩, by rw [hK]; exact k _ _ _ s (walkd_tup ha ra)⟩
    · cases h2
      refine .inr (.inr (tE_one r h1 fun v H1 G1 s o => ?_))
      cases o
      exact ⟨_, rfl, k _ _ _ s walkd_str⟩
    · cases h2
/-- range(n), range(a, b) -/
def iRange1 (P : PAF) : IF := fun env => do
  let (rvs, e1) ← P env
  match rvs with
  | [.dat (.int j)] => if -(2 ^ 62) ≤ j ∧ j < 2 ^ 62 then some (rangeD 0 j.toNat, e1) else none
  | _ => none
def iRange2 (P : PAF) : IF := fun env => do
  let (rvs, e1) ← P env
  match rvs with
  | [.dat (.int i), .dat (.int j)] => if -(2 ^ 62) ≤ i ∧ i < 2 ^ 62 ∧ -(2 ^ 62) ≤ j ∧ j < 2 ^ 62 then some (rangeD i (j - i).toNat, e1) else none
  | _ => none
theorem pid_range1 {tg a : Expr} {P : PAF} {p pos : Pos} (hg : Gl X "range") (hm : X.mg "range" = none) (h : PAD X W P [a]) (hs : notStar a = true) : PID X W tg (iRange1 P) (.Call (.Name "range" p) [a] [] pos) :=
  PI.weak (pi_range1 hg hm h (star_plain hs)) fun σ H R ⟨env, G, ds, env', r, q, k⟩ => by
    unfold iRange1 at q
    simp only [Option.bind_eq_bind, Option.bind_eq_some_iff, Prod.exists] at q
    obtain ⟨rvs, e1, h1, q⟩ := q
    refine ⟨env, G, rvs, e1, r, h1, fun vs H1 G1 s o => ?_⟩
    split at q
    · split at q
      · rename_i hz
        cases q
        cases o with
        | cons h _ t => cases t; cases h; exact ⟨_, rfl, hz.1, hz.2, k _ _ _ s walkd_range⟩
      · cases q
    · cases q
theorem pid_range2 {tg a b : Expr} {P : PAF} {p pos : Pos} (hg : Gl X "range") (hm : X.mg "range" = none) (h : PAD X W P [a, b]) (hs : notStar a = true) (hs2 : notStar b = true) : PID X W tg (iRange2 P) (.Call (.Name "range" p) [a, b] [] pos) :=
  PI.weak (pi_range2 hg hm h (by rw [star_plain hs, star_plain hs2]; rfl) (star_plain hs2)) fun σ H R ⟨env, G, ds, env', r, q, k⟩ => by
    unfold iRange2 at q
    simp only [Option.bind_eq_bind, Option.bind_eq_some_iff, Prod.exists] at q
    obtain ⟨rvs, e1, h1, q⟩ := q
    refine ⟨env, G, rvs, e1, r, h1, fun vs H1 G1 s o => ?_⟩
    split at q
    · split at q
      · rename_i hz
        cases q
        cases o with
        | cons h _ t => cases t with | cons h' _ t => cases t; cases h; cases h'; exact ⟨_, _, rfl, ⟨hz.1, hz.2.1, hz.2.2.1, hz.2.2.2⟩, k _ _ _ s walkd_range⟩
      · cases q
    · cases q
/-- enumerate of a list -/
def iEnumF (P : PAF) : IF := fun env => do
  let (rvs, e1) ← P env
  match rvs with
  | [.dat (.lst ds)] => some (enumD ds, e1)
  | [.own (.lst ds)] => some (enumD ds, e1)
  | _ => none
theorem pid_enum {e : Expr} {elts : List Expr} {kk : Nat} {tpos p pos : Pos} {P : PAF} (hK : X.K = W.K) (hg : Gl X "enumerate") (hm : X.mg "enumerate" = none) (h : PAD X W P [e]) (hs : notStar e = true) : PID X W (.Tuple elts kk tpos) (iEnumF P) (.Call (.Name "enumerate" p) [e] [] pos) :=
  PI.weak (pi_enum hg hm h (star_plain hs)) fun σ H R ⟨env, G, ds, env', r, q, k⟩ => by
    unfold iEnumF at q
    simp only [Option.bind_eq_bind, Option.bind_eq_some_iff, Prod.exists] at q
    obtain ⟨rvs, e1, h1, q⟩ := q
    refine ⟨env, G, rvs, e1, r, h1, fun vs H1 G1 s o => ?_⟩
    split at q
    · cases q
      cases o with
      | cons h _ t =>
        cases t
        cases h with
        | lst ha ra => exact ⟨_, _, rfl, SqL.of (s.rel.sub _ _ ha), by rw [hK]; exact k _ _ _ s (walkd_enum ha ra)⟩
    · cases q
      cases o with
      | cons h _ t =>
        cases t
        obtain ⟨a, ob, rfl, ha, ga, h0, hob⟩ := h
        obtain ⟨s2, q2⟩ := s.thaw r ha ga h0 hob
        cases q2 with
        | lst hb rb => exact ⟨_, _, rfl, SqL.of (s2.rel.sub _ _ hb), by rw [hK]; exact k _ _ _ s2 (walkd_enum hb rb)⟩
    · cases q

/-- zip of two lists -/
def zipD (xs ys : List D) : List D := (xs.zip ys).map fun p => .tup [p.1, p.2]
theorem zip_at {α β : Type} : ∀ {xs : List α} {ys : List β} {i : Nat} {p : α × β}, (xs.zip ys)[i]? = some p → xs[i]? = some p.1 ∧ ys[i]? = some p.2 := fun {xs ys i p} h => by
  rw [List.getElem?_zip_eq_some] at h
  exact h
theorem walkd_zip {a b : Addr} {xs ys : List V} {ds es : List D} {G0 : Hp} (h : G0 a = some (.lst xs)) (h' : G0 b = some (.lst ys)) (r : RpAll W G0 xs ds) (r' : RpAll W G0 ys es) : WalkD W (Itz W.K a b) (zipD ds es) G0 := by
  refine ⟨fun H => SqL W.K H a xs ∧ SqL W.K H b ys, YPair (fun i => xs[i]?) (fun i => ys[i]?), walk_zip (by simp [zipD, r.length, r'.length]), fun H G1 s1 s2 => ⟨SqL.of (s2 _ _ (s1 _ _ h)), SqL.of (s2 _ _ (s1 _ _ h'))⟩, fun i H x H' G1 d y s1 s2 e => ?_⟩
  obtain ⟨T, u, w, rfl, hT, rfl, hu, hw⟩ := y
  simp only [zipD, List.getElem?_map, Option.map_eq_some_iff] at e
  obtain ⟨⟨d1, d2⟩, h1, rfl⟩ := e
  obtain ⟨h2, h3⟩ := zip_at h1
  obtain ⟨v, h4, h5⟩ := r.get h2
  obtain ⟨v', h6, h7⟩ := r'.get h3
  have e1 : xs[i]? = some u := hu
  have e2 : ys[i]? = some w := hw
  rw [e1] at h4; cases h4
  rw [e2] at h6; cases h6
  have st := s1.trans (same_upd (s2.free hT) (o := .tup [u, w]))
  exact ⟨_, NR.frz s2 hT (.tup upd_same (.cons (Rp.mono st h5) (.cons (Rp.mono st h7) .nil)))⟩
def iZipF (P : PAF) : IF := fun env => do
  let (rvs, e1) ← P env
  match rvs with
  | [.dat (.lst ds), .dat (.lst es)] => some (zipD ds es, e1)
  | _ => none
theorem pid_zip {e e2 : Expr} {elts : List Expr} {kk : Nat} {tpos p pos : Pos} {P : PAF} (hK : X.K = W.K) (hg : Gl X "zip") (hm : X.mg "zip" = none) (h : PAD X W P [e, e2]) (hs : notStar e = true) (hs2 : notStar e2 = true) : PID X W (.Tuple elts kk tpos) (iZipF P) (.Call (.Name "zip" p) [e, e2] [] pos) :=
  PI.weak (pi_zip hg hm h (star_plain hs) (noStars (by simp [hs2]))) fun σ H R ⟨env, G, ds, env', r, q, k⟩ => by
    unfold iZipF at q
    simp only [Option.bind_eq_bind, Option.bind_eq_some_iff, Prod.exists] at q
    obtain ⟨rvs, e1, h1, q⟩ := q
    refine ⟨env, G, rvs, e1, r, h1, fun vs H1 G1 s o => ?_⟩
    split at q
    · cases q
      cases o with
      | cons h _ t =>
        cases t with
        | cons h' _ t =>
          cases t
          cases h with
          | lst ha ra =>
            cases h' with
            | lst hb rb => exact ⟨_, _, _, _, rfl, SqL.of (s.rel.sub _ _ ha), SqL.of (s.rel.sub _ _ hb), by rw [hK]; exact k _ _ _ s (walkd_zip ha hb ra rb)⟩
    · cases q

/-! ### for -/
def loopF (g : GF) (b : SF) : List D → Env' → Option Out
  | [], env => some (.nx env)
  | d :: ds, env => (g d env).bind fun e1 => (b e1).bind fun o => match o with
    | .nx e2 => loopF g b ds e2
    | .ct e2 => loopF g b ds e2
    | .bk e2 => some (.nx e2)
    | .rt rv e2 => some (.rt rv e2)
def sFor (np : Nat) (w : IF) (g : GF) (b : SF) : SF := fun env => (w env).bind fun r => if ownB np env r.2 then loopF g b r.1 r.2 else none
theorem for_tS {E : Entry} {w : IF} {g : GF} {b : SF} {D : Ends} {σ : St} {H : Hp} (h : tS W E (sFor E.np w g b) D σ H) : tFor (tI W w) (tG W E.np g) (tS W E b) D σ H := by
  obtain ⟨env, G, o, r0, p, k⟩ := h
  unfold sFor at p
  simp only [Option.bind_eq_some_iff, Prod.exists] at p
  obtain ⟨ds, e1, h1, p⟩ := p
  split at p
  · rename_i hb
    refine ⟨env, G, ds, e1, r0.rel, h1, fun J H1 G1 s wd => ?_⟩
    obtain ⟨Gd, Y, wk, hG, hY⟩ := wd
    have ss := r0.trans (s.toS (np := E.np) r0.rel (ownB_ok hb))
    refine for_it wk (fun i σ2 H2 => ∃ env2 G2, E.To W σ2 env2 H2 G2 ∧ Same G1 G2 ∧ loopF g b (ds.drop i) env2 = some o) ⟨e1, G1, ss, Same.refl _, by simpa using p⟩ (fun i σ2 H2 _ ⟨env2, G2, t, sg, _⟩ => hG H2 G2 sg t.rel.sub) ?_ ?_
    · rintro i x σ2 H2 H2' hi ⟨env2, G2, t, sg, q⟩ y
      have ei : ds[i]? = some ds[i] := by simp [hi]
      rw [List.drop_eq_getElem_cons hi] at q
      simp only [loopF, Option.bind_eq_some_iff] at q
      obtain ⟨e3, q1, o3, q2, q3⟩ := q
      obtain ⟨G3, n⟩ := hY i H2 x H2' G2 _ y sg t.rel.sub ei
      have t3 : E.To W σ2 env2 H2' G3 := t.trans ((n.step t.rel).toS t.rel fun _ d _ h => ⟨d, h⟩)
      refine ⟨env2, G3, _, e3, t3.rel, n.ok, q1, fun σ4 H4 G4 s4 => ⟨e3, G4, o3, t3.trans s4, q2, ?_⟩⟩
      have sg4 : Same G1 G4 := (sg.trans n.ext.same).trans s4.ext.same
      have k4 : Wish W E G4 D o := k.mono (s.ext.same.trans sg4)
      cases o3 with
      | nx e5 => exact fun σ' H' G' t' z => ⟨e5, G', t', sg4.trans z, q3⟩
      | ct e5 => exact fun σ' H' G' t' z => ⟨e5, G', t', sg4.trans z, q3⟩
      | bk e5 => cases q3; exact k4
      | rt rv e5 => cases q3; exact k4
    · rintro σ2 H2 ⟨env2, G2, t, sg, q⟩
      simp only [List.drop_length, loopF] at q
      cases q
      exact k σ2 H2 G2 t (s.ext.same.trans sg)
  · cases p
end
end Den
end

section
set_option Elab.async false
set_option linter.all false
set_option maxRecDepth 100000
set_option maxHeartbeats 2000000
/-! DenH: comprehensions of lists. -/
namespace Den
open PySem L2
section
variable {X : Cx} {W : Pw}

/-- the block's own slots forgotten -/
def wipeE (env : Env') : List Nat → Env'
  | [] => env
  | i :: vs => (wipeE env vs).set i .und
theorem wipeE_len (env : Env') : ∀ vs : List Nat, (wipeE env vs).length = env.length
  | [] => rfl
  | i :: vs => by rw [wipeE, List.length_set, wipeE_len env vs]
theorem wipeE_out {env : Env'} {i : Nat} : ∀ {vs : List Nat}, i ∉ vs → (wipeE env vs)[i]? = env[i]?
  | [], _ => rfl
  | v :: vs, h => by
    simp only [List.mem_cons, not_or] at h
    rw [wipeE, List.getElem?_set_ne (fun e => h.1 e.symm), wipeE_out h.2]
theorem wipeE_in {env : Env'} {i : Nat} {s : SV} : ∀ {vs : List Nat}, i ∈ vs → (wipeE env vs)[i]? = some s → s = .und
  | v :: vs, h, e => by
    rw [wipeE] at e
    by_cases z : v = i
    · subst z
      have hj : v < (wipeE env vs).length := by
        have := (List.getElem?_eq_some_iff.mp e).1
        simpa using this
      rw [List.getElem?_set_self hj] at e
      cases e; rfl
    · rw [List.getElem?_set_ne z] at e
      simp only [List.mem_cons] at h
      rcases h with h | h
      · exact (z h.symm).elim
      · exact wipeE_in h e
theorem wipeE_at {env : Env'} {i : Nat} {vs : List Nat} {s : SV} (h : (wipeE env vs)[i]? = some s) : s = .und ∨ (i ∉ vs ∧ env[i]? = some s) := by
  by_cases m : i ∈ vs
  · exact .inl (wipeE_in m h)
  · rw [wipeE_out m] at h; exact .inr ⟨m, h⟩
theorem wipe_set {σ : St} {i : Nat} {x : Option V} : ∀ {vs : List Nat}, i ∈ vs → wipe (σ.set i x) vs = wipe σ vs
  | v :: vs, h => by
    simp only [List.mem_cons] at h
    show (wipe (σ.set i x) vs).set v none = (wipe σ vs).set v none
    by_cases m : i ∈ vs
    · rw [wipe_set m]
    · have e : v = i := by
        rcases h with h | h
        · exact h.symm
        · exact (m h).elim
      subst e
      have : wipe (σ.set v x) vs = (wipe σ vs).set v x := by
        clear h
        induction vs with
        | nil => rfl
        | cons u us ih =>
          simp only [List.mem_cons, not_or] at m
          show (wipe (σ.set v x) us).set u none = ((wipe σ us).set u none).set v x
          rw [ih m.2, List.set_comm _ _ (fun e => m.1 e)]
      rw [this, List.set_set]
theorem wipe_idem {σ : St} {vs : List Nat} : wipe (wipe σ vs) vs = wipe σ vs := by
  have id2 : ∀ us : List Nat, (∀ i ∈ us, i ∈ vs) → wipe (wipe σ vs) us = wipe σ vs := fun us hu => by
    induction us with
    | nil => rfl
    | cons i us ih =>
      show (wipe (wipe σ vs) us).set i none = wipe σ vs
      rw [ih fun j hj => hu j (List.mem_cons_of_mem _ hj)]
      have hi := hu i List.mem_cons_self
      apply List.ext_getElem?
      intro j
      by_cases e : i = j
      · subst e
        by_cases hl : i < (wipe σ vs).length
        · rw [List.getElem?_set_self hl]
          cases z : (wipe σ vs)[i]? with
          | none => rw [List.getElem?_eq_none_iff] at z; omega
          | some q =>
            cases q with
            | none => rfl
            | some v => exact ((wipe_some z).2 hi).elim
        · rw [List.getElem?_eq_none (by simpa using hl), List.getElem?_eq_none (by simpa using hl)]
      · rw [List.getElem?_set_ne e]
  exact id2 vs fun _ h => h
/-- slots outside vs are as they were -/
structure Out0 (vs : List Nat) (σ : St) (env : Env') (σ' : St) (env' : Env') : Prop where
  sl : wipe σ' vs = wipe σ vs
  ev : ∀ i, i ∉ vs → env'[i]? = env[i]?
theorem Out0.at_ {vs : List Nat} {σ σ' : St} {env env' : Env'} (o : Out0 vs σ env σ' env') {i : Nat} (h : i ∉ vs) : σ'[i]? = σ[i]? := by
  rw [← wipe_out (σ := σ') h, ← wipe_out (σ := σ) h, o.sl]
/-- from the slots of a turn back to those of the comprehension -/
theorem Rel.unturn {vs : List Nat} {σ σ' : St} {env : Env'} {H G : Hp} (r : Rel W σ' env H G) (e : wipe σ' vs = wipe σ vs) : Rel W σ (wipeE env vs) H G := by
  have hl : σ.length = σ'.length := by
    have := congrArg List.length e
    rw [wipe_length, wipe_length] at this
    exact this.symm
  have at_ : ∀ i, i ∉ vs → σ'[i]? = σ[i]? := fun i h => by rw [← wipe_out (σ := σ') h, ← wipe_out (σ := σ) h, e]
  refine ⟨by rw [wipeE_len, hl, r.len], r.sub, fun i s hs => ?_, fun i j d s a h1 h2 h3 h4 h5 => ?_, r.nst.map fun j s c hs m => ?_⟩
  rotate_right
  · rcases wipeE_at hs with z | ⟨mm, q⟩
    · subst z; unfold zone at m; split at m <;> cases m
    · exact ⟨s, q, by rw [at_ j mm]; exact m, fun d e => ⟨d, e⟩⟩
  · rcases wipeE_at hs with rfl | ⟨m, q⟩
    · trivial
    · rw [← at_ i m]; exact r.slot i s q
  · rcases wipeE_at h1 with z | ⟨m, q⟩
    · cases z
    · rcases wipeE_at h2 with z | ⟨m2, q2⟩
      · subst z; cases h3
      · exact r.dist i j d s a q q2 h3 (by rw [at_ i m]; exact h4) (by rw [at_ j m2]; exact h5)
/-- into a turn: the slots of the block are und -/
theorem Rel.turn {vs : List Nat} {σ : St} {env : Env'} {H G : Hp} (r : Rel W σ env H G) (u : ∀ i s, i ∈ vs → env[i]? = some s → s = .und) : Rel W (wipe σ vs) env H G := by
  have at_ : ∀ i s, env[i]? = some s → s ≠ SV.und → (wipe σ vs)[i]? = σ[i]? := fun i s h n => wipe_out fun m => n (u i s m h)
  refine ⟨by rw [wipe_length, r.len], r.sub, fun i s hs => ?_, fun i j d s a h1 h2 h3 h4 h5 => ?_, r.nst.map fun j s c hs m => ?_⟩
  rotate_right
  · by_cases z : s = .und
    · subst z; unfold zone at m; split at m <;> cases m
    · exact ⟨s, hs, by rw [← at_ j s hs z]; exact m, fun d e => ⟨d, e⟩⟩
  · by_cases z : s = .und
    · subst z; trivial
    · rw [at_ i s hs z]; exact r.slot i s hs
  · rw [at_ i _ h1 (by simp)] at h4
    rw [at_ j _ h2 (by rintro rfl; cases h3)] at h5
    exact r.dist i j d s a h1 h2 h3 h4 h5

/-- targets in a block: what they touch are the block's own slots -/
def tGc (W : Pw) (vs : List Nat) (P : GF) : TG := fun v σ H Q => ∃ env G d env', Rel W σ env H G ∧ Rp W G v d ∧ P d env = some env' ∧ ∀ σ', Rel W σ' env' H G → Out0 vs σ env σ' env' → (∀ b, IsOwn σ' env' b → IsOwn σ env b) → Q σ' H
theorem pgc_name {i : Nat} {vs : List Nat} {e : Expr} (h : PG X e (gName i)) (hi : i ∈ vs) : PG X e (tGc W vs (gSet 0 i)) := PG.weak h fun v σ H Q ⟨env, G, d, env', r, q, p, k⟩ => by
  simp only [gSet, pinned] at p
  simp only [Nat.not_lt_zero, decide_false, Bool.false_and, if_false, Option.some.injEq, Bool.false_eq_true] at p
  subst p
  refine k _ (r.setDat q) ⟨wipe_set hi, fun j hj => ?_⟩ fun b z => ?_
  · rw [List.getElem?_set_ne (fun z => hj (by rw [← z]; exact hi))]
  · rcases isOwn_set z with ⟨_, z⟩ | z
    · cases z
    · exact z
def tGcs (W : Pw) (vs : List Nat) (P : List D → Env' → Option Env') : TGs := fun us σ H Q => ∃ env G ds env', Rel W σ env H G ∧ RpAll W G us ds ∧ P ds env = some env' ∧ ∀ σ', Rel W σ' env' H G → Out0 vs σ env σ' env' → (∀ b, IsOwn σ' env' b → IsOwn σ env b) → Q σ' H
theorem pgcs_nil {vs : List Nat} : PGs X [] (tGcs W vs gsNil) := PGs.weak pgs_nil fun v σ H Q ⟨env, G, ds, env', r, q, p, k⟩ => by
  cases q with
  | nil => cases p; exact ⟨rfl, k _ r ⟨rfl, fun _ _ => rfl⟩ fun _ z => z⟩
  | cons _ _ => cases p
theorem pgcs_cons {vs : List Nat} {e : Expr} {es : List Expr} {P : GF} {P' : List D → Env' → Option Env'} (hc : PGs X (e :: es) (gCons (tGc W vs P) (tGcs W vs P'))) : PGs X (e :: es) (tGcs W vs (gsCons P P')) := PGs.weak hc fun v σ H Q ⟨env, G, ds, env', r, q, p, k⟩ => by
  cases q with
  | nil => cases p
  | cons h t =>
    simp only [gsCons, Option.bind_eq_some_iff] at p
    obtain ⟨e1, h1, h2⟩ := p
    exact ⟨_, _, rfl, env, G, _, e1, r, h, h1, fun σ1 r1 o1 w1 => ⟨e1, G, _, env', r1, t, h2, fun σ2 r2 o2 w2 => k σ2 r2 ⟨o2.sl.trans o1.sl, fun i hi => (o2.ev i hi).trans (o1.ev i hi)⟩ fun b z => w1 b (w2 b z)⟩⟩
theorem pgc_tup {vs : List Nat} {es : List Expr} {k n : Nat} {pos : Pos} {P : List D → Env' → Option Env'} (hp : PG X (.Tuple es k pos) (gTup X.K n (tGcs W vs P))) : PG X (.Tuple es k pos) (tGc W vs (gTupF n P)) := PG.weak hp fun v σ H Q ⟨env, G, d, env', r, q, p, kk⟩ => by
  unfold gTupF at p
  split at p
  · split at p
    · rename_i hn
      cases q with
      | tup ha ra => exact ⟨_, _, rfl, SqT.of (r.sub _ _ ha), by rw [ra.length]; exact hn, env, G, _, env', r, ra, p, kk⟩
    · cases p
  · cases p

/-! ### one for -/
def lcF (vs : List Nat) (g : GF) (c : BF) (e : PF) : List D → Env' → Option (List D × Env')
  | [], env => some ([], env)
  | d :: ds, env => do
    let e1 ← g d env
    let (b, e2) ← c e1
    if b then
      let (rv, e3) ← e e2
      let y ← rv.dt
      let (ys, e4) ← lcF vs g c e ds (wipeE e3 vs)
      some (y :: ys, e4)
    else lcF vs g c e ds (wipeE e2 vs)
def pLc (vs : List Nat) (w : IF) (g : GF) (c : BF) (e : PF) : PF := fun env => do
  let (ds, e1) ← w env
  let (ys, e2) ← lcF vs g c e ds (wipeE e1 vs)
  if ds.length ≤ sizeLine then some (.own (.lst ys), e2) else none
theorem lcF_le {vs : List Nat} {g : GF} {c : BF} {e : PF} : ∀ {ds : List D} {env env' : Env'} {ys : List D}, lcF vs g c e ds env = some (ys, env') → ys.length ≤ ds.length
  | [], _, _, _, h => by cases h; exact Nat.le_refl _
  | d :: ds, env, env', ys, h => by
    simp only [lcF, Option.bind_eq_bind, Option.bind_eq_some_iff, Prod.exists] at h
    obtain ⟨e1, h1, b, e2, h2, h⟩ := h
    split at h
    · simp only [Option.bind_eq_some_iff, Prod.exists, Option.some.injEq, Prod.mk.injEq] at h
      obtain ⟨rv, e3, h3, y, h4, ys', e4, h5, rfl, rfl⟩ := h
      have := lcF_le h5
      simp; omega
    · have := lcF_le h
      simp; omega
/-- Step of a whole turn -/
theorem Step.turned {vs : List Nat} {σ σ2 : St} {env eA eC : Env'} {H G H' G' H2 G2 : Hp} (r : Rel W σ env H G) (u : ∀ i s, i ∈ vs → env[i]? = some s → s = .und) (o : Out0 vs (wipe σ vs) env σ2 eA) (ow : ∀ b, IsOwn σ2 eA b → IsOwn (wipe σ vs) env b)
    (x : Ext H G H' G') (kp : Same H H') (s : Step W σ2 eA H' G' eC H2 G2) : Step W σ env H G (wipeE eC vs) H2 G2 := by
  have ww : wipe σ2 vs = wipe σ vs := by
    rw [o.sl]
    exact wipe_idem
  have wo : ∀ b, IsOwn (wipe σ vs) env b → IsOwn σ env b := fun b ⟨i, d, h1, h2⟩ => ⟨i, d, h1, (wipe_some h2).1⟩
  refine ⟨⟨?_, fun i t t' h1 h2 => ?_⟩, s.rel.unturn ww, x.trans s.ext, fun b ob hb nb => s.keep b ob (kp b ob hb) fun z => nb (wo b (ow b z))⟩
  · rw [wipeE_len, ← s.le.len]
    have h1 := s.rel.len
    have h2 := s.le.len
    have h3 := congrArg List.length ww
    rw [wipe_length, wipe_length] at h3
    have h4 := r.len
    omega
  · rcases wipeE_at h2 with z | ⟨m, q⟩
    · subst z; simp [LeS]
    · exact s.le.at_ i t t' (by rw [o.ev i m]; exact h1) q
theorem lc_tE {vs : List Nat} {w : IF} {g : GF} {c : BF} {e : PF} {σ : St} {H : Hp} {Q : VK} (h : tE W (pLc vs w g c e) σ H Q) : tLc (tI W w) (tGc W vs g) (tT W c) (tE W e) vs σ H Q := by
  obtain ⟨env, G, rv, env', r, p, k⟩ := h
  unfold pLc at p
  simp only [Option.bind_eq_bind, Option.bind_eq_some_iff, Prod.exists] at p
  obtain ⟨ds, e1, h1, ys, e2, h2, p⟩ := p
  split at p
  · rename_i hz
    cases p
    refine ⟨env, G, ds, e1, r, h1, fun J H1 G1 s wd Da hD => ?_⟩
    obtain ⟨Gd, Y, wk, hG, hY⟩ := wd
    have gD : G1 Da = none := s.rel.sub.free hD
    have n0 : NR W H1 G1 (.ref Da) (.own (.lst [])) (upd H1 Da (.lst [])) G1 := NR.own s.rel.sub hD (.lst .nil)
    have s0 : Step W σ env H G e1 (upd H1 Da (.lst [])) G1 := s.trans (n0.step s.rel)
    -- the first wipe
    have sw : Step W σ env H G (wipeE e1 vs) (upd H1 Da (.lst [])) G1 :=
      ⟨⟨by rw [wipeE_len]; exact s0.le.len, fun i t t' a b => by
        rcases wipeE_at b with z | ⟨_, q⟩
        · subst z; simp [LeS]
        · exact s0.le.at_ i t t' a q⟩, s0.rel.unturn rfl, s0.ext, s0.keep⟩
    have hDn : H Da = none := s.ext.dom Da hD
    refine lc_it wk (fun i H2 => ∃ env2 G2 acc dacc rest, Step W σ env H G env2 H2 G2 ∧ (∀ i s, i ∈ vs → env2[i]? = some s → s = .und) ∧ Same G1 G2 ∧ H2 Da = some (.lst acc) ∧ G2 Da = none ∧ RpAll W G2 acc dacc ∧ dacc.length ≤ i ∧ lcF vs g c e (ds.drop i) env2 = some (rest, env') ∧ dacc ++ rest = ys)
      ⟨wipeE e1 vs, G1, [], [], ys, sw, fun i s hi he => wipeE_in hi he, Same.refl _, upd_same, gD, .nil, Nat.le_refl _, by simpa using h2, rfl⟩
      (fun i H2 _ ⟨env2, G2, acc, dacc, rest, t, _, sg, _⟩ => hG H2 G2 sg t.rel.sub) ?_ ?_
    · rintro i x H2 H2' hi ⟨env2, G2, acc, dacc, rest, t, un, sg, hacc, gacc, racc, lacc, q, ey⟩ y
      have ei : ds[i]? = some ds[i] := by simp [hi]
      rw [List.drop_eq_getElem_cons hi] at q
      simp only [lcF, Option.bind_eq_bind, Option.bind_eq_some_iff, Prod.exists] at q
      obtain ⟨eA, q1, b, eB, q2, q3⟩ := q
      obtain ⟨G3, n⟩ := hY i H2 x H2' G2 _ y sg t.rel.sub ei
      have r3 : Rel W σ env2 H2' G3 := (n.step t.rel).rel
      refine ⟨env2, G3, _, eA, r3.turn un, n.ok, q1, fun σ4 r4 o4 w4 => ⟨?_, ?_⟩⟩
      · rw [o4.sl]; exact wipe_idem
      have ge : G3 Da = none := n.ext.new Da (by rw [hacc]; simp) gacc
      have hd2 : H2' Da = some (.lst acc) := n.kept _ _ hacc
      have nDa : ∀ {σ' : St} {e' : Env'}, (∀ b, IsOwn σ' e' b → IsOwn σ env2 b) → ¬ IsOwn σ' e' Da := fun f z => t.ownNe r (f _ z) hDn
      have wo : ∀ b, IsOwn (wipe σ vs) env2 b → IsOwn σ env2 b := fun b ⟨i, d, h1, h2⟩ => ⟨i, d, h1, (wipe_some h2).1⟩
      refine ⟨eA, G3, b, eB, r4, q2, fun H5 G5 s5 => ?_⟩
      have a5 : ¬ IsOwn σ4 eA Da := nDa fun b z => wo b (w4 b z)
      cases b with
      | true =>
        simp only [if_true, Option.bind_eq_some_iff, Prod.exists, Option.some.injEq, Prod.mk.injEq] at q3
        obtain ⟨rv, eC, q4, y0, q5, ys', e4, q6, rfl, rfl⟩ := q3
        refine iteT ⟨eB, G5, rv, eC, s5.rel, q4, fun v H6 G6 s6 o6 => ?_⟩
        have s56 := s5.trans s6
        have hd6 : H6 Da = some (.lst acc) := s56.keep Da _ hd2 a5
        have gd6 : G6 Da = none := s56.ext.new Da (by rw [hd2]; simp) ge
        -- what is put in is frozen
        have fz : ∃ G7, Step W σ4 eA H2' G3 eC H6 G7 ∧ Rp W G7 v y0 ∧ G7 Da = none := by
          cases rv with
          | dat d => cases q5; exact ⟨G6, s56, o6, gd6⟩
          | slot j => cases q5
          | own d =>
            cases q5
            obtain ⟨a, ob, rfl, ha, ga, h0, hob⟩ := o6
            have h00 : H2' a = none := s5.ext.dom a h0
            obtain ⟨s7, q7⟩ := Step.thaw r4 s56 ha ga h00 hob
            have ne : Da ≠ a := fun z => by rw [← z, hd2] at h00; cases h00
            exact ⟨_, s7, q7, by rw [upd_ne ne]; exact gd6⟩
        obtain ⟨G7, s7, q7, gd7⟩ := fz
        have tt := Step.turned (t.rel) un o4 w4 n.ext n.kept s7
        refine ⟨acc, hd6, ?_, ?_⟩
        · rw [racc.length]
          have := lcF_le h2
          omega
        · have na : ¬ IsOwn σ (wipeE eC vs) Da := fun z => t.ownNe r (z.le tt.le) hDn
          have tw := t.trans tt
          have kp : ∀ (j : Nat) (s : SV), (wipeE eC vs)[j]? = some s → s.isObj = true → σ[j]? ≠ some (some (.ref Da)) := obj_ne r tw.le hDn
          refine ⟨wipeE eC vs, G7, acc ++ [v], dacc ++ [y0], ys', ⟨tw.le, tw.rel.updFree kp (nz_new r tw hDn) gd7 fun b hb => upd_ne hb, ⟨tw.ext.same, tw.ext.new, fun b hb => ?_⟩, fun b u eb nb => ?_⟩, fun j s hj he => wipeE_in hj he, (sg.trans n.ext.same).trans s7.ext.same, upd_same, gd7, (RpAll.mono (n.ext.same.trans s7.ext.same) racc).append (.cons q7 .nil), ?_, q6, ?_⟩
          · by_cases z : b = Da
            · rw [z]; exact hDn
            · rw [upd_ne z] at hb; exact tw.ext.dom b hb
          · rw [upd_ne (fun z => by rw [z, hDn] at eb; cases eb)]; exact tw.keep b u eb nb
          · simp; omega
          · rw [← ey]; simp
      | false =>
        simp only [Bool.false_eq_true, if_false] at q3
        refine iteF ?_
        have tt := Step.turned (t.rel) un o4 w4 n.ext n.kept s5
        exact ⟨wipeE eB vs, G5, acc, dacc, rest, t.trans tt, fun j s hj he => wipeE_in hj he, (sg.trans n.ext.same).trans s5.ext.same, s5.keep Da _ hd2 a5, s5.ext.new Da (by rw [hd2]; simp) ge, RpAll.mono (n.ext.same.trans s5.ext.same) racc, by omega, q3, ey⟩
    · rintro H2 ⟨env2, G2, acc, dacc, rest, t, un, sg, hacc, gacc, racc, lacc, q, ey⟩
      simp only [List.drop_length, lcF] at q
      cases q
      simp only [List.append_nil] at ey
      subst ey
      exact k _ H2 G2 t ⟨Da, _, rfl, hacc, gacc, hDn, .lst racc⟩
  · cases p
end
end Den
end

section
set_option Elab.async false
set_option linter.all false
set_option maxRecDepth 100000
set_option maxHeartbeats 4000000
/-! DenH2: comprehensions of lists with two fors. -/
namespace Den
open PySem L2
section
variable {X : Cx} {W : Pw}
/-- a heap without the object at a -/
def unA (H : Hp) (a : Addr) : Hp := fun b => if b = a then none else H b
theorem unA_same {H : Hp} {a : Addr} : unA H a a = none := by unfold unA; rw [if_pos rfl]
theorem unA_ne {H : Hp} {a b : Addr} (h : b ≠ a) : unA H a b = H b := by unfold unA; rw [if_neg h]
theorem unA_some {H : Hp} {a b : Addr} {o : HO} (h : unA H a b = some o) : b ≠ a ∧ H b = some o := by
  by_cases e : b = a
  · subst e; rw [unA_same] at h; cases h
  · rw [unA_ne e] at h; exact ⟨e, h⟩
theorem unA_none {H : Hp} {a b : Addr} (h : H b = none) : unA H a b = none := by
  by_cases e : b = a
  · subst e; exact unA_same
  · rw [unA_ne e]; exact h
/-- no slot's object stands at a -/
def NoSl (σ : St) (env : Env') (a : Addr) : Prop := ∀ (j : Nat) (s : SV), env[j]? = some s → s.isObj = true → σ[j]? ≠ some (some (.ref a))
theorem NoSl.own {σ : St} {env : Env'} {a : Addr} (h : NoSl σ env a) : ¬ IsOwn σ env a := fun ⟨i, d, h1, h2⟩ => h i _ h1 rfl h2
theorem NoSl.le {σ : St} {env e1 : Env'} {a : Addr} (h : NoSl σ env a) (l : Le env e1) : NoSl σ e1 a := fun j s hs ho => by
  have hj : j < env.length := by
    have := (List.getElem?_eq_some_iff.mp hs).1
    have := l.len; omega
  have q := l.at_ j env[j] s (by simp [hj]) hs
  refine h j env[j] (by simp [hj]) ?_
  cases s with
  | own d => cases e : env[j] <;> rw [e] at q <;> simp_all [LeS, SV.isOwn, SV.isObj]
  | bor d => have : env[j] = .bor d := q; rw [this]; rfl
  | nst d => have : env[j] = .nst d := q; rw [this]; rfl
  | _ => cases ho
theorem Rel.unA {σ : St} {env : Env'} {H G : Hp} {a : Addr} (r : Rel W σ env H G) (n : NoSl σ env a) (nz : ∀ (j : Nat) (d : D), env[j]? = some (.nst d) → a ∉ zone H σ[j]? (.nst d)) (g : G a = none) : Rel W σ env (unA H a) G :=
  r.updFree n nz g fun b hb => unA_ne hb
/-- the base of a step without a -/
theorem Step.unBase {σ : St} {env e1 : Env'} {H G H1 G1 : Hp} {a : Addr} (s : Step W σ env H G e1 H1 G1) : Step W σ env (unA H a) G e1 H1 G1 :=
  ⟨s.le, s.rel, ⟨s.ext.same, fun b hb g => s.ext.new b (fun z => hb (unA_none z)) g, fun b hb => unA_none (s.ext.dom b hb)⟩, fun b o hb n => s.keep b o (unA_some hb).2 n⟩
/-- the end of a step without a, that the base had not -/
theorem Step.unEnd {σ : St} {env e1 : Env'} {H G H1 G1 : Hp} {a : Addr} (s : Step W σ env H G e1 H1 G1) (ha : H a = none) (n : NoSl σ e1 a) (nz : ∀ (j : Nat) (d : D), e1[j]? = some (.nst d) → a ∉ zone H1 σ[j]? (.nst d)) (g : G1 a = none) : Step W σ env H G e1 (unA H1 a) G1 :=
  ⟨s.le, s.rel.unA n nz g, ⟨s.ext.same, s.ext.new, fun b hb => by
    by_cases z : b = a
    · rw [z]; exact ha
    · rw [unA_ne z] at hb; exact s.ext.dom b hb⟩, fun b o hb nn => by
    rw [unA_ne (fun z => by rw [z, ha] at hb; cases hb)]; exact s.keep b o hb nn⟩
/-- one loop of a comprehension, the list at Da begun -/
theorem lc_loop {vs : List Nat} {g : GF} {c : BF} {e : PF} {σ : St} {env : Env'} {H G : Hp} {Da : Addr} (r : Rel W σ env H G) (hDn : H Da = none) {J : It} {ds : List D} {G1 : Hp} (wd : WalkD W J ds G1)
    {env0 : Env'} {H0 G0 : Hp} {acc0 : List V} {dacc0 ys : List D} {envE : Env'} (s0 : Step W σ env H G env0 H0 G0) (un0 : ∀ i s, i ∈ vs → env0[i]? = some s → s = .und) (sg0 : Same G1 G0)
    (h0 : H0 Da = some (.lst acc0)) (g0 : G0 Da = none) (ra0 : RpAll W G0 acc0 dacc0) (hl : dacc0.length + ys.length ≤ sizeLine) (hF : lcF vs g c e ds env0 = some (ys, envE)) {Qd : Hp → Prop}
    (k : ∀ H2 G2 acc, Step W σ env H G envE H2 G2 → (∀ i s, i ∈ vs → envE[i]? = some s → s = .und) → Same G0 G2 → H2 Da = some (.lst acc) → G2 Da = none → RpAll W G2 acc (dacc0 ++ ys) → Qd H2) :
    ∃ Z : Nat → Nat → Hp → Prop, (∃ m, Z 0 m H0) ∧ ∀ i m H2, Z i m H2 →
      (J.stop i H2 ∧ Qd H2) ∨ (J.go i H2 ∧ ∃ Nx : Hp → Prop, (∀ H', Nx H' → ∃ m', m' < m ∧ Z (i + 1) m' H') ∧ ∀ x H', J.yld i H2 x H' → tGc W vs g x (wipe σ vs) H' fun σ2 H2 => wipe σ2 vs = wipe σ vs ∧ tT W c σ2 H2 fun b H3 =>
        if b = true then tE W e σ2 H3 fun y H4 => ∃ acc, H4 Da = some (.lst acc) ∧ acc.length < sizeLine ∧ Nx (upd H4 Da (.lst (acc ++ [y]))) else Nx H3) := by
  obtain ⟨Gd, Y, wk, hG, hY⟩ := wd
  let Pv : Nat → Hp → Prop := fun i H2 => ∃ env2 G2 acc dacc rest, Step W σ env H G env2 H2 G2 ∧ (∀ i s, i ∈ vs → env2[i]? = some s → s = .und) ∧ Same G0 G2 ∧ H2 Da = some (.lst acc) ∧ G2 Da = none ∧ RpAll W G2 acc dacc ∧ lcF vs g c e (ds.drop i) env2 = some (rest, envE) ∧ dacc ++ rest = dacc0 ++ ys
  have good : ∀ i H2, Pv i H2 → Gd H2 := fun i H2 ⟨env2, G2, acc, dacc, rest, t, _, sg, _⟩ => hG H2 G2 (sg0.trans sg) t.rel.sub
  refine ⟨fun i m H2 => m = ds.length - i ∧ (i ≤ ds.length ∧ Pv i H2), ⟨ds.length, by simp, Nat.zero_le _, env0, G0, acc0, dacc0, ys, s0, un0, Same.refl _, h0, g0, ra0, by simpa using hF, rfl⟩, fun i m H2 ⟨hm, hi, pv⟩ => ?_⟩
  have gd := good i H2 pv
  rcases Nat.lt_or_ge i ds.length with hlt | hge
  · refine .inr ⟨wk.goes i H2 hlt gd, Pv (i + 1), fun H' p' => ⟨ds.length - (i + 1), by omega, rfl, hlt, p'⟩, fun x H2' yl => ?_⟩
    have y := wk.yields i H2 x H2' hlt gd yl
    obtain ⟨env2, G2, acc, dacc, rest, t, un, sg, hacc, gacc, racc, q, ey⟩ := pv
    have ei : ds[i]? = some ds[i] := by simp [hlt]
    rw [List.drop_eq_getElem_cons hlt] at q
    simp only [lcF, Option.bind_eq_bind, Option.bind_eq_some_iff, Prod.exists] at q
    obtain ⟨eA, q1, b, eB, q2, q3⟩ := q
    obtain ⟨G3, n⟩ := hY i H2 x H2' G2 _ y (sg0.trans sg) t.rel.sub ei
    have r3 : Rel W σ env2 H2' G3 := (n.step t.rel).rel
    refine ⟨env2, G3, _, eA, r3.turn un, n.ok, q1, fun σ4 r4 o4 w4 => ⟨by rw [o4.sl]; exact wipe_idem, ?_⟩⟩
    have ge : G3 Da = none := n.ext.new Da (by rw [hacc]; simp) gacc
    have hd2 : H2' Da = some (.lst acc) := n.kept _ _ hacc
    have wo : ∀ b, IsOwn (wipe σ vs) env2 b → IsOwn σ env2 b := fun b ⟨i, d, h1, h2⟩ => ⟨i, d, h1, (wipe_some h2).1⟩
    have a5 : ¬ IsOwn σ4 eA Da := fun z => t.ownNe r (wo _ (w4 _ z)) hDn
    refine ⟨eA, G3, b, eB, r4, q2, fun H5 G5 s5 => ?_⟩
    cases b with
    | true =>
      simp only [if_true, Option.bind_eq_some_iff, Prod.exists, Option.some.injEq, Prod.mk.injEq] at q3
      obtain ⟨rv, eC, q4, y0, q5, ys', e4, q6, rfl, rfl⟩ := q3
      refine iteT ⟨eB, G5, rv, eC, s5.rel, q4, fun v H6 G6 s6 o6 => ?_⟩
      have s56 := s5.trans s6
      have hd6 : H6 Da = some (.lst acc) := s56.keep Da _ hd2 a5
      have gd6 : G6 Da = none := s56.ext.new Da (by rw [hd2]; simp) ge
      have fz : ∃ G7, Step W σ4 eA H2' G3 eC H6 G7 ∧ Rp W G7 v y0 ∧ G7 Da = none := by
        cases rv with
        | dat d => cases q5; exact ⟨G6, s56, o6, gd6⟩
        | slot j => cases q5
        | own d =>
          cases q5
          obtain ⟨a, ob, rfl, ha, ga, h0, hob⟩ := o6
          have h00 : H2' a = none := s5.ext.dom a h0
          obtain ⟨s7, q7⟩ := Step.thaw r4 s56 ha ga h00 hob
          have ne : Da ≠ a := fun z => by rw [← z, hd2] at h00; cases h00
          exact ⟨_, s7, q7, by rw [upd_ne ne]; exact gd6⟩
      obtain ⟨G7, s7, q7, gd7⟩ := fz
      have tt := Step.turned (t.rel) un o4 w4 n.ext n.kept s7
      have ln := congrArg List.length ey
      simp only [List.length_append, List.length_cons] at ln
      refine ⟨acc, hd6, by rw [racc.length]; omega, ?_⟩
      have tw := t.trans tt
      have kp : ∀ (j : Nat) (s : SV), (wipeE eC vs)[j]? = some s → s.isObj = true → σ[j]? ≠ some (some (.ref Da)) := obj_ne r tw.le hDn
      refine ⟨wipeE eC vs, G7, acc ++ [v], dacc ++ [y0], ys', ⟨tw.le, tw.rel.updFree kp (nz_new r tw hDn) gd7 fun b hb => upd_ne hb, ⟨tw.ext.same, tw.ext.new, fun b hb => ?_⟩, fun b u eb nb => ?_⟩, fun j s hj he => wipeE_in hj he, (sg.trans n.ext.same).trans s7.ext.same, upd_same, gd7, (RpAll.mono (n.ext.same.trans s7.ext.same) racc).append (.cons q7 .nil), q6, by rw [← ey]; simp⟩
      · by_cases z : b = Da
        · rw [z]; exact hDn
        · rw [upd_ne z] at hb; exact tw.ext.dom b hb
      · rw [upd_ne (fun z => by rw [z, hDn] at eb; cases eb)]; exact tw.keep b u eb nb
    | false =>
      simp only [Bool.false_eq_true, if_false] at q3
      refine iteF ?_
      have tt := Step.turned (t.rel) un o4 w4 n.ext n.kept s5
      exact ⟨wipeE eB vs, G5, acc, dacc, rest, t.trans tt, fun j s hj he => wipeE_in hj he, (sg.trans n.ext.same).trans s5.ext.same, s5.keep Da _ hd2 a5, s5.ext.new Da (by rw [hd2]; simp) ge, RpAll.mono (n.ext.same.trans s5.ext.same) racc, q3, ey⟩
  · have e : i = ds.length := by omega
    subst e
    refine .inl ⟨wk.stops H2 gd, ?_⟩
    obtain ⟨env2, G2, acc, dacc, rest, t, un, sg, hacc, gacc, racc, q, ey⟩ := pv
    simp only [List.drop_length, lcF] at q
    cases q
    simp only [List.append_nil] at ey
    subst ey
    exact k H2 G2 acc t un sg hacc gacc racc

def noBor (env : Env') (vs : List Nat) : Bool := vs.all fun i => match env[i]? with
  | some (.bor _) => false
  | some (.nst _) => false
  | _ => true
theorem nz_turned {vs : List Nat} {σ σ4 : St} {env eA : Env'} {H : Hp} {a : Addr} (h : ∀ (j : Nat) (d : D), env[j]? = some (.nst d) → a ∉ zone H σ[j]? (.nst d)) (o : Out0 vs (wipe σ vs) env σ4 eA) (hb : noBor eA vs = true) : ∀ (j : Nat) (d : D), eA[j]? = some (.nst d) → a ∉ zone H σ4[j]? (.nst d) := fun j d hs => by
  by_cases m : j ∈ vs
  · unfold noBor at hb
    rw [List.all_eq_true] at hb
    have := hb j m
    rw [hs] at this
    cases this
  · rw [o.ev j m] at hs
    rw [o.at_ m, wipe_out m]
    exact h j d hs
theorem NoSl.turned {vs : List Nat} {σ σ4 : St} {env eA : Env'} {a : Addr} (h : NoSl σ env a) (o : Out0 vs (wipe σ vs) env σ4 eA) (hn : ¬ IsOwn σ4 eA a) (hb : noBor eA vs = true) : NoSl σ4 eA a := fun j s hs ho z => by
  by_cases m : j ∈ vs
  · cases s with
    | own d => exact hn ⟨j, d, hs, z⟩
    | bor d =>
      unfold noBor at hb
      rw [List.all_eq_true] at hb
      have := hb j m
      rw [hs] at this
      cases this
    | nst d =>
      unfold noBor at hb
      rw [List.all_eq_true] at hb
      have := hb j m
      rw [hs] at this
      cases this
    | _ => cases ho
  · rw [o.ev j m] at hs
    rw [o.at_ m, wipe_out m] at z
    exact h j s hs ho z
theorem Step.wiped {vs : List Nat} {σ : St} {env e1 : Env'} {H G H1 G1 : Hp} (s : Step W σ env H G e1 H1 G1) : Step W σ env H G (wipeE e1 vs) H1 G1 :=
  ⟨⟨by rw [wipeE_len]; exact s.le.len, fun i t t' a b => by
    rcases wipeE_at b with z | ⟨_, q⟩
    · subst z; simp [LeS]
    · exact s.le.at_ i t t' a q⟩, s.rel.unturn rfl, s.ext, s.keep⟩
def lcF2 (vs vs1 : List Nat) (g : GF) (c : BF) (w1 : IF) (g1 : GF) (c1 : BF) (e : PF) : List D → Env' → Option (List D × Env')
  | [], env => some ([], env)
  | d :: ds, env => do
    let e1 ← g d env
    let (b, e2) ← c e1
    if noBor e1 vs then
      if b then
        let (ds1, e3) ← w1 e2
        let (ys1, e4) ← lcF vs1 g1 c1 e ds1 (wipeE e3 vs1)
        let (ys2, e5) ← lcF2 vs vs1 g c w1 g1 c1 e ds (wipeE e4 vs)
        some (ys1 ++ ys2, e5)
      else lcF2 vs vs1 g c w1 g1 c1 e ds (wipeE e2 vs)
    else none
def pLc2 (vs vs1 : List Nat) (w : IF) (g : GF) (c : BF) (w1 : IF) (g1 : GF) (c1 : BF) (e : PF) : PF := fun env => do
  let (ds, e1) ← w env
  let (ys, e2) ← lcF2 vs vs1 g c w1 g1 c1 e ds (wipeE e1 vs)
  if ys.length ≤ sizeLine then some (.own (.lst ys), e2) else none
theorem lc2_tE {vs vs1 : List Nat} {w w1 : IF} {g g1 : GF} {c c1 : BF} {e : PF} {σ : St} {H : Hp} {Q : VK} (h : tE W (pLc2 vs vs1 w g c w1 g1 c1 e) σ H Q) :
    tLc2 (tI W w) (tGc W vs g) (tT W c) (tI W w1) (tGc W vs1 g1) (tT W c1) (tE W e) vs vs1 σ H Q := by
  obtain ⟨env, G, rv, env', r, p, k⟩ := h
  unfold pLc2 at p
  simp only [Option.bind_eq_bind, Option.bind_eq_some_iff, Prod.exists] at p
  obtain ⟨ds, e1, h1, ys, e2, h2, p⟩ := p
  split at p
  · rename_i hz
    cases p
    refine ⟨env, G, ds, e1, r, h1, fun J H1 G1 s wd Da hD => ?_⟩
    obtain ⟨Gd, Y, wk, hG, hY⟩ := wd
    have gD : G1 Da = none := s.rel.sub.free hD
    have hDn : H Da = none := s.ext.dom Da hD
    have n0 : NR W H1 G1 (.ref Da) (.own (.lst [])) (upd H1 Da (.lst [])) G1 := NR.own s.rel.sub hD (.lst .nil)
    have sw : Step W σ env H G (wipeE e1 vs) (upd H1 Da (.lst [])) G1 := (s.trans (n0.step s.rel)).wiped
    let Pv : Nat → Hp → Prop := fun i H2 => ∃ env2 G2 acc dacc rest, Step W σ env H G env2 H2 G2 ∧ (∀ i s, i ∈ vs → env2[i]? = some s → s = .und) ∧ Same G1 G2 ∧ H2 Da = some (.lst acc) ∧ G2 Da = none ∧ RpAll W G2 acc dacc ∧ lcF2 vs vs1 g c w1 g1 c1 e (ds.drop i) env2 = some (rest, env') ∧ dacc ++ rest = ys
    refine ⟨fun i m H2 => m = ds.length - i ∧ (i ≤ ds.length ∧ Pv i H2), ⟨ds.length, by simp, Nat.zero_le _, wipeE e1 vs, G1, [], [], ys, sw, fun i s hi he => wipeE_in hi he, Same.refl _, upd_same, gD, .nil, by simpa using h2, rfl⟩, fun i m H2 ⟨hm, hi, pv⟩ => ?_⟩
    obtain ⟨env2, G2, acc, dacc, rest, t, un, sg, hacc, gacc, racc, q, ey⟩ := pv
    have gd := hG H2 G2 sg t.rel.sub
    rcases Nat.lt_or_ge i ds.length with hlt | hge
    · refine .inr ⟨wk.goes i H2 hlt gd, Pv (i + 1), fun H' p' => ⟨ds.length - (i + 1), by omega, rfl, hlt, p'⟩, fun x H2' yl => ?_⟩
      have y := wk.yields i H2 x H2' hlt gd yl
      have ei : ds[i]? = some ds[i] := by simp [hlt]
      rw [List.drop_eq_getElem_cons hlt] at q
      simp only [lcF2, Option.bind_eq_bind, Option.bind_eq_some_iff, Prod.exists] at q
      obtain ⟨eA, q1, b, eB, q2, q3⟩ := q
      obtain ⟨G3, n⟩ := hY i H2 x H2' G2 _ y sg t.rel.sub ei
      have r3 : Rel W σ env2 H2' G3 := (n.step t.rel).rel
      refine ⟨env2, G3, _, eA, r3.turn un, n.ok, q1, fun σ4 r4 o4 w4 => ⟨by rw [o4.sl]; exact wipe_idem, ?_⟩⟩
      have ge : G3 Da = none := n.ext.new Da (by rw [hacc]; simp) gacc
      have hd2 : H2' Da = some (.lst acc) := n.kept _ _ hacc
      have wo : ∀ b, IsOwn (wipe σ vs) env2 b → IsOwn σ env2 b := fun b ⟨i, d, h1, h2⟩ => ⟨i, d, h1, (wipe_some h2).1⟩
      have a5 : ¬ IsOwn σ4 eA Da := fun z => t.ownNe r (wo _ (w4 _ z)) hDn
      split at q3
      · rename_i hnb
        refine ⟨eA, G3, b, eB, r4, q2, fun H5 G5 s5 => ?_⟩
        cases b with
        | true =>
          simp only [if_true, Option.bind_eq_some_iff, Prod.exists, Option.some.injEq, Prod.mk.injEq] at q3
          obtain ⟨ds1, e3, q4, ys1, e4, q5, ys2, e5, q6, rfl, rfl⟩ := q3
          refine iteT ⟨eB, G5, ds1, e3, s5.rel, q4, fun J1 H6 G6 s6 wd1 => ?_⟩
          have s56 := s5.trans s6
          have hd6 : H6 Da = some (.lst acc) := s56.keep Da _ hd2 a5
          have gd6 : G6 Da = none := s56.ext.new Da (by rw [hd2]; simp) ge
          have ns : NoSl σ env2 Da := obj_ne r t.le hDn
          have ns4 : NoSl σ4 eA Da := ns.turned o4 a5 hnb
          have ln := congrArg List.length ey
          simp only [List.length_append] at ln
          refine lc_loop (H := unA H2' Da) (r4.unA ns4 (nz_turned (nz_new r (t.trans (n.step t.rel)) hDn) o4 hnb) ge) unA_same wd1 (s56.unBase.wiped (vs := vs1)) (fun j t hj he => wipeE_in hj he) (Same.refl _) hd6 gd6 (RpAll.mono (n.ext.same.trans s56.ext.same) racc) (by omega) q5 fun H7 G7 acc7 s7 un7 sg7 h7 g7 r7 => ?_
          have tE0 := t.unEnd hDn ns (nz_new r t hDn) gacc
          have x0 : Ext (unA H2 Da) G2 (unA H2' Da) G3 := ⟨n.ext.same, fun b hb gb => n.ext.new b (fun z => hb (unA_none z)) gb, fun b hb => by
            by_cases z : b = Da
            · rw [z]; exact unA_same
            · rw [unA_ne z] at hb; exact unA_none (n.ext.dom b hb)⟩
          have k0 : Same (unA H2 Da) (unA H2' Da) := fun b u hb => by
            obtain ⟨z1, z2⟩ := unA_some hb
            rw [unA_ne z1]; exact n.kept b u z2
          have tt := Step.turned tE0.rel un o4 w4 x0 k0 s7
          exact ⟨wipeE e4 vs, G7, acc7, dacc ++ ys1, ys2, tE0.trans tt, fun j t hj he => wipeE_in hj he, ((sg.trans n.ext.same).trans s56.ext.same).trans sg7, h7, g7, r7, q6, by rw [← ey]; simp⟩
        | false =>
          simp only [Bool.false_eq_true, if_false] at q3
          refine iteF ?_
          have tt := Step.turned (t.rel) un o4 w4 n.ext n.kept s5
          exact ⟨wipeE eB vs, G5, acc, dacc, rest, t.trans tt, fun j s hj he => wipeE_in hj he, (sg.trans n.ext.same).trans s5.ext.same, s5.keep Da _ hd2 a5, s5.ext.new Da (by rw [hd2]; simp) ge, RpAll.mono (n.ext.same.trans s5.ext.same) racc, q3, ey⟩
      · cases q3
    · have e : i = ds.length := by omega
      subst e
      refine .inl ⟨wk.stops H2 gd, ?_⟩
      simp only [List.drop_length, lcF2] at q
      cases q
      simp only [List.append_nil] at ey
      subst ey
      exact k _ H2 G2 t ⟨Da, _, rfl, hacc, gacc, hDn, .lst racc⟩
  · cases p
end
end Den
end

section
set_option Elab.async false
set_option linter.all false
set_option maxRecDepth 100000
set_option maxHeartbeats 2000000
/-! DenI: what changes an own object: methods of lists, stores at a place, at a key. -/
namespace Den
open PySem L2
section
variable {X : Cx} {W : Pw}

theorem Rel.write {σ : St} {env : Env'} {H G : Hp} {i : Nat} {a : Addr} {o : HO} {d0 d : D} (r : Rel W σ env H G) (hi : env[i]? = some (.own d0)) (hs : σ[i]? = some (some (.ref a))) (g : G a = none) (ob : Ob W G o d) :
    Rel W σ (env.set i (.own d)) (upd H a o) G := by
  have hl : i < env.length := (List.getElem?_eq_some_iff.mp hi).1
  have un : ∀ (m : Nat) (t : SV), (env.set i (.own d))[m]? = some t → t.isObj = true → ∃ t', env[m]? = some t' ∧ t'.isObj = true ∧ (m ≠ i → t' = t) := fun m t hm ht => by
    by_cases e : m = i
    · subst e; exact ⟨_, hi, rfl, fun z => (z rfl).elim⟩
    · rw [List.getElem?_set_ne (Ne.symm e)] at hm; exact ⟨t, hm, ht, fun _ => rfl⟩
  have ne : ∀ (j : Nat) (s : SV) (b : Addr), j ≠ i → env[j]? = some s → s.isObj = true → σ[j]? = some (some (.ref b)) → b ≠ a := fun j s b hj h1 h2 h3 z => by
    subst z; exact hj (r.dist i j d0 s b hi h1 h2 hs h3).symm
  have nz : ∀ (j : Nat) (d : D), env[j]? = some (.nst d) → a ∉ zone H σ[j]? (.nst d) := fun j d h z => by
    have e := r.nst j i d (.own d0) a h hi z (by rw [hs]; simp [zone])
    subst e
    rw [hi] at h; cases h
  refine ⟨by simp [r.len], fun b u e => ?_, fun j s h => ?_, fun j k d' s b h1 h2 h3 h4 h5 => ?_, r.nst.map fun j s c h m => ?_⟩
  rotate_right
  · by_cases e : j = i
    · subst e
      rw [List.getElem?_set_self hl] at h
      cases h
      exact ⟨_, hi, zone_own m, fun d e => by cases e⟩
    · rw [List.getElem?_set_ne (Ne.symm e)] at h
      refine ⟨s, h, zone_h m fun d b e1 e2 => ?_, fun d e => ⟨d, e⟩⟩
      subst e1
      exact upd_ne (ne j _ b e h rfl e2)
  · rw [upd_ne (fun z => by rw [z, g] at e; cases e)]; exact r.sub b u e
  · by_cases e : j = i
    · subst e
      rw [List.getElem?_set_self hl] at h
      cases h
      exact ⟨a, o, hs, upd_same, g, ob⟩
    · rw [List.getElem?_set_ne (Ne.symm e)] at h
      exact (r.slot j s h).mono (Same.refl _) (fun b u e1 e2 e3 => by rw [upd_ne (ne j s b e h e2 e1)]; exact e3) (fun _ _ _ q _ => q) fun d b e m => ⟨fun u q => by
        subst e
        rw [upd_ne (fun z => nz j d h (by rw [← z]; exact m))]; exact q, fun q _ => q⟩
  · obtain ⟨t1, q1, q2, _⟩ := un j _ h1 rfl
    obtain ⟨t2, q3, q4, _⟩ := un k s h2 h3
    by_cases ej : j = i
    · subst ej
      exact r.dist j k d0 t2 b hi q3 q4 h4 h5
    · rw [List.getElem?_set_ne (Ne.symm ej)] at h1
      exact r.dist j k d' t2 b h1 q3 q4 h4 h5
theorem Step.write {σ : St} {env : Env'} {H G : Hp} {i : Nat} {a : Addr} {o o0 : HO} {d0 d : D} (r : Rel W σ env H G) (hi : env[i]? = some (.own d0)) (hs : σ[i]? = some (some (.ref a))) (ha : H a = some o0) (g : G a = none) (ob : Ob W G o d) :
    Step W σ env H G (env.set i (.own d)) (upd H a o) G := by
  have hl : i < env.length := (List.getElem?_eq_some_iff.mp hi).1
  refine ⟨⟨by simp, fun j s s' h1 h2 => ?_⟩, r.write hi hs g ob, ⟨Same.refl _, fun _ _ h => h, fun b h => ?_⟩, fun b u e n => ?_⟩
  · by_cases e : j = i
    · subst e
      rw [List.getElem?_set_self hl] at h2
      cases h2
      rw [hi] at h1; cases h1
      rfl
    · rw [List.getElem?_set_ne (Ne.symm e), h1] at h2
      cases h2; exact LeS.refl _
  · by_cases z : b = a
    · subst z; rw [upd_same] at h; cases h
    · rw [upd_ne z] at h; exact h
  · rw [upd_ne (fun z => n ⟨i, d0, hi, by rw [z]; exact hs⟩)]; exact e

/-! ### methods of a list of one's own -/
/-- f: the list, the arguments (frozen); what comes back, the list behind -/
def pMut (i : Nat) (f : D → List D → Option (D × D)) (P : PAF) : PF := fun env => match env[i]? with
  | some (.own (.lst _)) => do
    let (rvs, e1) ← P env
    let ds ← dts rvs
    match e1[i]? with
    | some (.own d) => do
      let (ret, d') ← f d ds
      some (.dat ret, e1.set i (.own d'))
    | _ => none
  | _ => none
def MutD (W : Pw) (r : V → List V → Hp → VK → Prop) (f : D → List D → Option (D × D)) : Prop := ∀ (a : Addr) (o : HO) (d : D) (vs : List V) (ds : List D) (G H : Hp) (Q : VK) (ret d' : D), Same G H → H a = some o → G a = none → Ob W G o d → RpAll W G vs ds → f d ds = some (ret, d') →
  (∀ v o', Rp W G v ret → Ob W G o' d' → Q v (upd H a o')) → r (.ref a) vs H Q
theorem mut_tE {i : Nat} {r : V → List V → Hp → VK → Prop} {f : D → List D → Option (D × D)} (m : MutD W r f) {P : PAF} {σ : St} {H : Hp} {Q : VK} (h : tE W (pMut i f P) σ H Q)
    {K : PySem.W.Frag} (hK : K = W.K) : tBM K "list" r (tVar i) (tA W P) σ H Q := by
  obtain ⟨env, G, rv, env', rl, p, k⟩ := h
  unfold pMut at p
  split at p
  · rename_i d0 hd0
    simp only [Option.bind_eq_bind, Option.bind_eq_some_iff, Prod.exists] at p
    obtain ⟨rvs, e1, h1, ds, h2, p⟩ := p
    split at p
    · rename_i d hd
      simp only [Option.bind_eq_some_iff, Prod.exists, Option.some.injEq, Prod.mk.injEq] at p
      obtain ⟨ret, d', h3, rfl, rfl⟩ := p
      obtain ⟨a, o0, hs, ha0, ga0, ob0⟩ := rl.slot i _ hd0
      refine ⟨.ref a, hs, ?_, env, G, rvs, e1, rl, h1, fun vs H1 G1 s o1 => ?_⟩
      · cases ob0 with
        | lst _ => exact .inl ⟨rfl, _, by rw [hK]; exact SqL.of ha0⟩
      · obtain ⟨G2, s2, q2⟩ := Step.frozen rl s o1 h2
        obtain ⟨b, o, hb, hao, gao, obo⟩ := s2.rel.slot i _ hd
        rw [hs] at hb; cases hb
        refine m a o d vs ds G2 H1 Q ret d' s2.rel.sub hao gao obo q2 h3 fun v o' hv ho' => ?_
        exact k v _ G2 (s2.trans (Step.write s2.rel hd hs hao gao ho')) hv
    · cases p
  · cases p
def appendD : D → List D → Option (D × D)
  | .lst xs, [y] => if xs.length < sizeLine then some (.non, .lst (xs ++ [y])) else none
  | _, _ => none
theorem mutd_append : MutD W rAppend appendD := by
  intro a o d vs ds G H Q ret d' s ha ga ob rs hf k
  unfold appendD at hf
  split at hf
  · split at hf
    · rename_i hz
      cases hf
      cases ob with
      | lst r =>
        cases rs with
        | cons hv t =>
          cases t
          exact ⟨a, _, _, rfl, rfl, ha, by rw [r.length]; exact hz, k _ _ .non (.lst (r.append (.cons hv .nil)))⟩
    · cases hf
  · cases hf
def extendD : D → List D → Option (D × D)
  | .lst xs, [.lst ys] => if xs.length + ys.length ≤ sizeLine then some (.non, .lst (xs ++ ys)) else none
  | _, _ => none
theorem mutd_extend : MutD W rExtend extendD := by
  intro a o d vs ds G H Q ret d' s ha ga ob rs hf k
  unfold extendD at hf
  split at hf
  · split at hf
    · rename_i hz
      cases hf
      cases ob with
      | lst r =>
        cases rs with
        | cons hv t =>
          cases t
          cases hv with
          | lst hb rb => exact ⟨a, _, _, _, rfl, rfl, ha, s _ _ hb, by rw [r.length, rb.length]; exact hz, k _ _ .non (.lst (r.append rb))⟩
    · cases hf
  · cases hf
/-- pe_bm's own looks, of plain arguments -/
theorem bm_few {es : List Expr} {env : Env} {pos : Pos} (h : es.all notStar = true) (hl : es.length < 30) :
    ((backTo pos (starEach es env)).all (fun x => !x.1) && (backToKw pos (keywordEach [] env)).all (fun x => x.1.isSome) && decide (es.length + ([] : List Keyword).length + (if ([] : List Keyword).isEmpty then 0 else 1) < 30)) = true := by
  have h1 : (backTo pos (starEach es env)).all (fun x => !x.1) = true := by
    clear hl
    induction es with
    | nil => rfl
    | cons e es ih =>
      rw [List.all_cons, Bool.and_eq_true] at h
      rw [star_plain h.1]
      show (backTo pos (starEach es env)).all (fun x => !x.1) = true
      exact ih h.2
  rw [h1]
  have h2 : es.length + ([] : List Keyword).length + (if ([] : List Keyword).isEmpty then 0 else 1) < 30 := by simpa using hl
  simp only [Bool.true_and, decide_eq_true h2, Bool.and_true]
  rfl
/-- the base of an attribute that is no call -/
def notCall : Expr → Bool
  | .Call .. => false
  | _ => true
theorem base_plain {o : Expr} {n : Str} {env : Env} (h : notCall o = true) : attributeBase o n env (eval o env) = eval o env := by
  cases o <;> first | rfl | cases h
/-- without arguments -/
def pMut0 (i : Nat) (f : D → List D → Option (D × D)) : PF := pMut i f aNil
theorem mut0_tE {i : Nat} {r : V → List V → Hp → VK → Prop} {f : D → List D → Option (D × D)} (m : MutD W r f) {σ : St} {H : Hp} {Q : VK} (h : tE W (pMut0 i f) σ H Q) {K : PySem.W.Frag} (hK : K = W.K) : tBM0 K "list" r (tVar i) σ H Q := by
  obtain ⟨v, h1, h2, h3⟩ := mut_tE m h hK
  obtain ⟨env, G, rvs, env', rl, p, k⟩ := h3
  cases p
  exact ⟨v, h1, h2, k [] H G (Step.refl rl) .nil⟩
def clearD : D → List D → Option (D × D)
  | .lst _, [] => some (.non, .lst [])
  | _, _ => none
theorem mutd_clear : MutD W rClear clearD := by
  intro a o d vs ds G H Q ret d' s ha ga ob rs hf k
  unfold clearD at hf
  split at hf
  · cases hf
    cases rs
    cases ob with
    | lst r => exact ⟨a, _, rfl, rfl, ha, k _ _ .non (.lst .nil)⟩
  · cases hf
def reverseD : D → List D → Option (D × D)
  | .lst xs, [] => some (.non, .lst xs.reverse)
  | _, _ => none
theorem mutd_reverse : MutD W rReverse reverseD := by
  intro a o d vs ds G H Q ret d' s ha ga ob rs hf k
  unfold reverseD at hf
  split at hf
  · cases hf
    cases rs
    cases ob with
    | lst r => exact ⟨a, _, rfl, rfl, ha, k _ _ .non (.lst r.reverse)⟩
  · cases hf

/-! ### own[i] = frozen data -/
/-- name[e] as a target -/
def gIx (i : Nat) (P : PF) : GF := fun d env => match P env with
  | some (.dat (.int k), e1) => (match env[i]?, e1[i]? with
    | some (.own (.lst _)), some (.own (.lst xs)) => (ixN xs.length k).map fun j => e1.set i (.own (.lst (xs.set j d)))
    | _, _ => none)
  | _ => none
theorem ix_tG {i np : Nat} {P : PF} {v : V} {σ : St} {H : Hp} {Q : St → Hp → Prop} (hkeep : ∀ {env e1 : Env'} {rv : RV}, P env = some (rv, e1) → ∀ (j : Nat) (d : D), env[j]? = some (.own d) → ∃ d', e1[j]? = some (.own d')) (h : tG W np (gIx i P) v σ H Q) : gSub (tVar i) (tE W P) rSetL v σ H Q := by
  obtain ⟨env, G, d, env', r, q, p, k⟩ := h
  unfold gIx at p
  split at p
  · rename_i kk e1 hP
    split at p
    · rename_i xs0 xs h1 h2
      simp only [Option.map_eq_some_iff] at p
      obtain ⟨j, hj, rfl⟩ := p
      obtain ⟨a, o, ha, hao, gao, obo⟩ := r.slot i _ h1
      refine ⟨.ref a, ha, tE_one r hP fun y H1 G1 s o1 => ?_⟩
      cases o1
      obtain ⟨b, o2, hb, hbo, gbo, obb⟩ := s.rel.slot i _ h2
      rw [ha] at hb; cases hb
      cases obb with
      | lst rr =>
        refine ⟨a, _, kk, j, rfl, rfl, hbo, by rw [rr.length]; exact hj, ?_⟩
        have sw := s.trans (Step.write s.rel h2 ha hbo gbo (.lst (RpAll.set (Rp.mono s.ext.same q) j rr)))
        refine k _ _ _ (sw.toS r fun m d' hm he => ?_)
        obtain ⟨d2, hd2⟩ := hkeep hP m d' he
        by_cases z : i = m
        · subst z
          exact ⟨_, List.getElem?_set_self (List.getElem?_eq_some_iff.mp h2).1⟩
        · exact ⟨d2, by rw [List.getElem?_set_ne z]; exact hd2⟩
    · cases p
  · cases p

theorem PSet.or {t t' : TSet} (h : PSet X t) (h' : PSet X t') : PSet X (fun o i v H Q => t o i v H Q ∨ t' o i v H Q) :=
  fun pins s σ H o i v ov iv u Q I ro ri rv q => q.elim (h pins s σ H o i v ov iv u Q I ro ri rv) (h' pins s σ H o i v ov iv u Q I ro ri rv)
def putKD (kd : List (Key × D)) (k : Key) (d : D) : List (Key × D) := if hasK kd k = true then kd.map (fun kv => if kv.1 = k then (kv.1, d) else kv) else kd ++ [(k, d)]
theorem RpK.length {G : Hp} : ∀ {kv : List (Key × V)} {kd : List (Key × D)}, RpK W G kv kd → kv.length = kd.length
  | _, _, .nil => rfl
  | _, _, .cons _ r => by simp [RpK.length r]
theorem RpK.mapSet {G : Hp} {k : Key} {v : V} {d : D} (h : Rp W G v d) : ∀ {kv : List (Key × V)} {kd : List (Key × D)}, RpK W G kv kd → RpK W G (kv.map fun p => if p.1 = k then (p.1, v) else p) (kd.map fun p => if p.1 = k then (p.1, d) else p)
  | _, _, .nil => .nil
  | (k0, _) :: _, _, .cons a r => by
    rw [List.map_cons, List.map_cons]
    by_cases e : k0 = k
    · simp only [e, if_true]
      exact .cons h (RpK.mapSet h r)
    · simp only [e, if_false]
      exact .cons a (RpK.mapSet h r)
theorem RpK.append {G : Hp} : ∀ {kv kv2 : List (Key × V)} {kd kd2 : List (Key × D)}, RpK W G kv kd → RpK W G kv2 kd2 → RpK W G (kv ++ kv2) (kd ++ kd2)
  | _, _, _, _, .nil, s => s
  | _, _, _, _, .cons a r, s => .cons a (RpK.append r s)
theorem RpK.put {G : Hp} {k : Key} {v : V} {d : D} (h : Rp W G v d) {kv : List (Key × V)} {kd : List (Key × D)} (r : RpK W G kv kd) : RpK W G (putK kv k v) (putKD kd k d) := by
  unfold putK putKD
  rw [hasK_ok r]
  split
  · exact r.mapSet h
  · exact r.append (.cons h .nil)
/-- name[e] as a target: lists, dicts -/
def gIx2 (i : Nat) (P : PF) : GF := fun d env => match env[i]?, P env with
  | some (.own _), some (.dat kd, e1) => if ownB env.length env e1 then (match e1[i]? with
    | some (.own (.lst xs)) => (match kd with
      | .int k => (ixN xs.length k).map fun j => e1.set i (.own (.lst (xs.set j d)))
      | _ => none)
    | some (.own (.dic kvs)) => (match keyOf kd with
      | some k => if kvs.length < sizeLine then some (e1.set i (.own (.dic (putKD kvs k d)))) else none
      | none => none)
    | _ => none) else none
  | _, _ => none
def rSetA : TSet := fun o i v H Q => rSetL o i v H Q ∨ rSetD o i v H Q
theorem ix2_tG {i np : Nat} {P : PF} {v : V} {σ : L2.St} {H : Hp} {Q : L2.St → Hp → Prop} (h : tG W np (gIx2 i P) v σ H Q) : gSub (tVar i) (tE W P) rSetA v σ H Q := by
  obtain ⟨env, G, d, env', r, q, p, k⟩ := h
  unfold gIx2 at p
  split at p
  · rename_i d0 kd e1 h1 hP
    obtain ⟨a, o0, ha, _⟩ := r.slot i _ h1
    split at p
    · rename_i hb
      have hk := ownB_ok hb
      have wr : ∀ {o o2 : HO} {d1 d2 : D} {H1 G1 : Hp}, Step W σ env H G e1 H1 G1 → e1[i]? = some (.own d1) → H1 a = some o → G1 a = none → Ob W G1 o2 d2 → env' = e1.set i (.own d2) → Q σ (upd H1 a o2) := fun {o o2 d1 d2 H1 G1} s h2 hbo gbo ob he => by
        subst he
        have sw := s.trans (Step.write s.rel h2 ha hbo gbo ob)
        refine k _ _ _ (sw.toS r fun m d' hm he => ?_)
        have hl : m < env.length := (List.getElem?_eq_some_iff.mp he).1
        obtain ⟨d3, hd3⟩ := hk m d' hl he
        by_cases z : i = m
        · subst z
          exact ⟨_, List.getElem?_set_self (List.getElem?_eq_some_iff.mp h2).1⟩
        · exact ⟨d3, by rw [List.getElem?_set_ne z]; exact hd3⟩
      split at p
      · rename_i xs h2
        split at p
        · rename_i kk
          simp only [Option.map_eq_some_iff] at p
          obtain ⟨j, hj, he⟩ := p
          refine ⟨.ref a, ha, tE_one r hP fun y H1 G1 s o1 => ?_⟩
          cases o1
          obtain ⟨b, o2, hb, hbo, gbo, obb⟩ := s.rel.slot i _ h2
          rw [ha] at hb; cases hb
          cases obb with
          | lst rr => exact .inl ⟨a, _, kk, j, rfl, rfl, hbo, by rw [rr.length]; exact hj, wr s h2 hbo gbo (.lst (RpAll.set (Rp.mono s.ext.same q) j rr)) he.symm⟩
        · cases p
      · rename_i kvs h2
        split at p
        · rename_i ky hky
          split at p
          · rename_i hz
            have he := (Option.some.inj p).symm
            refine ⟨.ref a, ha, tE_one r hP fun y H1 G1 s o1 => ?_⟩
            have ey := keyOf_ok (Vw.rp (H := H1) (show Rp W G1 y kd from o1)) hky
            subst ey
            obtain ⟨b, o2, hb, hbo, gbo, obb⟩ := s.rel.slot i _ h2
            rw [ha] at hb; cases hb
            cases obb with
            | dic rr => exact .inr ⟨a, _, rfl, DPut.k hbo (by rw [rr.length]; exact hz), wr s h2 hbo gbo (.dic (RpK.put (Rp.mono s.ext.same q) rr)) he⟩
          · cases p
        · cases p
      · cases p
    · cases p
  · cases p
/-! ### {} -/
def pDnew : PF := fun env => some (.own (.dic []), env)
theorem pd_dnew {pos : Pos} : PD X W pDnew (.Dict [] [] pos) := PE.weak pe_dnewK fun σ H Q ⟨env, G, rv, env', r, p, k⟩ => by
  cases p
  intro q hq
  have n := NR.own (W := W) (G := G) r.sub hq (Ob.dic (W := W) (G := G) .nil)
  exact k _ _ _ (n.step r) (n.rv fun _ h => h)
end
end Den
end

section
set_option Elab.async false
set_option linter.all false
set_option maxRecDepth 100000
set_option maxHeartbeats 2000000
/-! DenJ: defs where no repr runs (their promises, their calls). -/
namespace Den
open PySem PySem.Spec PyProof.Rows
open L2 hiding St

/-- a def's promise, where no object is just being shown -/
structure FnG (P : Program) (w : World) (K : PySem.W.Frag) (mg : Str → Option Value) (base : Heap) (k : Nat) (f : Addr) (fd : FuncData) (ps : List Str) (sp : Sp) : Prop where
  len : ∀ vs H Q E, sp vs H Q E → vs.length = ps.length
  run : ∀ (A : Around) (outer : List Env) (s : Shared) (H : Hp) (args : Args) (us : List Value) (vs : List V) (Q : VK) (E : XK),
    A.guards = some [] → Room k A → Env0 P w K mg base A outer s H → BindsTo s fd args (ps.zip us) → Vals vs us → sp vs H Q E →
    codeAny (model P w) A (.call (.ref f) args) (CR CX0 outer P w H s Q E) s
theorem guards_deeper {A : Around} {env : Env} (h : A.guards = some []) : (A.deeper env).guards = some [] := by
  unfold Around.deeper
  simpa using h
theorem fng_of {P : Program} {w : World} {K : PySem.W.Frag} {mg : Str → Option Value} {base : Heap} {k : Nat} {f : Addr} {name qual : Str} {params : Arguments} {body : List Stmt} {scope : Scope}
    {dV kV doc pm cdv ct oc : Value} {an od : Option Addr} {osl : Array (Option Value)} {N ps : List Str} {sp : Sp}
    (lk : K.lookup f = some ⟨oc, od, .func (PySem.W.fnOf name qual params body scope dV kV doc pm an cdv ct), osl⟩)
    (hcd : PySem.W.codeIn K cdv qual = true) (S : FnScope N ps scope)
    (hlen : ∀ vs H Q E, sp vs H Q E → vs.length = ps.length)
    (hb : ∀ (A : Around) (outer : List Env) (s : Shared) (H : Hp) (vs : List V) (Q : VK) (E : XK),
      (A.deeper (envOfC qual scope s.heap.objs.size f cdv)).guards = some [] → Room k (A.deeper (envOfC qual scope s.heap.objs.size f cdv)) → sp vs H Q E →
      ∃ t, PSs (cxOf CX0 P w K mg base N qual scope f cdv A outer s H E) body t ∧
        t { nx := fun _ H' => Q .non H', rt := Q } (start N vs) H) :
    FnG P w K mg base (k + 1) f (PySem.W.fnOf name qual params body scope dV kV doc pm an cdv ct) ps sp := by
  constructor
  · exact hlen
  · intro A outer s H args us vs Q E hg hr e0 hbn r hsp
    have keepK := e0.mod.kin.keeps (fun b o e => (e0.bs b o e).1)
    have lim := e0.mod.nolimit.keeps (fun b o e => (e0.bs b o e).1)
    have kinds : ∀ y ∈ ps.zip us, scope.names.lookup y.1 = some .local ∨
        (scope.names.lookup y.1 = some .cell ∧ ((cellsFrom (s.heap.objs.size + 1) scope.names []).lookup y.1).isSome = true) := by
      rintro ⟨n, v⟩ hy
      rcases S.par n (List.of_mem_zip hy).1 with q | q
      · left; exact q
      · right; exact ⟨q, PySem.W.cellsFrom_some _ _ _ (.inl q)⟩
    apply codeAny_call_function hr.depth (keepK _ _ lk) rfl S.co S.gen rfl (PySem.W.codeRec_of keepK hcd)
    apply hbn
    apply wpAny_newFunctionEnv_cells S.kind kinds
    intro env he s1 x
    subst he
    refine ⟨lim.keeps x.toInCall.keep, codeAny_func ?_⟩
    obtain ⟨t, ht, hq⟩ := hb A outer s H vs Q E (guards_deeper hg) (hr.deeper _) hsp
    have I : Inv (cxOf CX0 P w K mg base N qual scope f cdv A outer s H E) [] (start N vs) H s1 :=
      inv_start S hr.hd e0 (hlen _ _ _ _ hsp) r x
    apply wpAny_mono (ht.run [] s1 (start N vs) H _ I hq)
    · intro fl s' hs
      have fin {σ' : L2.St} {H' : Hp} {v : V} {u : Value} (J : Inv (cxOf CX0 P w K mg base N qual scope f cdv A outer s H E) [] σ' H' s') (rv : RelV v u) (q : Q v H') : CE outer P w H s Q u s' :=
        ⟨v, H', J.os, J.bare, J.base, J.hok, rv, q⟩
      cases fl with
      | ret u =>
        obtain ⟨v, σ', H', J, rv, q⟩ := hs
        exact fin J rv q
      | next =>
        obtain ⟨σ', H', J, q⟩ := hs
        exact fin (v := .non) (u := .none) J rfl q
      | brk => obtain ⟨_, _, _, q⟩ := hs; exact q.elim
      | cont => obtain ⟨_, _, _, q⟩ := hs; exact q.elim
    · intro e s' hs; exact hs

section
variable {X : Cx} {k : Nat} {f C : Addr} {fd : FuncData} {ps : List Str} {sp : Sp}
/-- a promise at a call by values -/
theorem FnG.callR (F : FnG X.prog X.w X.K X.mg X.base k f fd ps sp) (hg : X.A.guards = some []) (hr : Room k X.A) {ds : List Value} {dvs : List V} (hb : Binds X.K fd ps ds) (hd : Vals dvs ds) (E : XK) :
    CallR X (.ref f) (fun vs H Q => sp (vs ++ dvs) H Q E) := by
  intro pins s σ H vs us Q I r h
  have rr : Vals (vs ++ dvs) (us ++ ds) := r.append hd
  have ll : (us ++ ds).length = ps.length := rr.length ▸ F.len _ _ _ _ h
  apply wpAny_call
  apply codeAny_mono (F.run X.A X.stack s H ⟨us, []⟩ (us ++ ds) (vs ++ dvs) Q E hg hr I.env0 (hb s us I.kIn ll) rr h)
  intro res s' hq
  cases res with
  | error e => exact hq.elim
  | ok fl =>
    cases fl with
    | ret u => exact I.after hq
    | next => exact hq.elim
    | brk => exact hq.elim
    | cont => exact hq.elim
/-- .. with keywords: g says how the arguments lie -/
theorem FnG.callRK (F : FnG X.prog X.w X.K X.mg X.base k f fd ps sp) (hg : X.A.guards = some []) (hr : Room k X.A) {ks : List Str} {g : List Value → List Value → List Value} {gV : List V → List V → List V}
    (hb : KBinds X.K fd ps ks g gV) (E : XK) : CallRK X (.ref f) ks (fun vs zs H Q => sp (gV vs zs) H Q E) := by
  intro pins s σ H vs zs us ws Q I r rz h
  have rr := hb.rel r rz
  have ll : (g us ws).length = ps.length := rr.length ▸ F.len _ _ _ _ h
  apply wpAny_call
  apply codeAny_mono (F.run X.A X.stack s H ⟨us, ks.zip ws⟩ (g us ws) (gV vs zs) Q E hg hr I.env0 (hb.to s us ws I.kIn ll) rr h)
  intro res s' hq
  cases res with
  | error e => exact hq.elim
  | ok fl =>
    cases fl with
    | ret u => exact I.after hq
    | next => exact hq.elim
    | brk => exact hq.elim
    | cont => exact hq.elim
theorem guards_make {A : Around} {us : List Value} {kw : List (Str × Value)} (h : A.guards = some []) : (A.under (.builtin "type.__call__" ⟨.ref C :: us, kw⟩)).guards = some [] := by
  have e : (Code.builtin "type.__call__" ⟨.ref C :: us, kw⟩).guards = [] := by
    have q : guardIds.contains "type.__call__" = false := by decide +kernel
    unfold Code.guards Code.isGuard
    show (if guardIds.contains "type.__call__" = true then _ else _) = []
    rw [q]; rfl
  unfold Around.under
  simp only [e]
  simpa [pushGuards] using h
/-- a new instance: the class called by values -/
theorem FnG.makeR (M : Mk X.K C f) (F : FnG X.prog X.w X.K X.mg X.base k f fd ps sp) (hg : X.A.guards = some []) (hr : Room (k + 1) X.A) {ds : List Value} {dvs : List V} (hb : Binds X.K fd ps ds) (hd : Vals dvs ds) (E : XK) :
    CallR X (.ref C) (fun vs H Q => ∀ x dx, H x = none → H dx = none → dx ≠ x → sp (.ref x :: (vs ++ dvs)) (upd (upd H dx (.own x)) x (.ins C dx [])) (fun v H2 => v = .non ∧ Q (.ref x) H2) E) := by
  intro pins s σ H vs us Q I r h
  have n0 : H s.heap.objs.size = none := I.hok.fresh (Nat.le_refl _)
  have n1 : H (s.heap.objs.size + 1) = none := I.hok.fresh (Nat.le_succ _)
  have hq := h (s.heap.objs.size + 1) s.heap.objs.size n1 n0 (Nat.ne_of_lt (Nat.lt_succ_self _))
  have J := Inv.made (C := C) I
  have rr : Vals (V.ref (s.heap.objs.size + 1) :: (vs ++ dvs)) (Value.ref (s.heap.objs.size + 1) :: (us ++ ds)) := .cons rfl (r.append hd)
  have ll : (Value.ref (s.heap.objs.size + 1) :: us ++ ds).length = ps.length := by
    have e := rr.length
    rw [F.len _ _ _ _ hq] at e
    exact e.symm
  apply wpAny_call
  apply make_map (f := f) I.kIn M.makes M.init (beq_iff_eq.mp M.fn)
  apply codeAny_mono (F.run _ X.stack _ _ ⟨.ref (s.heap.objs.size + 1) :: us, []⟩ (.ref (s.heap.objs.size + 1) :: (us ++ ds)) _ _ E (guards_make hg) (hr.make C us []) (J.env0.make C us [])
    (hb _ (.ref (s.heap.objs.size + 1) :: us) J.kIn ll) rr hq)
  intro res s' hq'
  cases res with
  | error e => exact hq'.elim
  | ok fl =>
    cases fl with
    | ret u =>
      obtain ⟨v, H', I3, rv, ev, q3⟩ := J.after hq'
      subst ev
      exact ⟨rv, .ref (s.heap.objs.size + 1), H', I3, rfl, q3⟩
    | next => exact hq'.elim
    | brk => exact hq'.elim
    | cont => exact hq'.elim
end

/-! ### calls of what a global name holds -/
section
variable {X : Cx} {x : Str} {p pos : Pos} {a : Addr} {e : Expr} {es : List Expr} {t : TA} {r : List V → Hp → VK → Prop}
theorem pe_callV (hc : CallR X (.ref a) r) (hg : Gl X x) (hm : X.mg x = some (.ref a)) (hk : PySem.W.keepIn X.K (.ref a) = true) (ha : PA X (e :: es) t) (hs : (e :: es).all notStar = true)
    (hdb : (x == ("__debug__" : Str)) = false) : PE X (.Call (.Name x p) (e :: es) [] pos) (tCB r t) := by
  have h2 := hs
  rw [List.all_cons, Bool.and_eq_true] at h2
  constructor
  intro pins s σ H Q I h
  apply wpAny_Call_Name_kw
  apply ld_glob I hg hm ?_ hdb
  apply PySem.W.callWith_K (h₀ := X.base) I.ok.mod.kin hk ?_ (star_plain h2.1) (noStars h2.2)
  exact thn (ha.run pos pins s σ H _ I h) fun us s1 ⟨vs, H1, I1, r1, q1⟩ => ⟨I1.kIn, hc pins s1 σ H1 vs us Q I1 r1 q1⟩
theorem pe_callV0 (hc : CallR X (.ref a) r) (hg : Gl X x) (hm : X.mg x = some (.ref a)) (hk : PySem.W.keepIn X.K (.ref a) = true)
    (hdb : (x == ("__debug__" : Str)) = false) : PE X (.Call (.Name x p) [] [] pos) (tCB r tNil) := by
  constructor
  intro pins s σ H Q I h
  apply wpAny_Call_Name_kw
  apply ld_glob I hg hm ?_ hdb
  exact PySem.W.callWith_K0 I.kIn hk (hc pins s σ H [] [] Q I .nil h)
end
end Den
end

section
set_option Elab.async false
set_option linter.all false
set_option maxRecDepth 100000
set_option maxHeartbeats 2000000
/-! DenK: calls of the program's own defs, by what they make of data. -/
namespace Den
open PySem L2
section
variable {X : Cx} {W : Pw}

/-- what a def makes of its parameters: a value, its parameters behind it -/
abbrev DF := List SV → Option (RV × List SV)
def spF (W : Pw) (n : Nat) (F : DF) : Sp := fun vs H Q _ => vs.length = n ∧ tE W F (vs.map some) H Q

/-- the callee's parameters; io: which are changed in place -/
def passE (env : Env') : List Bool → List RV → Option (List SV)
  | [], [] => some []
  | true :: io, .slot j :: rvs => (match env[j]? with
    | some (.own d) => (passE env io rvs).map (.own d :: ·)
    | _ => none)
  | true :: io, .own d :: rvs => (passE env io rvs).map (.own d :: ·)
  | false :: io, .dat d :: rvs => (passE env io rvs).map (.dat d :: ·)
  | false :: io, .own d :: rvs => (passE env io rvs).map (.dat d :: ·)
  | false :: io, .slot j :: rvs => (match (RV.slot j).cont env with
    | some d => (passE env io rvs).map (.bor d :: ·)
    | _ => none)
  | _, _ => none
/-- the slots that are passed -/
def slotsOf : List RV → List Nat
  | [] => []
  | .slot j :: rvs => j :: slotsOf rvs
  | _ :: rvs => slotsOf rvs
/-- a slot that is passed to be changed is passed once -/
def onceB : List Bool → List RV → List Nat → Bool
  | true :: io, .slot j :: rvs, seen => !(seen.contains j) && !(slotsOf rvs).contains j && onceB io rvs (j :: seen)
  | false :: io, .slot j :: rvs, seen => onceB io rvs (j :: seen)
  | _ :: io, _ :: rvs, seen => onceB io rvs seen
  | _, _, _ => true
/-- the slots behind the call -/
def backE : Env' → List Bool → List RV → List SV → Option Env'
  | env, [], [], [] => some env
  | env, true :: io, .slot j :: rvs, .own d :: outs => backE (env.set j (.own d)) io rvs outs
  | env, true :: io, .own _ :: rvs, .own _ :: outs => backE env io rvs outs
  | env, false :: io, _ :: rvs, _ :: outs => backE env io rvs outs
  | _, _, _, _ => none

theorem passE_len {env : Env'} : ∀ {io : List Bool} {rvs : List RV} {pe : List SV}, passE env io rvs = some pe → io.length = rvs.length ∧ pe.length = rvs.length := by
  intro io rvs
  induction io generalizing rvs with
  | nil =>
    intro pe h
    cases rvs with
    | nil => cases h; exact ⟨rfl, rfl⟩
    | cons r rs => simp [passE] at h
  | cons b io ih =>
    intro pe h
    cases rvs with
    | nil => cases b <;> simp [passE] at h
    | cons r rs =>
      have fin : ∀ s, (passE env io rs).map (s :: ·) = some pe → (b :: io).length = (r :: rs).length ∧ pe.length = (r :: rs).length := fun s hs => by
        simp only [Option.map_eq_some_iff] at hs
        obtain ⟨q, h1, rfl⟩ := hs
        obtain ⟨h2, h3⟩ := ih h1
        exact ⟨by simp [h2], by simp [h3]⟩
      cases b <;> cases r <;> simp only [passE] at h
      · exact fin _ h
      · exact fin _ h
      · split at h
        · exact fin _ h
        · cases h
      · cases h
      · exact fin _ h
      · split at h
        · exact fin _ h
        · cases h
/-- what a parameter is made of -/
def PassAt (env : Env') (b : Bool) (rv : RV) (s : SV) : Prop := match b, rv with
  | true, .slot j => ∃ d, env[j]? = some (.own d) ∧ s = .own d
  | true, .own d => s = .own d
  | true, .dat _ => False
  | false, .dat d => s = .dat d
  | false, .own d => s = .dat d
  | false, .slot j => ∃ d, (RV.slot j).cont env = some d ∧ s = .bor d
theorem passE_at {env : Env'} : ∀ {io : List Bool} {rvs : List RV} {pe : List SV} (i : Nat) (b : Bool) (rv : RV) (s : SV), passE env io rvs = some pe → io[i]? = some b → rvs[i]? = some rv → pe[i]? = some s → PassAt env b rv s := by
  intro io
  induction io with
  | nil => intro rvs pe i b rv s h h1; simp at h1
  | cons b0 io ih =>
    intro rvs pe i b rv s h h1 h2 h3
    cases rvs with
    | nil => simp at h2
    | cons r rs =>
      have fin : ∀ s0, PassAt env b0 r s0 → (passE env io rs).map (s0 :: ·) = some pe → PassAt env b rv s := fun s0 q hs => by
        simp only [Option.map_eq_some_iff] at hs
        obtain ⟨pe', e1, rfl⟩ := hs
        cases i with
        | zero => simp at h1 h2 h3; subst h1; subst h2; subst h3; exact q
        | succ i => exact ih i b rv s e1 (by simpa using h1) (by simpa using h2) (by simpa using h3)
      cases b0 <;> cases r <;> simp only [passE] at h
      · exact fin _ rfl h
      · exact fin _ rfl h
      · split at h
        · rename_i d hd; exact fin _ ⟨d, hd, rfl⟩ h
        · cases h
      · cases h
      · exact fin _ rfl h
      · split at h
        · rename_i d hd; exact fin _ ⟨d, hd, rfl⟩ h
        · cases h
/-- own temporaries that are not changed by the callee are let go of -/
theorem RvsOk.freezeIo {σ : St} {env : Env'} : ∀ {io : List Bool} {vs : List V} {rvs : List RV} {H H' G' : Hp}, RvsOk W σ H H' G' vs rvs → Rel W σ env H' G' → (∀ b, Mine σ env H' b → H b ≠ none) → io.length = rvs.length →
    ∃ G2, Same G' G2 ∧ Rel W σ env H' G2 ∧ (∀ b, G' b = none → (H b ≠ none ∨ ∀ (i : Nat) (d : D), rvs[i]? = some (RV.own d) → vs[i]? ≠ some (V.ref b)) → G2 b = none) ∧
      (∀ (i : Nat) (d : D) (a : Addr), io[i]? = some true → rvs[i]? = some (RV.own d) → vs[i]? = some (.ref a) → G2 a = none) ∧
      ∀ (i : Nat) (rv : RV) (d : D) (v : V), io[i]? = some false → rvs[i]? = some rv → rv.dt = some d → vs[i]? = some v → Rp W G2 v d
  | io, _, _, H, H', G', .nil, r, _, hl => ⟨G', Same.refl _, r, fun _ h _ => h, fun i d a h1 h2 => by simp at h2, fun i rv d v h1 h2 => by simp at h2⟩
  | [], _, _, H, H', G', .cons _ _ _, r, _, hl => by simp at hl
  | b :: io, _, _, H, H', G', .cons (v := v) (rv := rv) (vs := vs) (rvs := rvs) h n rr, r, hn, hl => by
    obtain ⟨G2, s2, r2, k2, t2, q2⟩ := RvsOk.freezeIo (io := io) rr r hn (by simpa using hl)
    -- nothing is done at this place
    have skip : (b = true → ∀ d a, rv = RV.own d → v = .ref a → G2 a = none) → (b = false → ∀ d, rv.dt = some d → Rp W G2 v d) →
        ∃ G2, Same G' G2 ∧ Rel W σ env H' G2 ∧ (∀ c, G' c = none → (H c ≠ none ∨ ∀ (i : Nat) (d : D), (rv :: rvs)[i]? = some (RV.own d) → (v :: vs)[i]? ≠ some (V.ref c)) → G2 c = none) ∧
          (∀ (i : Nat) (d : D) (a : Addr), (b :: io)[i]? = some true → (rv :: rvs)[i]? = some (RV.own d) → (v :: vs)[i]? = some (.ref a) → G2 a = none) ∧
          ∀ (i : Nat) (rv' : RV) (d : D) (u : V), (b :: io)[i]? = some false → (rv :: rvs)[i]? = some rv' → rv'.dt = some d → (v :: vs)[i]? = some u → Rp W G2 u d := fun ht hf => by
      refine ⟨G2, s2, r2, fun c hc hh => k2 c hc (hh.imp id fun z i d e => z (i + 1) d (by simpa using e)), fun i d a h1 h2 h3 => ?_, fun i rv' d u h1 h2 h3 h4 => ?_⟩
      · cases i with
        | zero => simp at h1 h2 h3; exact ht h1 d a h2 h3
        | succ i => exact t2 i d a (by simpa using h1) (by simpa using h2) (by simpa using h3)
      · cases i with
        | zero => simp at h1 h2 h4; subst h2; subst h4; exact hf h1 d h3
        | succ i => exact q2 i rv' d u (by simpa using h1) (by simpa using h2) h3 (by simpa using h4)
    cases rv with
    | dat d => exact skip (fun _ d a e => by cases e) fun _ d' e => by cases e; exact Rp.mono s2 h
    | slot j => exact skip (fun _ d a e => by cases e) fun _ d' e => by cases e
    | own d =>
      obtain ⟨a, o, rfl, ha, ga, h0, ob⟩ := h
      have na : ¬ Mine σ env H' a := fun z => hn a z h0
      have g2 : G2 a = none := k2 a ga (.inr fun i e he => n d e i rfl he)
      cases b with
      | true => exact skip (fun _ d' a' _ e => by cases e; exact g2) fun z => by cases z
      | false =>
        obtain ⟨r3, q3⟩ := r2.freeze1 ha g2 (ob.mono s2) na
        have sg : Same G2 (upd G2 a o) := same_upd g2
        refine ⟨upd G2 a o, s2.trans sg, r3, fun c hc hh => ?_, fun i d' a' h1 h2 h3 => ?_, fun i rv' d' u h1 h2 h3 h4 => ?_⟩
        · have ne : c ≠ a := fun z => by
            subst z
            rcases hh with z | z
            · exact z h0
            · exact z 0 d (by simp) (by simp)
          rw [upd_ne ne]
          exact k2 c hc (hh.imp id fun z i d e => z (i + 1) d (by simpa using e))
        · cases i with
          | zero => simp at h1
          | succ i =>
            have e1 : rvs[i]? = some (RV.own d') := by simpa using h2
            have e2 : vs[i]? = some (.ref a') := by simpa using h3
            have ne : a' ≠ a := fun z => n d d' i rfl e1 (by rw [e2, z])
            rw [upd_ne ne]
            exact t2 i d' a' (by simpa using h1) e1 e2
        · cases i with
          | zero => simp at h2 h4; subst h2; subst h4; cases h3; exact q3
          | succ i => exact Rp.mono sg (q2 i rv' d' u (by simpa using h1) (by simpa using h2) h3 (by simpa using h4))
theorem slotsOf_mem {j : Nat} : ∀ {rvs : List RV} {i : Nat}, rvs[i]? = some (RV.slot j) → j ∈ slotsOf rvs
  | [], _, h => by simp at h
  | r :: rs, 0, h => by simp at h; subst h; simp [slotsOf]
  | r :: rs, i + 1, h => by
    have := slotsOf_mem (rvs := rs) (i := i) (by simpa using h)
    cases r <;> simp [slotsOf, this]
theorem onceB_seen {j : Nat} : ∀ {io : List Bool} {rvs : List RV} {seen : List Nat} {i : Nat}, onceB io rvs seen = true → j ∈ seen → io[i]? = some true → rvs[i]? = some (RV.slot j) → False
  | [], _, _, _, _, _, h, _ => by simp at h
  | _ :: _, [], _, _, _, _, _, h => by simp at h
  | b :: io, r :: rs, seen, 0, h, m, h1, h2 => by
    simp at h1 h2; subst h1; subst h2
    simp [onceB, m] at h
  | b :: io, r :: rs, seen, i + 1, h, m, h1, h2 => by
    have h1' : io[i]? = some true := by simpa using h1
    have h2' : rs[i]? = some (RV.slot j) := by simpa using h2
    cases b <;> cases r <;> simp only [onceB] at h
    · exact onceB_seen h m h1' h2'
    · exact onceB_seen h m h1' h2'
    · exact onceB_seen h (List.mem_cons_of_mem _ m) h1' h2'
    · exact onceB_seen h m h1' h2'
    · exact onceB_seen h m h1' h2'
    · simp only [Bool.and_eq_true] at h
      exact onceB_seen h.2 (List.mem_cons_of_mem _ m) h1' h2'
theorem onceB_ok {x : Nat} : ∀ {io : List Bool} {rvs : List RV} {seen : List Nat} {i j : Nat}, onceB io rvs seen = true → io.length = rvs.length → io[i]? = some true → rvs[i]? = some (RV.slot x) → rvs[j]? = some (RV.slot x) → i = j
  | [], _, _, _, _, _, _, h, _, _ => by simp at h
  | _ :: _, [], _, _, _, _, _, _, h, _ => by simp at h
  | b :: io, r :: rs, seen, 0, 0, h, hl, h1, h2, h3 => rfl
  | b :: io, r :: rs, seen, 0, j + 1, h, hl, h1, h2, h3 => by
    simp at h1 h2; subst h1; subst h2
    have := slotsOf_mem (rvs := rs) (i := j) (j := x) (by simpa using h3)
    simp [onceB, this] at h
  | b :: io, r :: rs, seen, i + 1, 0, h, hl, h1, h2, h3 => by
    have h1' : io[i]? = some true := by simpa using h1
    have h2' : rs[i]? = some (RV.slot x) := by simpa using h2
    simp at h3; subst h3
    cases b with
    | false =>
      simp only [onceB] at h
      exact (onceB_seen h List.mem_cons_self h1' h2').elim
    | true =>
      simp only [onceB, Bool.and_eq_true] at h
      exact (onceB_seen h.2 List.mem_cons_self h1' h2').elim
  | b :: io, r :: rs, seen, i + 1, j + 1, h, hl, h1, h2, h3 => by
    have h1' : io[i]? = some true := by simpa using h1
    have h2' : rs[i]? = some (RV.slot x) := by simpa using h2
    have h3' : rs[j]? = some (RV.slot x) := by simpa using h3
    have hl' : io.length = rs.length := by simpa using hl
    have : ∃ seen', onceB io rs seen' = true := by
      cases b <;> cases r <;> simp only [onceB] at h
      · exact ⟨_, h⟩
      · exact ⟨_, h⟩
      · exact ⟨_, h⟩
      · exact ⟨_, h⟩
      · exact ⟨_, h⟩
      · simp only [Bool.and_eq_true] at h; exact ⟨_, h.2⟩
    obtain ⟨seen', h'⟩ := this
    rw [onceB_ok h' hl' h1' h2' h3']
/-- what lies in the slots behind a call -/
theorem backE_ok : ∀ {io : List Bool} {rvs : List RV} {outs : List SV} {env e2 : Env'}, backE env io rvs outs = some e2 → e2.length = env.length ∧
    (∀ (k : Nat), (∀ (i : Nat), io[i]? = some true → rvs[i]? ≠ some (RV.slot k)) → e2[k]? = env[k]?) ∧
    ∀ (i j : Nat), io[i]? = some true → rvs[i]? = some (RV.slot j) → j < env.length → (∀ (i' : Nat), io[i']? = some true → rvs[i']? = some (RV.slot j) → i' = i) → ∃ d', outs[i]? = some (.own d') ∧ e2[j]? = some (.own d')
  | [], [], [], env, e2, h => by
    simp only [backE, Option.some.injEq] at h; subst h
    exact ⟨rfl, fun _ _ => rfl, fun i j h => by simp at h⟩
  | [], [], _ :: _, env, e2, h => by simp [backE] at h
  | [], _ :: _, _, env, e2, h => by simp [backE] at h
  | b :: io, [], outs, env, e2, h => by cases b <;> simp [backE] at h
  | b :: io, r :: rs, [], env, e2, h => by cases b <;> cases r <;> simp [backE] at h
  | false :: io, r :: rs, o :: outs, env, e2, h => by
    simp only [backE] at h
    obtain ⟨h1, h2, h3⟩ := backE_ok h
    refine ⟨h1, fun k hk => h2 k fun i a => by have := hk (i + 1) (by simpa using a); simpa using this, fun i j a b hj hu => ?_⟩
    cases i with
    | zero => simp at a
    | succ i =>
      obtain ⟨d', q1, q2⟩ := h3 i j (by simpa using a) (by simpa using b) hj fun i' x y => by
        have := hu (i' + 1) (by simpa using x) (by simpa using y)
        omega
      exact ⟨d', by simpa using q1, q2⟩
  | true :: io, .dat _ :: rs, o :: outs, env, e2, h => by simp [backE] at h
  | true :: io, .own _ :: rs, o :: outs, env, e2, h => by
    cases o <;> simp only [backE] at h <;> first | (cases h; done) | skip
    obtain ⟨h1, h2, h3⟩ := backE_ok h
    refine ⟨h1, fun k hk => h2 k fun i a => by have := hk (i + 1) (by simpa using a); simpa using this, fun i j a b hj hu => ?_⟩
    cases i with
    | zero => simp at b
    | succ i =>
      obtain ⟨d', q1, q2⟩ := h3 i j (by simpa using a) (by simpa using b) hj fun i' x y => by
        have := hu (i' + 1) (by simpa using x) (by simpa using y)
        omega
      exact ⟨d', by simpa using q1, q2⟩
  | true :: io, .slot j0 :: rs, o :: outs, env, e2, h => by
    cases o <;> simp only [backE] at h <;> first | (cases h; done) | skip
    rename_i d0
    obtain ⟨h1, h2, h3⟩ := backE_ok h
    refine ⟨by rw [h1, List.length_set], fun k hk => ?_, fun i j a b hj hu => ?_⟩
    · rw [h2 k fun i a => by have := hk (i + 1) (by simpa using a); simpa using this]
      have : j0 ≠ k := fun z => hk 0 (by simp) (by simp [z])
      rw [List.getElem?_set_ne this]
    · cases i with
      | zero =>
        simp at b; subst b
        refine ⟨d0, by simp, ?_⟩
        rw [h2 j0 fun i x y => by have := hu (i + 1) (by simpa using x) (by simpa using y); omega]
        rw [List.getElem?_set_self hj]
      | succ i =>
        obtain ⟨d', q1, q2⟩ := h3 i j (by simpa using a) (by simpa using b) (by rw [List.length_set]; exact hj) fun i' x y => by
          have := hu (i' + 1) (by simpa using x) (by simpa using y)
          omega
        exact ⟨d', by simpa using q1, q2⟩
theorem vs_at {vs : List V} {i : Nat} {v : V} : (vs.map some)[i]? = some (some v) ↔ vs[i]? = some v := by
  rw [List.getElem?_map]
  cases vs[i]? <;> simp
/-- a def's call -/
def pFn (io : List Bool) (F : DF) (P : PAF) : PF := fun env => do
  let (rvs, e1) ← P env
  if io.length = rvs.length ∧ onceB io rvs [] = true then
    let pe ← passE e1 io rvs
    let (rv, outs) ← F pe
    let e2 ← backE e1 io rvs outs
    match rv with
    | .slot _ => none
    | rv => some (rv, e2)
  else none
/-- the callee's parameters stand as told -/
theorem Rel.pass {σ : St} {env e1 : Env'} {H G H1 G1 : Hp} {io : List Bool} {vs : List V} {rvs : List RV} {pe : List SV} (r : Rel W σ env H G) (s : Step W σ env H G e1 H1 G1) (o : RvsOk W σ H H1 G1 vs rvs) (hl : io.length = rvs.length) (hon : onceB io rvs [] = true) (hp : passE e1 io rvs = some pe) :
    ∃ G2, Step W σ env H G e1 H1 G2 ∧ Rel W (vs.map some) pe H1 G2 ∧ ∀ b, IsOwn (vs.map some) pe b → IsOwn σ e1 b ∨ H b = none := by
  obtain ⟨G2, s2, r2, k2, t2, q2⟩ := o.freezeIo (io := io) s.rel (fun b z => s.mineNe r z) hl
  obtain ⟨_, lp⟩ := passE_len hp
  have lv := o.length
  have st : Step W σ env H G e1 H1 G2 := ⟨s.le, r2, ⟨s.ext.same.trans s2, fun b hb g => k2 b (s.ext.new b hb g) (.inl hb), s.ext.dom⟩, s.keep⟩
  -- what stands at a place
  have at_ : ∀ (i : Nat) (t : SV), pe[i]? = some t → ∃ b rv v, io[i]? = some b ∧ rvs[i]? = some rv ∧ vs[i]? = some v ∧ RvOk W σ H H1 G1 v rv ∧ PassAt e1 b rv t := fun i t ht => by
    have hi : i < pe.length := (List.getElem?_eq_some_iff.mp ht).1
    have h1 : i < io.length := by omega
    have h2 : i < rvs.length := by omega
    have e2 : rvs[i]? = some rvs[i] := by simp [h2]
    obtain ⟨v, e3, e4⟩ := o.get e2
    exact ⟨io[i], rvs[i], v, by simp [h1], e2, e3, e4, passE_at i _ _ _ hp (by simp [h1]) e2 ht⟩
  refine ⟨G2, st, ⟨by simp [lv, lp], r2.sub, fun i t ht => ?_, fun i j d t a h1 h2 h3 h4 h5 => ?_, fun i j d t c h1 _ _ _ => ?_⟩, fun b hb => ?_⟩
  rotate_left
  rotate_left
  · obtain ⟨b, rv, v, e1', e2', e3', ok, pa⟩ := at_ i _ h1
    cases b with
    | true =>
      cases rv with
      | dat d1 => exact pa.elim
      | own d1 => cases (show SV.nst d = .own d1 from pa)
      | slot j1 => obtain ⟨d1, _, z⟩ := pa; cases z
    | false =>
      cases rv with
      | dat d1 => cases (show SV.nst d = .dat d1 from pa)
      | own d1 => cases (show SV.nst d = .dat d1 from pa)
      | slot j1 => obtain ⟨d1, _, z⟩ := pa; cases z
  rotate_left
  · obtain ⟨b, rv, v, e1', e2', e3', ok, pa⟩ := at_ i t ht
    have ev : (vs.map some)[i]? = some (some v) := vs_at.mpr e3'
    rw [ev]
    cases b with
    | true =>
      cases rv with
      | dat d => exact pa.elim
      | own d =>
        cases (show t = .own d from pa)
        obtain ⟨a, ob, rfl, ha, ga, h0, hob⟩ := ok
        exact ⟨a, ob, rfl, ha, t2 i d a e1' e2' e3', hob.mono s2⟩
      | slot j =>
        obtain ⟨d, hd, rfl⟩ := pa
        obtain ⟨a, rfl, ha⟩ := ok
        obtain ⟨a', ob, h1, h2, h3, h4⟩ := r2.slot j _ hd
        rw [ha] at h1; cases h1
        exact ⟨a, ob, rfl, h2, h3, h4⟩
    | false =>
      cases rv with
      | dat d => cases (show t = .dat d from pa); exact ⟨v, rfl, q2 i _ d v e1' e2' rfl e3'⟩
      | own d => cases (show t = .dat d from pa); exact ⟨v, rfl, q2 i _ d v e1' e2' rfl e3'⟩
      | slot j =>
        obtain ⟨d, hd, rfl⟩ := pa
        obtain ⟨a, rfl, ha⟩ := ok
        simp only [RV.cont] at hd
        split at hd
        · rename_i d' hd'
          cases hd
          obtain ⟨a', ob, h1, h2, _, h4⟩ := r2.slot j _ hd'
          rw [ha] at h1; cases h1
          exact ⟨a, ob, rfl, h2, h4⟩
        · rename_i d' hd'
          cases hd
          obtain ⟨a', ob, h1, h2, h4⟩ := r2.slot j _ hd'
          rw [ha] at h1; cases h1
          exact ⟨a, ob, rfl, h2, h4⟩
        · cases hd
  · obtain ⟨b1, rv1, v1, p1, p2, p3, ok1, pa1⟩ := at_ i _ h1
    obtain ⟨b2, rv2, v2, q1', q2', q3', ok2, pa2⟩ := at_ j _ h2
    have ev1 : v1 = .ref a := by rw [vs_at, p3] at h4; exact Option.some.inj h4
    have ev2 : v2 = .ref a := by rw [vs_at, q3'] at h5; exact Option.some.inj h5
    subst ev1; subst ev2
    -- the second one is a slot's object or an own temporary
    have k2' : (∃ jj s', rv2 = RV.slot jj ∧ e1[jj]? = some s' ∧ s'.isObj = true ∧ σ[jj]? = some (some (.ref a))) ∨ (∃ d2, rv2 = RV.own d2 ∧ H a = none) := by
      cases rv2 with
      | dat d2 => cases b2 with
        | true => exact pa2.elim
        | false => cases (show t = .dat d2 from pa2); cases h3
      | own d2 => obtain ⟨a', ob, ea, _, _, h0, _⟩ := ok2; cases ea; exact .inr ⟨d2, rfl, h0⟩
      | slot jj =>
        obtain ⟨a', ea, hs⟩ := ok2
        cases ea
        cases b2 with
        | true => obtain ⟨d2, hd2, rfl⟩ := pa2; exact .inl ⟨jj, _, rfl, hd2, rfl, hs⟩
        | false =>
          obtain ⟨d2, hd2, rfl⟩ := pa2
          simp only [RV.cont] at hd2
          split at hd2
          · rename_i d3 hd3; exact .inl ⟨jj, _, rfl, hd3, rfl, hs⟩
          · rename_i d3 hd3; exact .inl ⟨jj, _, rfl, hd3, rfl, hs⟩
          · cases hd2
    cases b1 with
    | false => cases rv1 with
      | dat d1 => cases (show SV.own d = .dat d1 from pa1)
      | own d1 => cases (show SV.own d = .dat d1 from pa1)
      | slot j1 => obtain ⟨d1, _, z⟩ := pa1; cases z
    | true =>
      cases rv1 with
      | dat d1 => exact pa1.elim
      | own d1 =>
        obtain ⟨a', ob, ea, _, _, h0, _⟩ := ok1
        cases ea
        rcases k2' with ⟨jj, s', _, e', ho', hs'⟩ | ⟨d2, rfl, _⟩
        · exact (obj_ne r s.le h0 jj s' e' ho' hs').elim
        · by_cases hij : i = j
          · exact hij
          · -- two own temporaries stand apart
            have apart : ∀ {vs : List V} {rvs : List RV}, RvsOk W σ H H1 G1 vs rvs → ∀ (i j : Nat) (d e : D), i < j → rvs[i]? = some (RV.own d) → rvs[j]? = some (RV.own e) → vs[i]? = some (.ref a) → vs[j]? = some (.ref a) → False := by
              intro vs rvs o
              induction o with
              | nil => intro i j d e _ h; simp at h
              | cons h n t ih =>
                intro i j d e hij h1 h2 h3 h4
                cases j with
                | zero => omega
                | succ j =>
                  cases i with
                  | zero =>
                    simp at h1 h3
                    subst h1; subst h3
                    exact n d e j rfl (by simpa using h2) (by simpa using h4)
                  | succ i => exact ih i j d e (by omega) (by simpa using h1) (by simpa using h2) (by simpa using h3) (by simpa using h4)
            rcases Nat.lt_or_ge i j with z | z
            · exact (apart o i j d1 d2 z p2 q2' p3 q3').elim
            · exact (apart o j i d2 d1 (by omega) q2' p2 q3' p3).elim
      | slot j1 =>
        obtain ⟨d1, hd1, _⟩ := pa1
        obtain ⟨a', ea, hs1⟩ := ok1
        cases ea
        rcases k2' with ⟨jj, s', rfl, e', ho', hs'⟩ | ⟨d2, rfl, h0⟩
        · have := s.rel.dist j1 jj d1 s' a hd1 e' ho' hs1 hs'
          subst this
          exact onceB_ok hon hl p1 p2 q2'
        · exact (obj_ne r s.le h0 j1 _ hd1 rfl hs1).elim
  · obtain ⟨i, d, h1, h2⟩ := hb
    obtain ⟨b1, rv1, v1, p1, p2, p3, ok1, pa1⟩ := at_ i _ h1
    have ev1 : v1 = .ref b := by rw [vs_at, p3] at h2; exact Option.some.inj h2
    subst ev1
    cases b1 with
    | false => cases rv1 with
      | dat d1 => cases (show SV.own d = .dat d1 from pa1)
      | own d1 => cases (show SV.own d = .dat d1 from pa1)
      | slot j1 => obtain ⟨d1, _, z⟩ := pa1; cases z
    | true =>
      cases rv1 with
      | dat d1 => exact pa1.elim
      | own d1 => obtain ⟨a', ob, ea, _, _, h0, _⟩ := ok1; cases ea; exact .inr h0
      | slot j1 =>
        obtain ⟨d1, hd1, _⟩ := pa1
        obtain ⟨a', ea, hs1⟩ := ok1
        cases ea
        exact .inl ⟨j1, d1, hd1, hs1⟩
theorem own_call {σ : St} {env e1 e2 : Env'} {H G H1 G1 : Hp} {io : List Bool} {vs : List V} {rvs : List RV} {pe outs : List SV} (r : Rel W σ env H G) (s : Step W σ env H G e1 H1 G1) (o : RvsOk W σ H H1 G1 vs rvs) (hl : io.length = rvs.length) (hon : onceB io rvs [] = true) (hp : passE e1 io rvs = some pe) (hb : backE e1 io rvs outs = some e2) :
    ∃ G2, Rel W (vs.map some) pe H1 G2 ∧ ∀ (v : V) (rv : RV) (H' G' : Hp), (∀ j, rv ≠ .slot j) → Step W (vs.map some) pe H1 G2 outs H' G' → RvOk W (vs.map some) H1 H' G' v rv → Step W σ env H G e2 H' G' ∧ RvOk W σ H H' G' v rv := by
  obtain ⟨G2, st, rp, ow⟩ := Rel.pass r s o hl hon hp
  obtain ⟨b1, b2, b3⟩ := backE_ok hb
  refine ⟨G2, rp, fun v rv H' G' hns sc ok => ?_⟩
  have lv := o.length
  -- the slots that are passed to be changed
  have isP : ∀ (k : Nat), (∃ (i : Nat), io[i]? = some true ∧ rvs[i]? = some (RV.slot k)) ∨ ∀ (i : Nat), io[i]? = some true → rvs[i]? ≠ some (RV.slot k) := fun k => by
    by_cases h : ∃ (i : Nat), io[i]? = some true ∧ rvs[i]? = some (RV.slot k)
    · exact .inl h
    · exact .inr fun i h1 h2 => h ⟨i, h1, h2⟩
  have slotV : ∀ (i k : Nat), rvs[i]? = some (RV.slot k) → ∃ a, vs[i]? = some (.ref a) ∧ σ[k]? = some (some (.ref a)) := fun i k h => by
    obtain ⟨u, h1, a, h2, h3⟩ := o.get h
    subst h2
    exact ⟨a, h1, h3⟩
  have ownP : ∀ (i k : Nat), io[i]? = some true → rvs[i]? = some (RV.slot k) → ∃ d, e1[k]? = some (.own d) := fun i k h1 h2 => by
    obtain ⟨_, lp⟩ := passE_len hp
    have hi : i < pe.length := by
      have := (List.getElem?_eq_some_iff.mp h2).1
      omega
    obtain ⟨d, h3, _⟩ := passE_at i true (.slot k) pe[i] hp h1 h2 (by simp [hi])
    exact ⟨d, h3⟩
  have nowE : ∀ (i k : Nat), io[i]? = some true → rvs[i]? = some (RV.slot k) → ∃ d', outs[i]? = some (.own d') ∧ e2[k]? = some (.own d') := fun i k h1 h2 => by
    obtain ⟨d, hd⟩ := ownP i k h1 h2
    exact b3 i k h1 h2 (List.getElem?_eq_some_iff.mp hd).1 fun i' x y => onceB_ok hon hl x y h2
  -- an object that is no slot's that is passed stays
  have stays : ∀ (k : Nat) (t : SV) (b : Addr) (u : HO), e1[k]? = some t → t.isObj = true → σ[k]? = some (some (.ref b)) → (∀ (i : Nat), io[i]? = some true → rvs[i]? ≠ some (RV.slot k)) → H1 b = some u → H' b = some u := fun k t b u h1 h2 h3 h4 h5 => by
    refine sc.keep b u h5 fun z => ?_
    obtain ⟨i, d, z1, z2⟩ := z
    obtain ⟨_, lp⟩ := passE_len hp
    have hi : i < pe.length := (List.getElem?_eq_some_iff.mp z1).1
    have hr : rvs[i]? = some (rvs[i]'(by omega)) := by simp [show i < rvs.length by omega]
    have hio : io[i]? = some (io[i]'(by omega)) := by simp [show i < io.length by omega]
    have pa := passE_at i _ _ _ hp hio hr z1
    obtain ⟨w, hw, okw⟩ := o.get hr
    have ew : w = .ref b := by rw [vs_at, hw] at z2; exact Option.some.inj z2
    subst ew
    generalize io[i]'(by omega) = bb at hio pa
    generalize rvs[i]'(by omega) = rr at hr pa okw
    cases bb with
    | false => cases rr with
      | dat d1 => cases (show SV.own d = .dat d1 from pa)
      | own d1 => cases (show SV.own d = .dat d1 from pa)
      | slot j1 => obtain ⟨d1, _, z⟩ := pa; cases z
    | true =>
      cases rr with
      | dat d1 => exact pa.elim
      | own d1 =>
        obtain ⟨a', ob, ea, _, _, h0, _⟩ := okw
        cases ea
        exact obj_ne r s.le h0 k t h1 h2 h3
      | slot j1 =>
        obtain ⟨d1, hd1, _⟩ := pa
        obtain ⟨a', ea, hs1⟩ := okw
        cases ea
        have := s.rel.dist j1 k d1 t b hd1 h1 h2 hs1 h3
        subst this
        exact h4 i hio hr
  have e2at : ∀ (k : Nat) (t : SV), e2[k]? = some t → (∃ (i : Nat) (d' : D), io[i]? = some true ∧ rvs[i]? = some (RV.slot k) ∧ outs[i]? = some (.own d') ∧ t = .own d') ∨ (e1[k]? = some t ∧ ∀ (i : Nat), io[i]? = some true → rvs[i]? ≠ some (RV.slot k)) := fun k t h => by
    rcases isP k with ⟨i, h1, h2⟩ | hn
    · obtain ⟨d', q1, q2⟩ := nowE i k h1 h2
      rw [q2] at h; cases h
      exact .inl ⟨i, d', h1, h2, q1, rfl⟩
    · rw [b2 k hn] at h; exact .inr ⟨h, hn⟩
  have le12 : Le e1 e2 := ⟨b1.symm, fun k t t' h h' => by
    rcases e2at k t' h' with ⟨i, d', h1, h2, h3, rfl⟩ | ⟨h1, _⟩
    · obtain ⟨d, hd⟩ := ownP i k h1 h2
      rw [hd] at h; cases h; rfl
    · rw [h1] at h; cases h; exact LeS.refl _⟩
  have nstk : ∀ (k : Nat) (d : D) (c : Addr) (u : HO), e1[k]? = some (.nst d) → c ∈ zone H1 σ[k]? (.nst d) → H1 c = some u → H' c = some u := fun k d c u h1 h2 h3 => sc.keep c u h3 fun z => by
    rcases ow c z with z | z
    · exact s.rel.zoneOwn h1 h2 z
    · exact s.mineNe r (.inr ⟨k, d, h1, h2⟩) z
  have ss : Step W σ env H G e2 H' G' := by
    refine ⟨s.le.trans le12, ⟨by rw [b1]; exact s.rel.len, sc.rel.sub, fun k t h => ?_, fun k m d t a h1 h2 h3 h4 h5 => ?_, s.rel.nst.map fun k t c h m => ?_⟩, st.ext.trans sc.ext, fun b u hb nb => ?_⟩
    · rcases e2at k t h with ⟨i, d', h1, h2, h3, rfl⟩ | ⟨h1, hn⟩
      · obtain ⟨a, o', q1, q2, q3, q4⟩ := sc.rel.slot i _ h3
        obtain ⟨a2, z1, z2⟩ := slotV i k h2
        rw [vs_at.mpr z1] at q1; cases q1
        exact ⟨a, o', z2, q2, q3, q4⟩
      · have q := st.rel.slot k t h1
        cases t with
        | und => trivial
        | dat d => obtain ⟨x, q1, q2⟩ := q; exact ⟨x, q1, Rp.mono sc.ext.same q2⟩
        | own d => obtain ⟨a, o', q1, q2, q3, q4⟩ := q; exact ⟨a, o', q1, stays k _ a o' h1 rfl q1 hn q2, sc.ext.new a (by rw [q2]; simp) q3, q4.mono sc.ext.same⟩
        | bor d => obtain ⟨a, o', q1, q2, q4⟩ := q; exact ⟨a, o', q1, stays k _ a o' h1 rfl q1 hn q2, q4.mono sc.ext.same⟩
        | nst d =>
          have zz : ∀ c, c ∈ zone H1 σ[k]? (.nst d) → (∀ u, H1 c = some u → H' c = some u) ∧ (G2 c = none → H1 c ≠ none → G' c = none) := fun c m => ⟨fun u e => nstk k d c u h1 m e, fun g e => sc.ext.new c e g⟩
          exact SlOk.mono (s := .nst d) q sc.ext.same (fun b u e _ e3 => by
            obtain ⟨a, o', q1, q2, _⟩ := q
            rw [q1] at e; cases e
            exact (zz _ (by rw [q1]; simp [zone])).1 u e3) (fun _ _ e => by cases e) fun d' b e m => by cases e; exact zz b m
    · have un : ∀ (k : Nat) (t : SV), e2[k]? = some t → t.isObj = true → ∃ t', e1[k]? = some t' ∧ t'.isObj = true ∧ (t.isOwn = true → ∃ d, t' = .own d) := fun k t h ho => by
        rcases e2at k t h with ⟨i, d', h1, h2, h3, rfl⟩ | ⟨h1, _⟩
        · obtain ⟨d, hd⟩ := ownP i k h1 h2
          exact ⟨_, hd, rfl, fun _ => ⟨d, rfl⟩⟩
        · exact ⟨t, h1, ho, fun z => by cases t <;> first | (cases z; done) | exact ⟨_, rfl⟩⟩
      obtain ⟨t1, q1, _, q2⟩ := un k _ h1 rfl
      obtain ⟨d1, rfl⟩ := q2 rfl
      obtain ⟨t2, q3, q4, _⟩ := un m t h2 h3
      exact s.rel.dist k m d1 t2 a q1 q3 q4 h4 h5
    · rcases e2at k t h with ⟨i, d', h1, h2, h3, rfl⟩ | ⟨h1, hn⟩
      · obtain ⟨d, hd⟩ := ownP i k h1 h2
        exact ⟨_, hd, zone_own m, fun d e => by cases e⟩
      · refine ⟨t, h1, zone_h m fun d a e1' e2' => ?_, fun d e => ⟨d, e⟩⟩
        subst e1'
        obtain ⟨a', o', q1, q2, q3, _⟩ := s.rel.nstRoot h1
        rw [e2'] at q1; cases q1
        rw [q2]; exact nstk k d a o' h1 (by rw [q3]; simp) q2
    · refine sc.keep b u (s.keep b u hb nb) fun z => ?_
      rcases ow b z with z | z
      · exact nb (z.le s.le)
      · rw [hb] at z; cases z
  refine ⟨ss, ?_⟩
  cases rv with
  | dat d => exact ok
  | own d => obtain ⟨a, o', q1, q2, q3, q4, q5⟩ := ok; exact ⟨a, o', q1, q2, q3, s.ext.dom a q4, q5⟩
  | slot j => exact (hns j rfl).elim
theorem fn_tE {io : List Bool} {F : DF} {P : PAF} {σ : St} {H : Hp} {Q : VK} {E : XK} (h : tE W (pFn io F P) σ H Q) : tCB (fun vs H Q => spF W io.length F (vs ++ []) H Q E) (tA W P) σ H Q := by
  obtain ⟨env, G, rv, env', r, p, k⟩ := h
  unfold pFn at p
  simp only [Option.bind_eq_bind, Option.bind_eq_some_iff, Prod.exists] at p
  obtain ⟨rvs, e1, h1, p⟩ := p
  split at p
  · rename_i hc
    simp only [Option.bind_eq_some_iff, Prod.exists] at p
    obtain ⟨pe, h2, rv0, outs, h3, e2, h4, p⟩ := p
    have hns : ∀ j, rv0 ≠ .slot j := fun j z => by subst z; cases p
    have pe' : rv0 = rv ∧ e2 = env' := by
      cases rv0 with
      | slot j => exact (hns j rfl).elim
      | dat d => cases p; exact ⟨rfl, rfl⟩
      | own d => cases p; exact ⟨rfl, rfl⟩
    obtain ⟨rfl, rfl⟩ := pe'
    refine ⟨env, G, rvs, e1, r, h1, fun vs H1 G1 s o => ?_⟩
    obtain ⟨G2, rp, kk⟩ := own_call r s o hc.1 hc.2 h2 h4
    refine ⟨by rw [List.append_nil, o.length, hc.1], ?_⟩
    rw [List.append_nil]
    refine ⟨pe, G2, rv0, outs, rp, h3, fun v H' G' sc ok => ?_⟩
    obtain ⟨q1, q2⟩ := kk v rv0 H' G' hns sc ok
    exact k v H' G' q1 q2
  · cases p
end
end Den
end

section
set_option Elab.async false
set_option linter.all false
set_option maxRecDepth 100000
set_option maxHeartbeats 2000000
/-! DenK2: calls of the program's own defs by keywords alone. -/
namespace Den
open PySem L2
def pick {α : Type} (is : List Nat) (xs : List α) : List α := is.filterMap (xs[·]?)
theorem pick_get {α : Type} {xs : List α} : ∀ {is : List Nat} (k : Nat), (∀ i ∈ is, i < xs.length) → (pick is xs)[k]? = is[k]?.bind (xs[·]?)
  | [], k, _ => by simp [pick]
  | i :: is, k, h => by
    have hi : i < xs.length := h i (by simp)
    have e : pick (i :: is) xs = xs[i] :: pick is xs := by simp [pick, List.filterMap_cons, hi]
    rw [e]
    cases k with
    | zero => simp [hi]
    | succ k => simpa using pick_get (is := is) k fun j hj => h j (List.mem_cons_of_mem _ hj)
theorem pick_len {α : Type} {xs : List α} : ∀ {is : List Nat}, (∀ i ∈ is, i < xs.length) → (pick is xs).length = is.length
  | [], _ => rfl
  | i :: is, h => by
    have hi : i < xs.length := h i (by simp)
    have e : pick (i :: is) xs = xs[i] :: pick is xs := by simp [pick, List.filterMap_cons, hi]
    rw [e]
    simp [pick_len (is := is) fun j hj => h j (List.mem_cons_of_mem _ hj)]
section
variable {X : Cx} {W : Pw} {σ : St} {H H' G' : Hp}
theorem RvsOk.pair : ∀ {vs : List V} {rvs : List RV} {i j : Nat} {d e : D} {v : V}, RvsOk W σ H H' G' vs rvs → i < j → rvs[i]? = some (.own d) → rvs[j]? = some (.own e) → vs[i]? = some v → vs[j]? ≠ some v
  | _, _, _, _, _, _, _, .nil, _, h, _, _ => by simp at h
  | v0 :: vs, r0 :: rvs, 0, j + 1, d, e, v, .cons h n t, _, h1, h2, h3 => by
    simp only [List.getElem?_cons_zero, Option.some.injEq] at h1 h3
    subst h3
    have q := n d e j h1 (by simpa using h2)
    simpa using q
  | v0 :: vs, r0 :: rvs, i + 1, j + 1, d, e, v, .cons h n t, hij, h1, h2, h3 => by
    have q := RvsOk.pair (i := i) (j := j) t (by omega) (by simpa using h1) (by simpa using h2) (by simpa using h3)
    simpa using q
theorem RvsOk.mk : ∀ {vs : List V} {rvs : List RV}, vs.length = rvs.length → (∀ (i : Nat) (v : V) (rv : RV), vs[i]? = some v → rvs[i]? = some rv → RvOk W σ H H' G' v rv) →
    (∀ (i j : Nat) (d e : D) (v : V), i < j → rvs[i]? = some (.own d) → rvs[j]? = some (.own e) → vs[i]? = some v → vs[j]? ≠ some v) → RvsOk W σ H H' G' vs rvs
  | [], [], _, _, _ => .nil
  | v :: vs, r :: rvs, hl, h, n => by
    refine .cons (h 0 v r rfl rfl) (fun d e i h1 h2 => ?_) (RvsOk.mk (by simpa using hl) (fun i v' r' h1 h2 => h (i + 1) v' r' (by simpa using h1) (by simpa using h2)) fun i j d e v' hij h1 h2 h3 => ?_)
    · subst h1
      have q := n 0 (i + 1) d e v (by omega) rfl (by simpa using h2) rfl
      simpa using q
    · have q := n (i + 1) (j + 1) d e v' (by omega) (by simpa using h1) (by simpa using h2) (by simpa using h3)
      simpa using q
theorem RvsOk.pick {vs : List V} {rvs : List RV} {is : List Nat} (h : RvsOk W σ H H' G' vs rvs) (hi : ∀ i ∈ is, i < rvs.length) (hn : is.Nodup) : RvsOk W σ H H' G' (pick is vs) (pick is rvs) := by
  have hl := h.length
  have hi' : ∀ i ∈ is, i < vs.length := fun i q => by rw [hl]; exact hi i q
  refine RvsOk.mk (by rw [pick_len hi, pick_len hi']) (fun k v rv h1 h2 => ?_) fun k m d e v hkm h1 h2 h3 h4 => ?_
  · rw [pick_get k hi'] at h1
    rw [pick_get k hi] at h2
    simp only [Option.bind_eq_some_iff] at h1 h2
    obtain ⟨i, a1, a2⟩ := h1
    obtain ⟨j, b1, b2⟩ := h2
    rw [a1] at b1; cases b1
    obtain ⟨v', c1, c2⟩ := h.get b2
    rw [a2] at c1; cases c1
    exact c2
  · rw [pick_get k hi'] at h3
    rw [pick_get k hi] at h1
    rw [pick_get m hi'] at h4
    rw [pick_get m hi] at h2
    simp only [Option.bind_eq_some_iff] at h1 h2 h3 h4
    obtain ⟨i, a1, a2⟩ := h1
    obtain ⟨j, b1, b2⟩ := h2
    obtain ⟨i', c1, c2⟩ := h3
    obtain ⟨j', d1, d2⟩ := h4
    rw [a1] at c1; cases c1
    rw [b1] at d1; cases d1
    have ne : i ≠ j := fun z => by
      subst z
      have hk : k < is.length := (List.getElem?_eq_some_iff.mp a1).1
      have hm : m < is.length := (List.getElem?_eq_some_iff.mp b1).1
      have := (List.getElem?_inj hk hn).mp (a1.trans b1.symm)
      omega
    rcases Nat.lt_or_ge i j with z | z
    · exact h.pair z a2 b2 c2 d2
    · exact h.pair (i := j) (j := i) (by omega) b2 a2 d2 c2
def aPick (is : List Nat) (P : PAF) : PAF := fun env => do
  let (rvs, e1) ← P env
  if rvs.length = is.length then some (pick is rvs, e1) else none
theorem pick_tA {is : List Nat} {P : PAF} {Q : List V → Hp → Prop} (hi : ∀ i ∈ is, i < is.length) (hn : is.Nodup) (h : tA W (aPick is P) σ H Q) : tA W P σ H fun vs H1 => vs.length = is.length ∧ Q (pick is vs) H1 := by
  obtain ⟨env, G, rvs, env', r, p, k⟩ := h
  unfold aPick at p
  simp only [Option.bind_eq_bind, Option.bind_eq_some_iff, Prod.exists] at p
  obtain ⟨rs, e1, h1, p⟩ := p
  split at p
  · rename_i hl
    cases p
    exact ⟨env, G, rs, _, r, h1, fun vs H1 G1 s o => ⟨by rw [o.length]; exact hl, k _ H1 G1 s (o.pick (fun i q => by rw [hl]; exact hi i q) hn)⟩⟩
  · cases p
/-! ### the keywords' values -/
abbrev PKD (X : Cx) (W : Pw) (P : PAF) (kws : List Keyword) : Prop := PK X kws (tA W P)
theorem PK.weak {kws : List Keyword} {t t' : TA} (h : PK X kws t) (k : ∀ σ H Q, t' σ H Q → t σ H Q) : PK X kws t' := ⟨fun pos pins s σ H Q I q => h.run pos pins s σ H Q I (k σ H Q q)⟩
theorem pkd_nil : PKD X W aNil [] := PK.weak pk_nil fun σ H Q ⟨env, G, rvs, env', r, p, k⟩ => by
  cases p
  exact k [] H G (Step.refl r) .nil
theorem pkd_cons {nm : Option Str} {e : Expr} {kp : Pos} {kws : List Keyword} {P : PF} {P' : PAF} (h : PD X W P e) (h' : PKD X W P' kws) : PKD X W (aCons P P') (⟨nm, e, kp⟩ :: kws) := PK.weak (pk_cons h h') fun σ H Q ⟨env, G, rvs, env', r, p, k⟩ => by
  unfold aCons at p
  simp only [Option.bind_eq_bind, Option.bind_eq_some_iff, Prod.exists, Option.some.injEq, Prod.mk.injEq] at p
  obtain ⟨rv, e1, h1, rs, e2, h2, rfl, rfl⟩ := p
  refine tE_one r h1 fun v H1 G1 s o => ⟨e1, G1, rs, e2, s.rel, h2, fun vs H2 G2 s2 o2 => ?_⟩
  refine k (v :: vs) H2 G2 (s.trans s2) (.cons (o.step s.rel (fun b z => s.ownNe r z) s2) (fun d e i ed er => ?_) (o2.base s.ext.dom))
  subst ed
  obtain ⟨a, ob, ea, ha, _⟩ := o
  rw [ea]
  exact o2.fresh (by rw [ha]; simp) er
theorem pkd_nope {kws : List Keyword} : PKD X W (fun _ => none) kws := ⟨fun pos pins s σ H Q I ⟨env, G, rv, env', r, p, k⟩ => by cases p⟩
/-! ### how they bind -/
def kws? : List Keyword → Option (List Str)
  | [] => some []
  | k :: ks => match k.arg, kws? ks with
    | some x, some xs => some (x :: xs)
    | _, _ => none
def KwOk (K : PySem.W.Frag) (fd : FuncData) (ps ks : List Str) (is : List Nat) : Prop := ∀ (s : Shared) (ws : List Value), ws.length = ks.length → BindsTo s fd ⟨[], ks.zip ws⟩ (ps.zip (pick is ws))
def kg {α : Type} (n : Nat) (is : List Nat) (us ws : List α) : List α := if us.length = 0 ∧ ws.length = n then pick is ws else []
theorem pick_vals {is : List Nat} : ∀ {zs : List V} {ws : List Value}, Vals zs ws → Vals (pick is zs) (pick is ws) := by
  intro zs ws r
  induction is with
  | nil => exact .nil
  | cons i is ih =>
    have hl := r.length
    by_cases hi : i < zs.length
    · have hj : i < ws.length := by omega
      have e1 : pick (i :: is) zs = zs[i] :: pick is zs := by simp [pick, List.filterMap_cons, hi]
      have e2 : pick (i :: is) ws = ws[i] :: pick is ws := by simp [pick, List.filterMap_cons, hj]
      rw [e1, e2]
      refine .cons ?_ ih
      clear e1 e2 ih
      induction r generalizing i with
      | nil => simp at hi
      | cons a t ih2 =>
        cases i with
        | zero => exact a
        | succ i => exact ih2 i (by simpa using t.length) (by simpa using hi) (by simpa using hj)
    · have hj : ¬ i < ws.length := by omega
      have e1 : pick (i :: is) zs = pick is zs := by simp [pick, List.filterMap_cons, hi]
      have e2 : pick (i :: is) ws = pick is ws := by simp [pick, List.filterMap_cons, hj]
      rw [e1, e2]
      exact ih
theorem kbinds_of {K : PySem.W.Frag} {fd : FuncData} {ps ks : List Str} {is : List Nat} (hp : ps ≠ []) (h : KwOk K fd ps ks is) : KBinds K fd ps ks (kg ks.length is) (kg ks.length is) := by
  refine ⟨fun s us ws _ hl => ?_, fun {vs us zs ws} r rz => ?_⟩
  · unfold kg at hl ⊢
    split at hl
    · rename_i hc
      rw [if_pos hc]
      have : us = [] := List.length_eq_zero_iff.mp hc.1
      subst this
      exact h s ws hc.2
    · exact (hp (List.length_eq_zero_iff.mp hl.symm)).elim
  · unfold kg
    rw [r.length, rz.length]
    split
    · exact pick_vals rz
    · exact .nil
theorem pe_callVK0 {x : Str} {p pos : Pos} {a : Addr} {ks : List Str} {kws : List Keyword} {tk : TA} {r : List V → List V → Hp → VK → Prop} (hc : CallRK X (.ref a) ks r) (hg : Gl X x) (hm : X.mg x = some (.ref a)) (hk : PySem.W.keepIn X.K (.ref a) = true) (hkw : PK X kws tk)
    (hks : kws? kws = some ks) (hdb : (x == ("__debug__" : Str)) = false) : PE X (.Call (.Name x p) [] kws pos) (tCKw r tNil tk) := by
  have kk : ∀ {kws : List Keyword} {ks : List Str}, kws? kws = some ks → (backToKw pos (keywordEach kws X.env)).all (·.1.isSome) = true ∧ (backToKw pos (keywordEach kws X.env)).any (·.1.isNone) = false ∧ (backToKw pos (keywordEach kws X.env)).filterMap (·.1) = ks := by
    intro kws
    induction kws with
    | nil => intro ks h; cases h; exact ⟨rfl, rfl, rfl⟩
    | cons k r ih =>
      intro ks h
      obtain ⟨nm, e, kp⟩ := k
      cases nm with
      | none => simp [kws?] at h
      | some nm =>
        cases e2 : kws? r with
        | none => simp [kws?, e2] at h
        | some xs =>
          simp only [kws?, e2, Option.some.injEq] at h
          subst h
          obtain ⟨a1, a2, a3⟩ := ih e2
          have e3 : backToKw pos (keywordEach (⟨some nm, e, kp⟩ :: r) X.env) = (some nm, (do let v ← eval e X.env; standAt pos; pure v)) :: backToKw pos (keywordEach r X.env) := rfl
          rw [e3]
          refine ⟨by simpa using a1, by simpa using a2, by simp [a3]⟩
  obtain ⟨q1, q2, q3⟩ := kk hks
  refine ⟨fun pins s σ H Q I h => ?_⟩
  refine wpAny_Call_Name_kw (ld_glob I hg hm ?_ hdb)
  refine PySem.W.callWith_KW0 (h₀ := X.base) I.ok.mod.kin hk q1 ?_ (by rw [q2]; rfl)
  refine thn (hkw.run pos pins s σ H _ I h) fun ws s2 ⟨zs, H2, I2, rz, q⟩ => ⟨I2.kIn, ?_⟩
  rw [q3]
  exact hc pins s2 σ H2 [] zs [] ws Q I2 .nil rz q
theorem fnk_tE {io : List Bool} {F : DF} {P : PAF} {is : List Nat} {Q : VK} {E : XK} (hi : ∀ i ∈ is, i < is.length) (hn : is.Nodup) (h : tE W (pFn io F (aPick is P)) σ H Q) :
    tCKw (fun vs zs H Q => spF W io.length F (kg is.length is vs zs) H Q E) tNil (tA W P) σ H Q := by
  have q : tCB (fun vs H Q => spF W io.length F (vs ++ []) H Q E) (tA W (aPick is P)) σ H Q := fn_tE h
  have q2 : tA W P σ H fun vs H1 => vs.length = is.length ∧ spF W io.length F (pick is vs ++ []) H1 Q E := pick_tA hi hn q
  show tA W P σ H fun zs H2 => spF W io.length F (kg is.length is [] zs) H2 Q E
  obtain ⟨env, G, rvs, env', r, p, k⟩ := q2
  refine ⟨env, G, rvs, env', r, p, fun vs H1 G1 s o => ?_⟩
  obtain ⟨k1, k2⟩ := k vs H1 G1 s o
  unfold kg
  rw [if_pos ⟨rfl, k1⟩]
  simpa using k2
end
end Den
end

section
set_option Elab.async false
set_option linter.all false
set_option maxRecDepth 100000
set_option maxHeartbeats 2000000
/-! DenK3: own classes: fields read and stored, objects made. -/
namespace Den
open PySem L2
section
variable {X : Cx} {W : Pw}
theorem RpF.get {G : Hp} {f : Str} {d : D} : ∀ {fv : List (Str × V)} {fd : List (Str × D)}, RpF W G fv fd → fd.lookup f = some d → ∃ v, fv.lookup f = some v ∧ Rp W G v d
  | _, _, .nil, h => by cases h
  | (k, v) :: fv, (_, d') :: fd, .cons a r, h => by
    rw [List.lookup_cons] at h ⊢
    by_cases e : f == k
    · simp only [e] at h ⊢
      cases h
      exact ⟨v, rfl, a⟩
    · have e' : (f == k) = false := by simpa using e
      simp only [e'] at h ⊢
      exact RpF.get r h
theorem RpF.length {G : Hp} : ∀ {fv : List (Str × V)} {fd : List (Str × D)}, RpF W G fv fd → fv.length = fd.length
  | _, _, .nil => rfl
  | _ :: _, _ :: _, .cons _ r => by simp [RpF.length r]
def putD (f : Str) (d : D) : List (Str × D) → List (Str × D)
  | [] => [(f, d)]
  | (g, x) :: r => if g = f then (g, d) :: r else (g, x) :: putD f d r
theorem RpF.put {G : Hp} {f : Str} {v : V} {d : D} (h : Rp W G v d) : ∀ {fv : List (Str × V)} {fd : List (Str × D)}, RpF W G fv fd → RpF W G (putF f v fv) (putD f d fd)
  | _, _, .nil => .cons h .nil
  | (k, x) :: fv, (_, y) :: fd, .cons a r => by
    show RpF W G (if k = f then (k, v) :: fv else (k, x) :: putF f v fv) (if k = f then (k, d) :: fd else (k, y) :: putD f d fd)
    split
    · exact .cons h r
    · exact .cons a (RpF.put h r)
/-! ### e.f -/
/-- ok: which fields may be read of objects of which class -/
def pFld (ok : Nat → Str → Bool) (f : Str) (P : PF) : PF := fun env => do
  let (rv, e1) ← P env
  let d ← rv.cont e1
  match d with
  | .obj c fs => if ok c f then (fs.lookup f).map fun z => (.dat z, e1) else none
  | _ => none
theorem fld_tE {ok : Nat → Str → Bool} {f : Str} {P : PF} {σ : L2.St} {H : Hp} {Q : VK} (hok : ∀ c, ok c f = true → Cls W.K (W.cl c) ∧ NoAttr W.K (W.cl c) f) (h : tE W (pFld ok f P) σ H Q) : tFld W.K (tE W P) f σ H Q := by
  obtain ⟨env, G, rv, env', r, p, k⟩ := h
  unfold pFld at p
  simp only [Option.bind_eq_bind, Option.bind_eq_some_iff, Prod.exists] at p
  obtain ⟨rv0, e1, h1, d, h2, p⟩ := p
  refine tE_one r h1 fun v H1 G1 s o => ?_
  split at p
  · rename_i c fs
    split at p
    · rename_i hc
      simp only [Option.map_eq_some_iff, Prod.mk.injEq] at p
      obtain ⟨z, h3, rfl, rfl⟩ := p
      obtain ⟨a, dx, fv, rfl, ha, rf⟩ := (o.vw s.rel h2).obj s.rel.sub
      obtain ⟨x, h4, h5⟩ := rf.get h3
      obtain ⟨q1, q2⟩ := hok c hc
      exact ⟨a, _, dx, fv, x, rfl, ha, q1, q2, h4, k x H1 G1 s h5⟩
    · cases p
  · cases p
def baseB : Expr → Bool
  | .Call (.Name _ _) [] [] _ => false
  | _ => true
theorem base_any {o : Expr} {name : Str} {env : Env} {m : Sem Value} (h : baseB o = true) : attributeBase o name env m = m := by
  cases o <;> try rfl
  rename_i f as ks pos
  cases f <;> try rfl
  cases as <;> try rfl
  cases ks <;> first | rfl | cases h
theorem pd_fld {ok : Nat → Str → Bool} {f : Str} {e : Expr} {P : PF} {pos : Pos} (hK : X.K = W.K) (hok : ∀ c, ok c f = true → Cls W.K (W.cl c) ∧ NoAttr W.K (W.cl c) f) (he : PD X W P e) (hb : baseB e = true) : PD X W (pFld ok f P) (.Attribute e f pos) :=
  PE.weak (pe_fld he (base_any hb)) fun σ H Q h => by rw [hK]; exact fld_tE hok h
/-! ### self.f = e -/
def sFldF (np i : Nat) (ok : Nat → Str → Bool) (f : Str) (P : PF) : SF := fun env => do
  let (rv, e1) ← P env
  if ownB np env e1 then
    match rv.dt, e1[i]? with
    | some y, some (.own (.obj c fs)) => if ok c f && decide (fs.length < 900) then some (.nx (e1.set i (.own (.obj c (putD f y fs))))) else none
    | _, _ => none
  else none
theorem fldS_tS {E : Entry} {i : Nat} {ok : Nat → Str → Bool} {f : Str} {P : PF} {D : Ends} {σ : L2.St} {H : Hp} (hok : ∀ c, ok c f = true → Cls W.K (W.cl c) ∧ NoAttr W.K (W.cl c) f) (h : tS W E (sFldF E.np i ok f P) D σ H) : sFld W.K (tVar i) (tE W P) f D σ H := by
  obtain ⟨env, G, o, r0, p, k⟩ := h
  have r := r0.rel
  unfold sFldF at p
  simp only [Option.bind_eq_bind, Option.bind_eq_some_iff, Prod.exists] at p
  obtain ⟨rv, e1, h1, p⟩ := p
  split at p
  · rename_i hb
    split at p
    · rename_i y c fs hy hi
      split at p
      · rename_i hc
        simp only [Bool.and_eq_true, decide_eq_true_eq] at hc
        cases p
        refine tE_one r h1 fun v H1 G1 s q => ?_
        have fz : ∃ G2, Step W σ env H G e1 H1 G2 ∧ Rp W G2 v y := by
          cases rv with
          | dat d => cases hy; exact ⟨G1, s, q⟩
          | slot j => cases hy
          | own d =>
            cases hy
            obtain ⟨a, ob, rfl, ha, ga, h0, hob⟩ := q
            obtain ⟨s7, q7⟩ := Step.thaw r s ha ga h0 hob
            exact ⟨_, s7, q7⟩
        obtain ⟨G2, s2, q2⟩ := fz
        obtain ⟨a, ob, a1, a2, a3, a4⟩ := s2.rel.slot i _ hi
        cases a4 with
        | obj rf =>
          rename_i dx fv
          obtain ⟨q3, q4⟩ := hok c hc.1
          refine ⟨.ref a, a1, a, _, dx, fv, rfl, a2, q3, q4, by rw [rf.length]; omega, ?_⟩
          have sw := Step.write (d := .obj c (putD f y fs)) s2.rel hi a1 a2 a3 (.obj (dx := dx) (RpF.put q2 rf))
          refine k σ _ G2 (r0.trans ((s2.toS (np := E.np) r (ownB_ok hb)).trans (sw.toS s2.rel fun j d hj e => ?_))) s2.ext.same
          by_cases z : j = i
          · subst z
            exact ⟨_, by rw [List.getElem?_set_self (List.getElem?_eq_some_iff.mp e).1]⟩
          · exact ⟨d, by rw [List.getElem?_set_ne (Ne.symm z)]; exact e⟩
      · cases p
    · cases p
  · cases p
theorem RvsOk.stepAll {σ : L2.St} {env env' : Env'} {H H1 G1 H2 G2 : Hp} (r : Rel W σ env H1 G1) (hn : ∀ b, IsOwn σ env b → H b ≠ none) (s : Step W σ env H1 G1 env' H2 G2) : ∀ {vs : List V} {rvs : List RV}, RvsOk W σ H H1 G1 vs rvs → RvsOk W σ H H2 G2 vs rvs
  | _, _, .nil => .nil
  | _, _, .cons h n t => .cons (h.step r hn s) n (RvsOk.stepAll r hn s t)
/-! ### C(..) -/
def pMk (c : Nat) (io : List Bool) (F : DF) (P : PAF) : PF := fun env => do
  let (rvs, e1) ← P env
  if io.length = rvs.length ∧ onceB (true :: io) (.own (.obj c []) :: rvs) [] = true then
    let pe ← passE e1 (true :: io) (.own (.obj c []) :: rvs)
    let (rv, outs) ← F pe
    let e2 ← backE e1 (true :: io) (.own (.obj c []) :: rvs) outs
    match rv, outs with
    | .dat .non, .own d :: _ => some (.own d, e2)
    | _, _ => none
  else none
theorem mk_tE {c : Nat} {io : List Bool} {F : DF} {P : PAF} {σ : L2.St} {H : Hp} {Q : VK} {E : XK} (h : tE W (pMk c io F P) σ H Q) :
    tCB (fun vs H Q => ∀ x dx, H x = none → H dx = none → dx ≠ x → spF W (io.length + 1) F (.ref x :: (vs ++ [])) (upd (upd H dx (.own x)) x (.ins (W.cl c) dx [])) (fun v H2 => v = .non ∧ Q (.ref x) H2) E) (tA W P) σ H Q := by
  obtain ⟨env, G, rv, env', r, p, k⟩ := h
  unfold pMk at p
  simp only [Option.bind_eq_bind, Option.bind_eq_some_iff, Prod.exists] at p
  obtain ⟨rvs, e1, h1, p⟩ := p
  split at p
  · rename_i hc
    simp only [Option.bind_eq_some_iff, Prod.exists] at p
    obtain ⟨pe, h2, rv0, outs, h3, e2, h4, p⟩ := p
    split at p
    · rename_i d outs'
      cases p
      refine ⟨env, G, rvs, e1, r, h1, fun vs H1 G1 s o x dx hx hdx hne => ?_⟩
      have hx' : upd H1 dx (.own x) x = none := by rw [upd_ne (Ne.symm hne)]; exact hx
      -- the two new objects
      have gx : G1 x = none := s.rel.sub.free hx
      have gd : G1 dx = none := s.rel.sub.free hdx
      have kp : Same H1 (upd (upd H1 dx (.own x)) x (.ins (W.cl c) dx [])) := (same_upd hdx).trans (same_upd hx')
      have ext : Ext H1 G1 (upd (upd H1 dx (.own x)) x (.ins (W.cl c) dx [])) G1 := ⟨Same.refl _, fun _ _ h => h, fun b hb => by
        by_cases z : b = x
        · rw [z]; exact hx
        · rw [upd_ne z] at hb
          by_cases z2 : b = dx
          · rw [z2]; exact hdx
          · rw [upd_ne z2] at hb; exact hb⟩
      have s1 : Step W σ e1 H1 G1 e1 (upd (upd H1 dx (.own x)) x (.ins (W.cl c) dx [])) G1 := ⟨Le.refl _, s.rel.grow kp ext (s.rel.sub.trans kp), ext, fun b u hb _ => kp b u hb⟩
      have s' := s.trans s1
      have hxH : H x = none := s.ext.dom x hx
      have o' : RvsOk W σ H (upd (upd H1 dx (.own x)) x (.ins (W.cl c) dx [])) G1 (.ref x :: vs) (.own (.obj c []) :: rvs) := by
        refine .cons ⟨x, _, rfl, upd_same, gx, hxH, .obj .nil⟩ (fun d e i _ hr z => ?_) (RvsOk.stepAll s.rel (fun b q => s.ownNe r q) s1 o)
        obtain ⟨u, u1, u2⟩ := o.get hr
        rw [z] at u1; cases u1
        obtain ⟨a, ob, ea, ha, _⟩ := u2
        cases ea
        rw [hx] at ha; cases ha
      obtain ⟨G2, rp, kk⟩ := own_call r s' o' (by simpa using hc.1) hc.2 h2 h4
      refine ⟨by simp [o.length, hc.1], ?_⟩
      rw [List.append_nil]
      refine ⟨pe, G2, .dat .non, _, rp, h3, fun v H' G' sc ok => ?_⟩
      cases ok
      refine ⟨rfl, ?_⟩
      obtain ⟨q1, _⟩ := kk .non (.dat .non) H' G' (fun j z => nomatch z) sc .non
      obtain ⟨a, ob, a1, a2, a3, a4⟩ := sc.rel.slot 0 _ rfl
      have ea : a = x := by
        have : (V.ref x) = .ref a := by simpa using a1
        cases this; rfl
      subst ea
      exact k _ H' G' q1 ⟨a, ob, rfl, a2, a3, hxH, a4⟩
    · cases p
  · cases p
end
end Den
end

section
set_option Elab.async false
set_option linter.all false
set_option maxRecDepth 100000
set_option maxHeartbeats 2000000
/-! DenK4: methods of own classes. -/
namespace Den
open PySem L2
section
variable {X : Cx} {W : Pw}
/-- a method's promise by the class that is met -/
def tMethA (W : Pw) (m : Str) (Kn : Nat → Prop) (R : Nat → List V → Hp → VK → Prop) (ta : TE) (t : TA) : TE := fun σ H Q => ta σ H fun x H1 => ∃ c a dx fs, Kn c ∧ x = .ref a ∧ H1 a = some (.ins (W.cl c) dx fs) ∧ fs.lookup m = none ∧ t σ H1 fun vs H2 => R c (x :: vs) H2 Q
theorem pe_methA {pl : Sem Bool} {o e : Expr} {es : List Expr} {m : Str} {apos pos : Pos} {ta : TE} {t : TA} {Kn : Nat → Prop} {R : Nat → List V → Hp → VK → Prop} (he : PE X o ta) (ok : ∀ c, Kn c → Cls X.K (W.cl c) ∧ ∃ f, Meth X.K (W.cl c) m f ∧ CallR X (.ref f) (R c))
    (ha : PA X (e :: es) t) (hs : (e :: es).all notStar = true)
    (ht : eval (.Call (.Attribute o m apos) (e :: es) [] pos) X.env = (do
      let ov ← eval o X.env
      standAt apos.atName
      let (f, first) ← holding [ov] (getMethod ov m pl)
      callWith pos f first (backTo pos (starEach (e :: es) X.env)) (backToKw pos (keywordEach [] X.env)))) :
    PE X (.Call (.Attribute o m apos) (e :: es) [] pos) (tMethA W m Kn R ta t) := by
  have h2 := hs
  rw [List.all_cons, Bool.and_eq_true] at h2
  constructor
  intro pins s σ H Q I h
  apply PySem.W.methodCall_KW (pl := pl) _ ht
  apply thn (he.run pins s σ H _ I h)
  rintro u s1 ⟨x, H1, I1, rx, c, a, dx, fs, kc, ex, ea, l, q⟩
  subst ex
  cases (show u = Value.ref a from rx)
  obtain ⟨q1, f, q2, q3⟩ := ok c kc
  apply getmeth_ok I1 ea q1 q2 l
  apply PySem.W.callWith_K (first := [.ref a]) (h₀ := X.base) I.ok.mod.kin q2.kp _ (star_plain h2.1) (noStars h2.2)
  exact thn (ha.run pos pins s1 σ H1 _ I1 q) fun us s2 ⟨vs, H2, I2, r, q4⟩ => ⟨I2.kIn, q3 pins s2 σ H2 (.ref a :: vs) (.ref a :: us) Q I2 (.cons rfl r) q4⟩
theorem pe_methA0 {pl : Sem Bool} {o : Expr} {m : Str} {apos pos : Pos} {ta : TE} {Kn : Nat → Prop} {R : Nat → List V → Hp → VK → Prop} (he : PE X o ta) (ok : ∀ c, Kn c → Cls X.K (W.cl c) ∧ ∃ f, Meth X.K (W.cl c) m f ∧ CallR X (.ref f) (R c))
    (ht : eval (.Call (.Attribute o m apos) [] [] pos) X.env = (do
      let ov ← eval o X.env
      standAt apos.atName
      let (f, first) ← holding [ov] (getMethod ov m pl)
      callWith pos f first (backTo pos (starEach [] X.env)) (backToKw pos (keywordEach [] X.env)))) :
    PE X (.Call (.Attribute o m apos) [] [] pos) (tMethA W m Kn R ta tNil) := by
  constructor
  intro pins s σ H Q I h
  apply PySem.W.methodCall_KW (pl := pl) _ ht
  apply thn (he.run pins s σ H _ I h)
  rintro u s1 ⟨x, H1, I1, rx, c, a, dx, fs, kc, ex, ea, l, q⟩
  subst ex
  cases (show u = Value.ref a from rx)
  obtain ⟨q1, f, q2, q3⟩ := ok c kc
  apply getmeth_ok I1 ea q1 q2 l
  exact PySem.W.callWith_K0 (first := [.ref a]) I1.kIn q2.kp (q3 pins s1 σ H1 [.ref a] [.ref a] Q I1 (.cons rfl .nil) q)
theorem method_eq {o : Expr} {m : Str} {apos pos : Pos} {args : List Expr} {env : Env} (hb : baseB o = true) (hf : args.all notStar = true) (hn : args.length < 30) (hl : (apos.endLine == pos.line) = true) : eval (.Call (.Attribute o m apos) args [] pos) env = (do
      let ov ← eval o env
      standAt apos.atName
      let (f, first) ← holding [ov] (getMethod ov m (do return (← importBound o env).getD true))
      callWith pos f first (backTo pos (starEach args env)) (backToKw pos (keywordEach [] env))) := by
  have hfew := bm_few (pos := pos) (env := env) hf hn
  have hform : methodCallForm (args.length + ([] : List Keyword).length) (backTo pos (starEach args env)) (backToKw pos (keywordEach [] env)) = true := hfew
  have hpos : methodCallPos true o env apos pos = pure pos := by unfold methodCallPos; simp [hl]
  rw [arm_eval_Call, base_any hb]
  congr 1
  funext ov
  congr 1
  funext u
  unfold methodCall
  rw [hform]
  rw [hpos]
  rfl
/-- the object ahead of the arguments -/
def aSelfM (c : Nat) (m : Str) (P : PF) (P' : PAF) : PAF := fun env => do
  let (ra, e1) ← P env
  match ra with
  | .dat (.obj c' fs) => if c' = c ∧ fs.lookup m = none then (P' e1).map fun r => (ra :: r.1, r.2) else none
  | _ => none
/-- ms: the method of each class: which parameters behind self it changes, what it makes -/
def pMeth (ms : Nat → Option (List Bool × DF)) (m : Str) (P : PF) (P' : PAF) : PF := fun env => match P env with
  | some (.dat (.obj c _), _) => (match ms c with
    | some q => pFn (false :: q.1) q.2 (aSelfM c m P P') env
    | none => none)
  | _ => none
theorem RpF.none {G : Hp} {f : Str} : ∀ {fv : List (Str × V)} {fd : List (Str × D)}, RpF W G fv fd → fd.lookup f = Option.none → fv.lookup f = Option.none
  | _, _, .nil, _ => rfl
  | (k, v) :: fv, (_, d') :: fd, .cons a r, h => by
    rw [List.lookup_cons] at h ⊢
    by_cases e : f == k
    · simp only [e] at h; cases h
    · have e' : (f == k) = false := by simpa using e
      simp only [e'] at h ⊢
      exact RpF.none r h
theorem meth_tE {ms : Nat → Option (List Bool × DF)} {m : Str} {P : PF} {P' : PAF} {σ : St} {H : Hp} {Q : VK} {E : XK} (h : tE W (pMeth ms m P P') σ H Q) :
    tMethA W m (fun c => (ms c).isSome = true) (fun c vs H Q => ∃ q, ms c = some q ∧ spF W (q.1.length + 1) q.2 (vs ++ []) H Q E) (tE W P) (tA W P') σ H Q := by
  obtain ⟨env, G, rv, env', r, p, k⟩ := h
  unfold pMeth at p
  split at p
  · rename_i c fs0 e0 hP
    split at p
    · rename_i qq hq
      have h2 : tE W (pFn (false :: qq.1) qq.2 (aSelfM c m P P')) σ H Q := ⟨env, G, rv, env', r, p, k⟩
      have h3 : tA W (aSelfM c m P P') σ H fun vs H1 => spF W (qq.1.length + 1) qq.2 (vs ++ []) H1 Q E := fn_tE h2
      clear h2 k p hP r
      obtain ⟨env, G, rvs, env', r, p, k⟩ := h3
      unfold aSelfM at p
      simp only [Option.bind_eq_bind, Option.bind_eq_some_iff, Prod.exists] at p
      obtain ⟨ra, e1, h1, p⟩ := p
      split at p
      · rename_i c' fs
        split at p
        · rename_i hc
          simp only [Option.map_eq_some_iff, Prod.exists, Prod.mk.injEq] at p
          obtain ⟨rs, e2, h4, rfl, rfl⟩ := p
          refine tE_one r h1 fun v H1 G1 s o => ?_
          have o' : Rp W G1 v (.obj c' fs) := o
          obtain ⟨a, dx, fv, rfl, ha, rf⟩ := (Vw.rp (H := H1) o').obj s.rel.sub
          refine ⟨c', a, dx, fv, (by show (ms c').isSome = true; rw [hc.1, hq]; rfl), rfl, ha, rf.none hc.2, e1, G1, rs, e2, s.rel, h4, fun vs H2 G2 s2 o2 => ?_⟩
          refine ⟨qq, by rw [hc.1]; exact hq, ?_⟩
          refine k (.ref a :: vs) H2 G2 (s.trans s2) (.cons (Rp.mono s2.ext.same o') (fun d e i ed _ => nomatch ed) (o2.base s.ext.dom))
        · cases p
      · cases p
    · cases p
  · cases p
end
end Den
end

section
set_option Elab.async false
set_option linter.all false
set_option maxRecDepth 100000
set_option maxHeartbeats 4000000
/-! DenK5: operators, comparisons, repr, truth of own objects. -/
namespace Den
open PySem L2
theorem relV_ni {v : V} {u : Value} (r : RelV v u) : u ≠ .notImplemented := by
  cases v <;> (rintro rfl; first | (obtain ⟨_, z⟩ := r; cases z; done) | (cases r; done))
theorem cmpBack_of {Q : Value → Shared → Prop} {u : Value} {s : Shared} (h : u ≠ .notImplemented) (q : Q u s) : PySem.W.CmpBack Q u s := by
  cases u <;> first | exact q | exact (h rfl).elim
section
variable {X : Cx} {W : Pw}
/-- an own def at a call within an operator -/
theorem own_back {f : Addr} {r : List V → Hp → VK → Prop} (h : CallR X (.ref f) r) {pins : List (Addr × Obj)} {s : Shared} {σ : L2.St} {H : Hp} {xs : List V} {us : List Value} {Q : VK} (I : Inv X pins σ H s) (rr : Vals xs us) (q : r xs H Q) :
    wpAny (model X.prog X.w) X.A (call (.ref f) us) (PySem.W.CmpBack (EP X pins σ Q)) X.xe s :=
  wpAny_mono (h pins s σ H xs us Q I rr q) (fun u s' e => by
    obtain ⟨v, H', I', rv, q'⟩ := e
    exact cmpBack_of (relV_ni rv) ⟨v, H', I', rv, q'⟩) fun _ _ e => e

/-- the built-in types that may stand beside an own object in its operators -/
structure OwnBin (K : PySem.W.Frag) (C f : Addr) (nm : String) : Prop where
  at_ : PySem.W.findIn K (.ref C) (PySem.dunder nm) = some (some (.ref f))
  fn : PySem.W.isFn K (.ref f) = true
  self : PySem.W.selfFirst K C = true
  refl : ∃ rc, PySem.W.findIn K (.ref C) (dunderR nm) = some rc ∧ (rc = none ∨ ∃ g : Addr, rc = some (.ref g))
  int1 : ∃ fo, PySem.W.findIn K (.type "int") (PySem.dunder nm) = some fo
  int2 : ∃ ro, PySem.W.findIn K (.type "int") (dunderR nm) = some ro
  sub : PySem.W.subIn K (.type "int") (.ref C) = some false
/-- x op y, x an own object, y of the same class or an int -/
def rOwnL (W : Pw) (l : Nat → Option DF) : R2 := fun x y H Q => ∃ c a dx fs F, l c = some F ∧ x = .ref a ∧ H a = some (.ins (W.cl c) dx fs) ∧ ((∃ b dy gs, y = .ref b ∧ H b = some (.ins (W.cl c) dy gs)) ∨ ∃ i, y = .int i) ∧ spF W 2 F [x, y] H Q fun _ _ _ => False
/-- what an own def at f makes of n arguments -/
def OwnFn (X : Cx) (W : Pw) (n : Nat) (f : Addr) (F : DF) : Prop := CallR X (.ref f) fun vs H Q => spF W n F vs H Q fun _ _ _ => False
theorem opr_ownL {l : Nat → Option DF} {op : Operator} (ok : ∀ c F, l c = some F → ∃ f, OwnBin X.K (W.cl c) f op.info.2 ∧ OwnFn X W 2 f F) : OpR X (binaryOp op) (rOwnL W l) := by
  intro pins s σ H x y v u Q I rx ry h
  obtain ⟨c, a, dx, fs, F, hl, rfl, ha, hy, hq⟩ := h
  obtain ⟨f, B, cr⟩ := ok c F hl
  cases (show v = Value.ref a from rx)
  obtain ⟨mA, J, _⟩ := ins_get I.hok ha
  obtain ⟨od, J, _⟩ := J.look
  obtain ⟨m, hF⟩ := I.fr
  have go := own_back cr I (.cons (show RelV (V.ref a) (Value.ref a) from rfl) (.cons ry .nil)) hq
  rcases hy with ⟨b, dy, gs, rfl, hb⟩ | ⟨i, rfl⟩
  · cases (show u = Value.ref b from ry)
    obtain ⟨mB, J', _⟩ := ins_get I.hok hb
    obtain ⟨od', J', _⟩ := J'.look
    exact PySem.W.binop_K hF I.ok.mod.kin J J'.type B.self B.at_ B.fn go
  · obtain ⟨t, rfl⟩ := (show ∃ t, u = Value.int i t from ry)
    obtain ⟨rc, r1, r2⟩ := B.refl
    obtain ⟨fo, h1⟩ := B.int1
    obtain ⟨ro, h2⟩ := B.int2
    exact PySem.W.ksp_binT hF I.ok.mod.kin J rfl B.self B.at_ B.fn r1 r2 h1 h2 B.sub go

end
/-! ### an own def called within a built-in -/
section
variable {X : Cx} {W : Pw}
theorem env0_at {A : Around} {pins : List (Addr × Obj)} {σ : L2.St} {H : Hp} {s : Shared} (I : Inv X pins σ H s) (hf : A.frames = X.A.frames) : Env0 X.prog X.w X.K X.mg X.base A X.stack s H := by
  have e := I.env0
  exact ⟨by rw [hf]; exact e.frames, e.mod, e.bs, e.bsz, e.funs, e.frf, e.hok, e.bare⟩
theorem FnG.at_ {k : Nat} {f : Addr} {fd : FuncData} {ps : List Str} {sp : Sp} {E : XK} {A : Around} {pins : List (Addr × Obj)} {s : Shared} {σ : L2.St} {H : Hp} {vs : List V} {us : List Value} {Q : VK}
    (F : FnG X.prog X.w X.K X.mg X.base k f fd ps sp) (hb : Binds X.K fd ps []) (hg : A.guards = some []) (hr : Room k A) (hf : A.frames = X.A.frames) (I : Inv X pins σ H s) (r : Vals vs us) (h : sp vs H Q E) :
    wpAny (model X.prog X.w) A (call (.ref f) us) (EP X pins σ Q) X.xe s := by
  have ll : us.length = ps.length := r.length ▸ F.len _ _ _ _ h
  apply wpAny_call
  have bb := hb s us I.kIn (by simpa using ll)
  apply codeAny_mono (F.run A X.stack s H ⟨us, []⟩ us vs Q E hg hr (env0_at I hf) (by simpa using bb) r h)
  intro res s' hq
  cases res with
  | error e => exact hq.elim
  | ok fl =>
    cases fl with
    | ret u => exact I.after hq
    | next => exact hq.elim
    | brk => exact hq.elim
    | cont => exact hq.elim
/-- an own def at f that takes n, and what it makes -/
def OwnAt (X : Cx) (W : Pw) (n : Nat) (f : Addr) (F : DF) : Prop := ∃ k fd ps, FnG X.prog X.w X.K X.mg X.base k f fd ps (spF W n F) ∧ Room (k + 1) X.A ∧ Binds X.K fd ps []
theorem OwnAt.callR {n : Nat} {f : Addr} {F : DF} (h : OwnAt X W n f F) (hg : X.A.guards = some []) : OwnFn X W n f F := by
  obtain ⟨k, fd, ps, G, hr, hb⟩ := h
  intro pins s σ H vs us Q I r q
  exact G.at_ hb hg (hr.mono (Nat.le_succ k)) rfl I r q
theorem OwnAt.in1 {n : Nat} {f : Addr} {F : DF} (h : OwnAt X W n f F) (hg : X.A.guards = some []) {pins : List (Addr × Obj)} {s : Shared} {σ : L2.St} {H : Hp} {vs : List V} {us : List Value} {Q : VK} (I : Inv X pins σ H s) (r : Vals vs us)
    (q : spF W n F vs H Q fun _ _ _ => False) : wpAny (model X.prog X.w) X.A.in1 (call (.ref f) us) (EP X pins σ Q) X.xe s := by
  obtain ⟨k, fd, ps, G, hr, hb⟩ := h
  exact G.at_ hb hg hr.in1 rfl I r q

/-! ### int op own -/
structure OwnRBin (K : PySem.W.Frag) (C g : Addr) (nm : String) : Prop where
  at_ : PySem.W.findIn K (.ref C) (dunderR nm) = some (some (.ref g))
  fn : PySem.W.isFn K (.ref g) = true
  self : PySem.W.selfFirst K C = true
  left : ∃ f : Addr, PySem.W.findIn K (.ref C) (PySem.dunder nm) = some (some (.ref f))
  sub : PySem.W.subIn K (.ref C) (.type "int") = some false
/-- an int's own operator declines an own object -/
structure IntDecl (op : Operator) (id : String) : Prop where
  fills : fillsNumberSlot (.type "int") op.info.2 = pure true
  slot : PySem.Slot "int" (PySem.dunder op.info.2) id
  run : ∀ {prog : Program} {w : World} {A : Around} {E : Value → Shared → Prop} {s : Shared} {Q : Value → Shared → Prop} {a : Int} {t : Tok} {l C dx : Addr}, s.heap.get? l = some (PySem.W.instObj C dx) → Q .notImplemented s →
    wpAny (model prog w) A (call (.builtin id) [.int a t, .ref l]) Q E s
theorem declAdd : IntDecl .Add "int.__add__" := ⟨PySem.F.fills_int_add, PySem.F.slot_int_add, fun {prog w A E s Q a t l C dx} h q => by
  refine wpAny_call_entry PySem.F.slot_int_add (PySem.typeIs_int s a t) PySem.F.entry_int_add ?_ (PySem.F.args_int_add_2 _ _)
  obtain ⟨hp, g, d, tk, os⟩ := s
  unfold Builtin.«int.__add__» Builtin.Int.intBinary
  wp_walk
  exact ⟨_, rfl, q⟩⟩
theorem declSub : IntDecl .Sub "int.__sub__" := ⟨PySem.F.fills_int_sub, PySem.F.slot_int_sub, fun {prog w A E s Q a t l C dx} h q => by
  refine wpAny_call_entry PySem.F.slot_int_sub (PySem.typeIs_int s a t) PySem.F.entry_int_sub ?_ (PySem.F.args_int_sub_2 _ _)
  obtain ⟨hp, g, d, tk, os⟩ := s
  unfold Builtin.«int.__sub__» Builtin.Int.intBinary
  wp_walk
  exact ⟨_, rfl, q⟩⟩
theorem declMul : IntDecl .Mult "int.__mul__" := ⟨PySem.F.fills_int_mul, PySem.F.slot_int_mul, fun {prog w A E s Q a t l C dx} h q => by
  refine wpAny_call_entry PySem.F.slot_int_mul (PySem.typeIs_int s a t) PySem.F.entry_int_mul ?_ (PySem.F.args_int_mul_2 _ _)
  obtain ⟨hp, g, d, tk, os⟩ := s
  unfold Builtin.«int.__mul__» Builtin.Int.intBinary
  wp_walk
  exact ⟨_, rfl, q⟩⟩
theorem binR_K {prog : Program} {w : World} {A : Around} {E : Value → Shared → Prop} {s : Shared} {K : PySem.W.Frag} {b C dx L g : Addr} {h₀ : Heap} {m : Str → Option Value} {od : Option Obj} {op : Operator} {id : String} {i : Int} {t : Tok} {Q : Value → Shared → Prop}
    (D : IntDecl op id) (F : PyProof.Rows.Fr h₀ L s.heap m) (X₀ : K.In h₀) (J : PySem.W.InstAt s.heap b (PySem.W.instObj C dx) C od) (B : OwnRBin K C g op.info.2) (h : wpAny (model prog w) A (call (.ref g) [.ref b, .int i t]) (PySem.W.CmpBack Q) E s) :
    wpAny (model prog w) A (binaryOp op (.int i t) (.ref b)) Q E s := by
  have X := X₀.keeps F.keep
  obtain ⟨cd, rest, hcd, hm⟩ := PySem.W.ksp_first B.self
  obtain ⟨f, hl⟩ := B.left
  rcases hi : op.info with ⟨sym, nm⟩
  have at_ := B.at_
  have fl := D.fills
  have sl := D.slot
  rw [hi] at hl at_ fl sl
  dsimp only at hl at_ fl sl
  have fills : PySem.W.Looks (model prog w) s.heap (fillsNumberSlot (.ref C) nm) true := PySem.W.fills_K X hcd hm hl
  have one := PySem.W.ksp_try X J at_ B.fn h
  simp only [binaryOp, hi]
  refine wpAny_holding (wpAny_bind ?_)
  simp only [binaryOp1]
  have hne : (Value.type "int" == Value.ref C) = false := rfl
  refine wpAny_bind (PySem.wpAny_typeOf (PySem.typeIs_int s i t) (wpAny_bind (J.type.here (wpAny_bind (PySem.wpAny_of_eq fl ?_)))))
  simp only [hne, Bool.false_eq_true, if_false]
  refine wpAny_bind (fills.here ?_)
  simp only [Bool.and_self, if_true]
  refine wpAny_bind ((PySem.W.looks_subIn X B.sub).here ?_)
  have hpy : numberSlotInPython (.type "int") nm = pure false := rfl
  simp only [Bool.false_eq_true, if_false, pure_bind, Bool.not_false, Bool.and_self, if_true, hpy]
  refine wpAny_bind (PySem.wpAny_tryMethod_declines (PySem.typeIs_int s i t) sl (D.run J.at_ ⟨rfl, ?_⟩))
  refine wpAny_bind (wpAny_mono one (fun r s' hr => ?_) fun _ _ e => e)
  obtain ⟨v, rfl, hq⟩ := hr
  exact wpAny_bind (PySem.wpAny_rule (wpAny_pure (wpAny_pure hq)))
def rOwnR (W : Pw) (l : Nat → Option DF) : R2 := fun x y H Q => ∃ c b dx fs F i, l c = some F ∧ x = .int i ∧ y = .ref b ∧ H b = some (.ins (W.cl c) dx fs) ∧ spF W 2 F [y, x] H Q fun _ _ _ => False
theorem opr_ownR {l : Nat → Option DF} {op : Operator} {id : String} (D : IntDecl op id) (ok : ∀ c F, l c = some F → ∃ g, OwnRBin X.K (W.cl c) g op.info.2 ∧ OwnFn X W 2 g F) : OpR X (binaryOp op) (rOwnR W l) := by
  intro pins s σ H x y v u Q I rx ry h
  obtain ⟨c, b, dx, fs, F, i, hl, rfl, rfl, hb, hq⟩ := h
  obtain ⟨g, B, cr⟩ := ok c F hl
  obtain ⟨t, rfl⟩ := (show ∃ t, v = Value.int i t from rx)
  cases (show u = Value.ref b from ry)
  obtain ⟨mA, J, _⟩ := ins_get I.hok hb
  obtain ⟨od, J, _⟩ := J.look
  obtain ⟨m, hF⟩ := I.fr
  exact binR_K D hF I.ok.mod.kin J B (own_back cr I (.cons (show RelV (V.ref b) (Value.ref b) from rfl) (.cons rx .nil)) hq)

/-! ### - own -/
structure OwnUn (K : PySem.W.Frag) (C f : Addr) (nm : Str) : Prop where
  at_ : PySem.W.findIn K (.ref C) nm = some (some (.ref f))
  fn : PySem.W.isFn K (.ref f) = true
def rOwnU (W : Pw) (l : Nat → Option DF) : V → Hp → VK → Prop := fun x H Q => ∃ c a dx fs F, l c = some F ∧ x = .ref a ∧ H a = some (.ins (W.cl c) dx fs) ∧ spF W 1 F [x] H Q fun _ _ _ => False
theorem unr_neg {l : Nat → Option DF} (ok : ∀ c F, l c = some F → ∃ f, OwnUn X.K (W.cl c) f "__neg__" ∧ OwnFn X W 1 f F) : UnR X (unaryOp .USub) (rOwnU W l) := by
  intro pins s σ H x v Q I rx h
  obtain ⟨c, a, dx, fs, F, hl, rfl, ha, hq⟩ := h
  obtain ⟨f, B, cr⟩ := ok c F hl
  cases (show v = Value.ref a from rx)
  obtain ⟨mA, J, _⟩ := ins_get I.hok ha
  obtain ⟨od, J, _⟩ := J.look
  obtain ⟨m, hF⟩ := I.fr
  exact PySem.W.ksp_neg hF I.ok.mod.kin J B.at_ B.fn (cr pins s σ H _ _ Q I (.cons rx .nil) hq)
/-! ### repr of own, str() -/
theorem strBack_of {Q : V → Hp → Prop} {pins : List (Addr × Obj)} {σ : L2.St} {u : Value} {s : Shared} (h : EP X pins σ (fun v H' => (∃ z, v = .str z) ∧ Q v H') u s) : PySem.W.StrBack (EP X pins σ Q) u s := by
  obtain ⟨v, H', I', rv, ⟨z, rfl⟩, q⟩ := h
  obtain ⟨t, rfl⟩ := (show ∃ t, u = Value.str z t from rv)
  exact ⟨_, H', I', rv, q⟩
def rOwnRepr (W : Pw) (l : Nat → Option DF) : List V → Hp → VK → Prop := fun xs H Q => ∃ c a dx fs F, l c = some F ∧ xs = [.ref a] ∧ H a = some (.ins (W.cl c) dx fs) ∧ spF W 1 F xs H (fun v H' => (∃ z, v = .str z) ∧ Q v H') fun _ _ _ => False
theorem cr_ownRepr {l : Nat → Option DF} (hg : X.A.guards = some []) (hu : X.A.units + 64 < cLine) (ok : ∀ c F, l c = some F → ∃ f, OwnUn X.K (W.cl c) f "__repr__" ∧ OwnAt X W 1 f F) : CallR X (.builtin "repr") (rOwnRepr W l) := by
  intro pins s σ H xs us Q I r h
  obtain ⟨c, a, dx, fs, F, hl, rfl, ha, hq⟩ := h
  obtain ⟨f, B, cr⟩ := ok c F hl
  obtain ⟨u, rfl, ru⟩ := r.one
  cases (show u = Value.ref a from ru)
  obtain ⟨mA, J, _⟩ := ins_get I.hok ha
  obtain ⟨od, J, _⟩ := J.look
  obtain ⟨m, hF⟩ := I.fr
  exact PySem.W.repr_K (by show X.A.units + 1 < cLine; omega) hF I.ok.mod.kin J B.at_ B.fn (wpAny_mono (cr.in1 hg I (.cons ru .nil) hq) (fun u s' e => strBack_of e) fun _ _ e => e)

/-! ### own == y, own != y -/
structure OwnEq (K : PySem.W.Frag) (C f : Addr) : Prop where
  at_ : PySem.W.findIn K (.ref C) "__eq__" = some (some (.ref f))
  fn : PySem.W.isFn K (.ref f) = true
  ne : PySem.W.findIn K (.ref C) "__ne__" = some (some (.builtin "object.__ne__"))
  obj : PySem.W.mroIn K C (.type "object") = some true
/-- what stands beside it: of the same class, or of a built-in type -/
def EqSide (W : Pw) (K : PySem.W.Frag) (H : Hp) (c : Nat) (y : V) : Prop := (∃ b dy gs, y = .ref b ∧ H b = some (.ins (W.cl c) dy gs)) ∨ ∃ T, TyX K H y (.type T) ∧ PySem.W.notFirst K (W.cl c) (.type T) = true
def rOwnEq (W : Pw) (K : PySem.W.Frag) (neg : Bool) (l : Nat → Option DF) : R2 := fun x y H Q => ∃ c a dx fs F, l c = some F ∧ x = .ref a ∧ H a = some (.ins (W.cl c) dx fs) ∧ EqSide W K H c y ∧
  spF W 2 F [x, y] H (fun v H' => ∃ b, v = .bl b ∧ Q (.bl (if neg then !b else b)) H') fun _ _ _ => False
theorem side_looks {pins : List (Addr × Obj)} {σ : L2.St} {H : Hp} {s : Shared} {c : Nat} {y : V} {u : Value} (I : Inv X pins σ H s) (ry : RelV y u) (h : EqSide W X.K H c y) : ∃ tb, (∀ M, PySem.W.Looks M s.heap (typeOf u) tb) ∧ PySem.W.notFirst X.K (W.cl c) tb = true := by
  rcases h with ⟨b, dy, gs, rfl, hb⟩ | ⟨T, ht, hn⟩
  · cases (show u = Value.ref b from ry)
    obtain ⟨mB, J', _⟩ := ins_get I.hok hb
    obtain ⟨od', J', _⟩ := J'.look
    exact ⟨.ref (W.cl c), fun M => J'.type, by simp [PySem.W.notFirst]⟩
  · obtain ⟨P, Z, p, _⟩ := kit_of I ry ht
    exact ⟨_, fun M => Z.ty M _ I.kIn p, hn⟩
theorem opr_ownEq {l : Nat → Option DF} (hu : X.A.units + 64 < cLine) (ok : ∀ c F, l c = some F → ∃ f, OwnEq X.K (W.cl c) f ∧ OwnFn X W 2 f F) : OpR X (compareOp .Eq) (rOwnEq W X.K false l) := by
  intro pins s σ H x y v u Q I rx ry h
  obtain ⟨c, a, dx, fs, F, hl, rfl, ha, hy, hq⟩ := h
  obtain ⟨f, B, cr⟩ := ok c F hl
  cases (show v = Value.ref a from rx)
  obtain ⟨mA, J, _⟩ := ins_get I.hok ha
  obtain ⟨od, J, _⟩ := J.look
  obtain ⟨m, hF⟩ := I.fr
  obtain ⟨tb, lk, nf⟩ := side_looks I ry hy
  show wpAny (model X.prog X.w) X.A (richCompare .Eq (.ref a) u) (EP X pins σ Q) X.xe s
  refine PySem.W.cmp_K (op := .Eq) (by omega) hF I.ok.mod.kin J (lk _) nf B.at_ B.fn ?_
  refine wpAny_mono (cr pins s σ H _ _ _ I (.cons (show RelV (V.ref a) (Value.ref a) from rfl) (.cons ry .nil)) hq) (fun w s' e => ?_) fun _ _ e => e
  obtain ⟨z, H', I', rv, b, rfl, q⟩ := e
  cases (show w = Value.bool b from rv)
  exact cmpBack_of (fun z => nomatch z) ⟨.bl b, H', I', rfl, q⟩
theorem ifBound_B {M : Model} {A : Around} {E : Value → Shared → Prop} {s : Shared} {K : PySem.W.Frag} {x C : Addr} {ox : Obj} {od : Option Obj} {name : Str} {id : String} {args : List Value} {Q : Option Value → Shared → Prop} (X : K.In s.heap) (I : PySem.W.InstAt s.heap x ox C od)
    (hs : PySem.W.findIn K (.ref C) name = some (some (.builtin id))) (hb : ∀ self, bindSpecial (.builtin id) self = pure (.builtin id, [self]))
    (h : wpAny M A (call (.builtin id) (.ref x :: args)) (fun v => Q (some v)) E s) : wpAny M A (callSpecialIfBound? (.ref x) name args) Q E s := by
  simp only [callSpecialIfBound?, bindSpecialIfBound?]
  refine wpAny_holding (wpAny_bind (wpAny_bind (wpAny_bind (I.type.here ((PySem.W.looks_findIn X hs).here ?_)))))
  refine wpAny_bind (wpAny_askSetting (wpAny_ite ?_))
  have fin : wpAny M A (call (.builtin id) ([.ref x] ++ args) >>= fun v => pure (some v)) Q E s := wpAny_bind (wpAny_mono h (fun v s' h' => wpAny_pure h') fun _ _ h' => h')
  split
  · exact wpAny_bind ((PySem.W.Looks.of_pure (hb _)).here (wpAny_pure (by exact fin)))
  · exact wpAny_tryCatch (wpAny_bind ((PySem.W.Looks.of_pure (hb _)).here (wpAny_pure (by exact fin))))
theorem ne_K {prog : Program} {w : World} {A : Around} {E : Value → Shared → Prop} {s : Shared} {K : PySem.W.Frag} {x C L f : Addr} {h₀ : Heap} {m : Str → Option Value} {ox : Obj} {od : Option Obj} {b tb : Value} {Q : Value → Shared → Prop}
    (hu : A.units + 1 < cLine) (F : PyProof.Rows.Fr h₀ L s.heap m) (X₀ : K.In h₀) (I : PySem.W.InstAt s.heap x ox C od) (hb : PySem.W.Looks (model prog w) s.heap (typeOf b) tb) (hn : PySem.W.notFirst K C tb = true) (B : OwnEq K C f)
    (h : wpAny (model prog w) A.in1 (call (.ref f) [.ref x, b]) (fun v s' => ∃ r, v = .bool r ∧ Q (.bool (!r)) s') E s) : wpAny (model prog w) A (richCompare .NotEq (.ref x) b) Q E s := by
  have X := X₀.keeps F.keep
  have one : wpAny (model prog w) A (tryCompare (.ref x) (cmpInfo .NotEq).2.1 b) (fun r s' => ∃ v, r = some v ∧ Q v s') E s := by
    unfold tryCompare
    refine wpAny_bind (ifBound_B X I B.ne PySem.F.slot_object_ne.bind ?_)
    refine wpAny_call (codeAny_call_builtin PySem.F.slot_object_ne.plain PySem.F.entry_object_ne (PySem.W.check_slot (i := "object.__ne__") (owner := "object") (n := "__ne__") (by decide +kernel) (by decide +kernel) (I.type.andThen (PySem.W.looks_mroIn X B.obj)) (PySem.F.args_object_ne_2 _ _) ?_))
    unfold Builtin.«object.__ne__»
    refine wpAny_bind (m := slotArgs "__ne__" 1 _) (wpAny_pure ?_)
    refine wpAny_bind (m := cRoomFor _ _) (wpAny_cRoomFor (by show A.units + 1 < cLine; exact hu) ?_)
    refine wpAny_bind (m := callSpecialIfBound? (.ref x) (Str.ofString "__eq__") _) (PySem.W.ifBound_K X I B.at_ B.fn (wpAny_mono h (fun r s' hq => ?_) fun _ _ y => y))
    obtain ⟨r, rfl, q⟩ := hq
    refine wpAny_bind (m := truthy (.bool _)) (wpAny_truthy_bool ?_)
    first | exact wpAny_pure ⟨_, rfl, wpAny_pure ⟨_, rfl, q⟩⟩ | exact ⟨_, rfl, wpAny_pure ⟨_, rfl, q⟩⟩ | exact wpAny_pure (wpAny_pure ⟨_, rfl, q⟩) | exact ⟨_, rfl, wpAny_pure (wpAny_pure ⟨_, rfl, q⟩)⟩
  unfold richCompare
  simp only [oneThing_ref]
  refine wpAny_holding (wpAny_bind (wpAny_cRoomFor (by omega) ?_))
  refine wpAny_bind (I.type.here (wpAny_bind (hb.here ?_)))
  split
  · rename_i q
    have e : PySem.W.subIn K tb (.ref C) = some false := by
      rcases Bool.or_eq_true_iff.mp hn with e | e
      · rw [beq_iff_eq.mp e] at q; simp at q
      · exact beq_iff_eq.mp e
    refine wpAny_bind ((PySem.W.looks_subIn X e).here ?_)
    simp only [Bool.false_eq_true, if_false]
    refine wpAny_bind (wpAny_mono one (fun r s' z => ?_) fun _ _ e => e)
    obtain ⟨v, rfl, hq⟩ := z
    exact wpAny_pure hq
  · refine wpAny_bind (wpAny_pure ?_)
    simp only [Bool.false_eq_true, if_false]
    refine wpAny_bind (wpAny_mono one (fun r s' z => ?_) fun _ _ e => e)
    obtain ⟨v, rfl, hq⟩ := z
    exact wpAny_pure hq
theorem opr_ownNe {l : Nat → Option DF} (hg : X.A.guards = some []) (hu : X.A.units + 64 < cLine) (ok : ∀ c F, l c = some F → ∃ f, OwnEq X.K (W.cl c) f ∧ OwnAt X W 2 f F) : OpR X (compareOp .NotEq) (rOwnEq W X.K true l) := by
  intro pins s σ H x y v u Q I rx ry h
  obtain ⟨c, a, dx, fs, F, hl, rfl, ha, hy, hq⟩ := h
  obtain ⟨f, B, cr⟩ := ok c F hl
  cases (show v = Value.ref a from rx)
  obtain ⟨mA, J, _⟩ := ins_get I.hok ha
  obtain ⟨od, J, _⟩ := J.look
  obtain ⟨m, hF⟩ := I.fr
  obtain ⟨tb, lk, nf⟩ := side_looks I ry hy
  show wpAny (model X.prog X.w) X.A (richCompare .NotEq (.ref a) u) (EP X pins σ Q) X.xe s
  refine ne_K (by omega) hF I.ok.mod.kin J (lk _) nf B ?_
  refine wpAny_mono (cr.in1 hg I (.cons (show RelV (V.ref a) (Value.ref a) from rfl) (.cons ry .nil)) hq) (fun w s' e => ?_) fun _ _ e => e
  obtain ⟨z, H', I', rv, b, rfl, q⟩ := e
  cases (show w = Value.bool b from rv)
  exact ⟨b, rfl, .bl (!b), H', I', rfl, q⟩
end
end Den
end

section
set_option Elab.async false
set_option linter.all false
set_option maxRecDepth 100000
set_option maxHeartbeats 4000000
/-! DenK6: what operators of own objects make of data. -/
namespace Den
open PySem L2
section
variable {X : Cx} {W : Pw}
/-! ### arguments one by one -/
theorem cons_tA {P : PF} {P' : PAF} {σ : L2.St} {H : Hp} {Q : List V → Hp → Prop} (h : tA W (aCons P P') σ H Q) : tE W P σ H fun v H1 => tA W P' σ H1 fun vs H2 => Q (v :: vs) H2 := by
  obtain ⟨env, G, rvs, env', r, p, k⟩ := h
  unfold aCons at p
  simp only [Option.bind_eq_bind, Option.bind_eq_some_iff, Prod.exists, Option.some.injEq, Prod.mk.injEq] at p
  obtain ⟨rv, e1, h1, rs, e2, h2, rfl, rfl⟩ := p
  refine tE_one r h1 fun v H1 G1 s o => ⟨e1, G1, rs, e2, s.rel, h2, fun vs H2 G2 s2 o2 => ?_⟩
  refine k (v :: vs) H2 G2 (s.trans s2) (.cons (o.step s.rel (fun b z => s.ownNe r z) s2) (fun d e i ed er => ?_) (o2.base s.ext.dom))
  subst ed
  obtain ⟨a, ob, ea, ha, _⟩ := o
  subst ea
  exact o2.fresh (by rw [ha]; simp) er
theorem nil_tA {σ : L2.St} {H : Hp} {Q : List V → Hp → Prop} (h : tA W aNil σ H Q) : Q [] H := by
  obtain ⟨env, G, rvs, env', r, p, k⟩ := h
  cases p
  exact k [] H G (Step.refl r) .nil
theorem tE_imp {P : PF} {σ : L2.St} {H : Hp} {Q Q' : VK} (h : tE W P σ H Q) (k : ∀ v H', Q v H' → Q' v H') : tE W P σ H Q' := by
  obtain ⟨env, G, rv, env', r, p, kk⟩ := h
  exact ⟨env, G, rv, env', r, p, fun v H' G' s o => k v H' (kk v H' G' s o)⟩
theorem tA_imp {P : PAF} {σ : L2.St} {H : Hp} {Q Q' : List V → Hp → Prop} (h : tA W P σ H Q) (k : ∀ v H', Q v H' → Q' v H') : tA W P σ H Q' := by
  obtain ⟨env, G, rv, env', r, p, kk⟩ := h
  exact ⟨env, G, rv, env', r, p, fun v H' G' s o => k v H' (kk v H' G' s o)⟩
theorem two_tA {P P' : PF} {σ : L2.St} {H : Hp} {R : V → V → Hp → Prop} (h : tA W (aCons P (aCons P' aNil)) σ H fun vs H2 => ∃ x y, vs = [x, y] ∧ R x y H2) : tE W P σ H fun x H1 => tE W P' σ H1 fun y H2 => R x y H2 :=
  tE_imp (cons_tA h) fun x H1 q => tE_imp (cons_tA q) fun y H2 z => by
    obtain ⟨x', y', e, z⟩ := nil_tA z
    cases e
    exact z
theorem one_tA {P : PF} {σ : L2.St} {H : Hp} {R : V → Hp → Prop} (h : tA W (aCons P aNil) σ H fun vs H2 => ∃ x, vs = [x] ∧ R x H2) : tE W P σ H fun x H1 => R x H1 :=
  tE_imp (cons_tA h) fun x H1 z => by
    obtain ⟨x', e, z⟩ := nil_tA z
    cases e
    exact z
/-! ### looks at what is passed -/
/-- the class of an own object (no slot's) -/
def RV.cls : RV → Option Nat
  | .dat (.obj c _) => some c
  | .own (.obj c _) => some c
  | _ => none
theorem RvOk.isObj {σ : L2.St} {H H' G' : Hp} {v : V} {rv : RV} {c : Nat} (h : RvOk W σ H H' G' v rv) (s : Same G' H') (e : rv.cls = some c) : ∃ a dx fs, v = .ref a ∧ H' a = some (.ins (W.cl c) dx fs) := by
  cases rv with
  | slot j => cases e
  | dat d =>
    cases d <;> cases e
    cases (show Rp W G' v _ from h) with
    | obj q r => exact ⟨_, _, _, rfl, s _ _ q⟩
  | own d =>
    cases d <;> cases e
    obtain ⟨a, o, rfl, ha, _, _, ob⟩ := h
    cases ob with
    | obj r => exact ⟨_, _, _, rfl, ha⟩
def aChk (f : List RV → Bool) (P : PAF) : PAF := fun env => (P env).bind fun r => if f r.1 then some r else none
theorem chk_tA {f : List RV → Bool} {P : PAF} {σ : L2.St} {H : Hp} {Q : List V → Hp → Prop} (h : tA W (aChk f P) σ H Q) : tA W P σ H fun vs H' => Q vs H' ∧ ∃ rvs G' H0, f rvs = true ∧ Same G' H' ∧ RvsOk W σ H0 H' G' vs rvs := by
  obtain ⟨env, G, rvs, env', r, p, k⟩ := h
  unfold aChk at p
  simp only [Option.bind_eq_some_iff, Prod.exists] at p
  obtain ⟨rs, e1, h1, p⟩ := p
  split at p
  · rename_i hf
    cases p
    exact ⟨env, G, rvs, env', r, h1, fun vs H' G' s o => ⟨k vs H' G' s o, rvs, G', H, hf, s.rel.sub, o⟩⟩
  · cases p
/-! ### own op y, int op own -/
def sideB (c : Nat) : RV → Bool
  | .dat (.int _) => true
  | rv => rv.cls == some c
def chkL (c : Nat) : List RV → Bool
  | [ra, rb] => ra.cls == some c && sideB c rb
  | _ => false
def intB : RV → Bool
  | .dat (.int _) => true
  | _ => false
def chkR (c : Nat) : List RV → Bool
  | [rb, ra] => rb.cls == some c && intB ra
  | _ => false
def pOwnL (l : Nat → Option DF) (c : Nat) (P P' : PF) : PF := fun env => match l c with
  | some F => pFn [false, false] F (aChk (chkL c) (aCons P (aCons P' aNil))) env
  | none => none
def pOwnR (l : Nat → Option DF) (c : Nat) (P P' : PF) : PF := fun env => match l c with
  | some F => pFn [false, false] F (aChk (chkR c) (aPick [1, 0] (aCons P (aCons P' aNil)))) env
  | none => none
theorem fn_tA {io : List Bool} {F : DF} {P : PAF} {σ : L2.St} {H : Hp} {Q : VK} {E : XK} (h : tE W (pFn io F P) σ H Q) : tA W P σ H fun vs H1 => spF W io.length F vs H1 Q E := by
  have q : tA W P σ H fun vs H1 => spF W io.length F (vs ++ []) H1 Q E := fn_tE h
  exact tA_imp q fun vs H1 z => by simpa using z
theorem rvs2 {σ : L2.St} {H H' G' : Hp} {vs : List V} {ra rb : RV} (o : RvsOk W σ H H' G' vs [ra, rb]) : ∃ x y, vs = [x, y] ∧ RvOk W σ H H' G' x ra ∧ RvOk W σ H H' G' y rb := by
  cases o with
  | cons h _ t => cases t with
    | cons h2 _ t => cases t; exact ⟨_, _, rfl, h, h2⟩
theorem sideB_ok {σ : L2.St} {H H' G' : Hp} {y : V} {rb : RV} {c : Nat} (o : RvOk W σ H H' G' y rb) (s : Same G' H') (h : sideB c rb = true) : (∃ b dy gs, y = .ref b ∧ H' b = some (.ins (W.cl c) dy gs)) ∨ ∃ i, y = .int i := by
  unfold sideB at h
  split at h
  · cases (show Rp W G' y _ from o); exact .inr ⟨_, rfl⟩
  · exact .inl (o.isObj s (by simpa using h))
theorem ownL_tE {l : Nat → Option DF} {c : Nat} {P P' : PF} {σ : L2.St} {H : Hp} {Q : VK} (h : tE W (pOwnL l c P P') σ H Q) : tOp (rOwnL W l) (tE W P) (tE W P') σ H Q := by
  cases hl : l c with
  | none =>
    obtain ⟨env, G, rv, env', r, p, k⟩ := h
    unfold pOwnL at p
    rw [hl] at p
    cases p
  | some F =>
    have e : pOwnL l c P P' = pFn [false, false] F (aChk (chkL c) (aCons P (aCons P' aNil))) := by
      funext env; unfold pOwnL; rw [hl]
    rw [e] at h
    refine two_tA (tA_imp (chk_tA (fn_tA (E := fun _ _ _ => False) h)) fun vs H2 ⟨q, rvs, G', H0, hf, sb, o⟩ => ?_)
    unfold chkL at hf
    split at hf
    · simp only [Bool.and_eq_true, beq_iff_eq] at hf
      obtain ⟨x, y, rfl, o1, o2⟩ := rvs2 o
      obtain ⟨a, dx, fs, rfl, ha⟩ := o1.isObj sb hf.1
      exact ⟨_, _, rfl, c, a, dx, fs, F, hl, rfl, ha, sideB_ok o2 sb hf.2, q⟩
    · cases hf
theorem pick10 {P : PAF} {σ : L2.St} {H : Hp} {Q : List V → Hp → Prop} (h : tA W (aPick [1, 0] P) σ H Q) : tA W P σ H fun vs H1 => ∃ x y, vs = [x, y] ∧ Q [y, x] H1 :=
  tA_imp (pick_tA (is := [1, 0]) (by decide) (by decide) h) fun vs H1 ⟨q1, q2⟩ => by
    match vs, q1 with
    | [x, y], _ => exact ⟨x, y, rfl, q2⟩
theorem ownR_tE {l : Nat → Option DF} {c : Nat} {P P' : PF} {σ : L2.St} {H : Hp} {Q : VK} (h : tE W (pOwnR l c P P') σ H Q) : tOp (rOwnR W l) (tE W P) (tE W P') σ H Q := by
  cases hl : l c with
  | none =>
    obtain ⟨env, G, rv, env', r, p, k⟩ := h
    unfold pOwnR at p
    rw [hl] at p
    cases p
  | some F =>
    have e : pOwnR l c P P' = pFn [false, false] F (aChk (chkR c) (aPick [1, 0] (aCons P (aCons P' aNil)))) := by
      funext env; unfold pOwnR; rw [hl]
    rw [e] at h
    refine two_tA (tA_imp (pick10 (chk_tA (fn_tA (E := fun _ _ _ => False) h))) fun vs H2 ⟨x, y, ev, q, rvs, G', H0, hf, sb, o⟩ => ?_)
    unfold chkR at hf
    split at hf
    · rename_i rb ra
      simp only [Bool.and_eq_true, beq_iff_eq] at hf
      obtain ⟨y', x', ez, o1, o2⟩ := rvs2 o
      cases ez
      obtain ⟨a, dx, fs, rfl, ha⟩ := o1.isObj sb hf.1
      have h2 := hf.2
      unfold intB at h2
      split at h2
      · cases (show Rp W G' x _ from o2)
        exact ⟨_, _, ev, c, a, dx, fs, F, _, hl, rfl, rfl, ha, q⟩
      · cases h2
    · cases hf
/-- a op b, by what stands there -/
def pBinO (l r : Nat → Option DF) (f : D → D → Option RV) (P P' : PF) : PF := fun env => match P env with
  | some (ra, e1) => (match ra.cls with
    | some c => pOwnL l c P P' env
    | none => (match P' e1 with
      | some (rb, _) => (match rb.cls with
        | some c => pOwnR r c P P' env
        | none => pBin f P P' env)
      | none => none))
  | none => none
theorem tE_pick {P1 P2 : PF} {σ : L2.St} {H : Hp} {Q : VK} (h : tE W P1 σ H Q) (k : ∀ env, P1 env = P2 env ∨ True) : True := trivial
theorem binO_tE {l r : Nat → Option DF} {f : D → D → Option RV} {r0 : R2} (o : OpD W r0 f) {P P' : PF} {σ : L2.St} {H : Hp} {Q : VK} (h : tE W (pBinO l r f P P') σ H Q) :
    tOp (fun x y H Q => rOwnL W l x y H Q ∨ rOwnR W r x y H Q ∨ r0 x y H Q) (tE W P) (tE W P') σ H Q := by
  obtain ⟨env, G, rv, env', rl, p, k⟩ := h
  have imp : ∀ {r' : R2}, (∀ x y H Q, r' x y H Q → rOwnL W l x y H Q ∨ rOwnR W r x y H Q ∨ r0 x y H Q) → tOp r' (tE W P) (tE W P') σ H Q → tOp (fun x y H Q => rOwnL W l x y H Q ∨ rOwnR W r x y H Q ∨ r0 x y H Q) (tE W P) (tE W P') σ H Q :=
    fun hi q => tE_imp q fun x H1 q1 => tE_imp q1 fun y H2 q2 => hi _ _ _ _ q2
  unfold pBinO at p
  split at p
  · split at p
    · rename_i c _
      exact imp (fun _ _ _ _ z => .inl z) (ownL_tE (c := c) ⟨env, G, rv, env', rl, p, k⟩)
    · split at p
      · split at p
        · rename_i c _
          exact imp (fun _ _ _ _ z => .inr (.inl z)) (ownR_tE (c := c) ⟨env, G, rv, env', rl, p, k⟩)
        · exact imp (fun _ _ _ _ z => .inr (.inr z)) (op_tE o ⟨env, G, rv, env', rl, p, k⟩)
      · cases p
  · cases p
theorem pd_binO {op : Operator} {l r : Nat → Option DF} {f : D → D → Option RV} {r0 : R2} {a b : Expr} {P P' : PF} {pos : Pos} (hl : OpR X (binaryOp op) (rOwnL W l)) (hr : OpR X (binaryOp op) (rOwnR W r)) (h0 : OpR X (binaryOp op) r0) (o : OpD W r0 f) (ha : PD X W P a) (hb : PD X W P' b) :
    PD X W (pBinO l r f P P') (.BinOp a op b pos) := PE.weak (pe_op (OpR.or hl (OpR.or hr h0)) ha hb) fun _ _ _ h => binO_tE o h
/-! ### - own -/
def chkU (c : Nat) : List RV → Bool
  | [ra] => ra.cls == some c
  | _ => false
def pOwnU (l : Nat → Option DF) (c : Nat) (P : PF) : PF := fun env => match l c with
  | some F => pFn [false] F (aChk (chkU c) (aCons P aNil)) env
  | none => none
theorem rvs1 {σ : L2.St} {H H' G' : Hp} {vs : List V} {ra : RV} (o : RvsOk W σ H H' G' vs [ra]) : ∃ x, vs = [x] ∧ RvOk W σ H H' G' x ra := by
  cases o with
  | cons h _ t => cases t; exact ⟨_, rfl, h⟩
theorem ownU_tE {l : Nat → Option DF} {c : Nat} {P : PF} {σ : L2.St} {H : Hp} {Q : VK} (h : tE W (pOwnU l c P) σ H Q) : tUn (rOwnU W l) (tE W P) σ H Q := by
  cases hl : l c with
  | none =>
    obtain ⟨env, G, rv, env', r, p, k⟩ := h
    unfold pOwnU at p
    rw [hl] at p
    cases p
  | some F =>
    have e : pOwnU l c P = pFn [false] F (aChk (chkU c) (aCons P aNil)) := by
      funext env; unfold pOwnU; rw [hl]
    rw [e] at h
    refine one_tA (tA_imp (chk_tA (fn_tA (E := fun _ _ _ => False) h)) fun vs H2 ⟨q, rvs, G', H0, hf, sb, o⟩ => ?_)
    unfold chkU at hf
    split at hf
    · simp only [beq_iff_eq] at hf
      obtain ⟨x, rfl, o1⟩ := rvs1 o
      obtain ⟨a, dx, fs, rfl, ha⟩ := o1.isObj sb hf
      exact ⟨_, rfl, c, a, dx, fs, F, hl, rfl, ha, q⟩
    · cases hf
def pUnO (l : Nat → Option DF) (f : D → Option RV) (P : PF) : PF := fun env => match P env with
  | some (ra, _) => (match ra.cls with
    | some c => pOwnU l c P env
    | none => pUn f P env)
  | none => none
theorem UnR.or {f : Value → Sem Value} {r r' : V → Hp → VK → Prop} (h : UnR X f r) (h' : UnR X f r') : UnR X f (fun x H Q => r x H Q ∨ r' x H Q) :=
  fun pins s σ H x v Q I rx q => q.elim (h pins s σ H x v Q I rx) (h' pins s σ H x v Q I rx)
theorem pd_unO {op : UnaryOp} {l : Nat → Option DF} {f : D → Option RV} {r0 : V → Hp → VK → Prop} {a : Expr} {P : PF} {pos : Pos} (hl : UnR X (unaryOp op) (rOwnU W l)) (h0 : UnR X (unaryOp op) r0) (o : UnD W r0 f) (ha : PD X W P a) :
    PD X W (pUnO l f P) (.UnaryOp op a pos) := PE.weak (pe_un (UnR.or hl h0) ha) fun σ H Q h => by
  obtain ⟨env, G, rv, env', rl, p, k⟩ := h
  unfold pUnO at p
  split at p
  · split at p
    · rename_i c _
      exact tE_imp (ownU_tE (c := c) ⟨env, G, rv, env', rl, p, k⟩) fun _ _ z => .inl z
    · exact tE_imp (un_tE o ⟨env, G, rv, env', rl, p, k⟩) fun _ _ z => .inr z
  · cases p
/-! ### own == y -/
/-- a truth behind it -/
def pTr (neg : Bool) (P : PF) : PF := fun env => match P env with
  | some (.dat (.bl b), e1) => some (.dat (.bl (if neg then !b else b)), e1)
  | _ => none
def eqSideB (c : Nat) : RV → Bool
  | .dat d => (tyNm d).isSome || (RV.dat d).cls == some c
  | .own d => (tyNm d).isSome || (RV.own d).cls == some c
  | .slot _ => false
def chkEq (c : Nat) : List RV → Bool
  | [ra, rb] => ra.cls == some c && eqSideB c rb
  | _ => false
def pOwnEq (neg : Bool) (l : Nat → Option DF) (c : Nat) (P P' : PF) : PF := fun env => match l c with
  | some F => pTr neg (pFn [false, false] F (aChk (chkEq c) (aCons P (aCons P' aNil)))) env
  | none => none
/-- the built-in types that an own object may be compared with -/
def eqTys : List String := ["NoneType", "bool", "int", "str", "list", "tuple", "dict"]
theorem tyNm_in {d : D} {T : String} (h : tyNm d = some T) : T ∈ eqTys := by
  cases d <;> simp only [tyNm] at h <;> cases h <;> decide
theorem tr_tE {neg : Bool} {P : PF} {σ : L2.St} {H : Hp} {Q : VK} (h : tE W (pTr neg P) σ H Q) : tE W P σ H fun v H' => ∃ b, v = .bl b ∧ Q (.bl (if neg then !b else b)) H' := by
  obtain ⟨env, G, rv, env', r, p, k⟩ := h
  unfold pTr at p
  split at p
  · rename_i b e1 hP
    cases p
    refine ⟨env, G, _, _, r, hP, fun v H' G' s o => ?_⟩
    cases (show Rp W G' v _ from o)
    exact ⟨b, rfl, k _ H' G' s (.bl _)⟩
  · cases p
theorem ownEq_tE {neg : Bool} {l : Nat → Option DF} {c : Nat} {P P' : PF} {σ : L2.St} {H : Hp} {Q : VK} (hn : ∀ c F, l c = some F → ∀ T ∈ eqTys, PySem.W.notFirst W.K (W.cl c) (.type T) = true) (h : tE W (pOwnEq neg l c P P') σ H Q) :
    tOp (rOwnEq W W.K neg l) (tE W P) (tE W P') σ H Q := by
  cases hl : l c with
  | none =>
    obtain ⟨env, G, rv, env', r, p, k⟩ := h
    unfold pOwnEq at p
    rw [hl] at p
    cases p
  | some F =>
    have e : pOwnEq neg l c P P' = pTr neg (pFn [false, false] F (aChk (chkEq c) (aCons P (aCons P' aNil)))) := by
      funext env; unfold pOwnEq; rw [hl]
    rw [e] at h
    refine two_tA (tA_imp (chk_tA (fn_tA (E := fun _ _ _ => False) (tr_tE h))) fun vs H2 ⟨q, rvs, G', H0, hf, sb, o⟩ => ?_)
    unfold chkEq at hf
    split at hf
    · rename_i ra rb
      simp only [Bool.and_eq_true, beq_iff_eq] at hf
      obtain ⟨x, y, rfl, o1, o2⟩ := rvs2 o
      obtain ⟨a, dx, fs, rfl, ha⟩ := o1.isObj sb hf.1
      refine ⟨_, _, rfl, c, a, dx, fs, F, hl, rfl, ha, ?_, q⟩
      have h2 := hf.2
      have fin : ∀ d, (tyNm d).isSome = true → Vw W G' H2 y d → EqSide W W.K H2 c y := fun d hd vw => by
        obtain ⟨T, hT⟩ := Option.isSome_iff_exists.mp hd
        exact .inr ⟨T, tyNm_ok sb vw hT, hn c F hl T (tyNm_in hT)⟩
      cases rb with
      | slot j => cases h2
      | dat d =>
        simp only [eqSideB, Bool.or_eq_true, beq_iff_eq] at h2
        rcases h2 with h2 | h2
        · exact fin d h2 (.rp o2)
        · exact .inl (o2.isObj sb h2)
      | own d =>
        simp only [eqSideB, Bool.or_eq_true, beq_iff_eq] at h2
        rcases h2 with h2 | h2
        · obtain ⟨b, ob, rfl, hb, _, _, hob⟩ := o2
          exact fin d h2 (.ob rfl hb hob)
        · exact .inl (o2.isObj sb h2)
    · cases hf
def pCmpO (neg : Bool) (l : Nat → Option DF) (f : D → D → Option RV) (P P' : PF) : PF := fun env => match P env with
  | some (ra, _) => (match ra.cls with
    | some c => pOwnEq neg l c P P' env
    | none => pBin f P P' env)
  | none => none
theorem cmpO_tE {neg : Bool} {l : Nat → Option DF} {f : D → D → Option RV} {r0 : R2} (hn : ∀ c F, l c = some F → ∀ T ∈ eqTys, PySem.W.notFirst W.K (W.cl c) (.type T) = true) (o : OpD W r0 f) {P P' : PF} {σ : L2.St} {H : Hp} {Q : VK} (h : tE W (pCmpO neg l f P P') σ H Q) :
    tOp (fun x y H Q => rOwnEq W W.K neg l x y H Q ∨ r0 x y H Q) (tE W P) (tE W P') σ H Q := by
  obtain ⟨env, G, rv, env', rl, p, k⟩ := h
  unfold pCmpO at p
  split at p
  · split at p
    · rename_i c _
      exact tE_imp (ownEq_tE (c := c) hn ⟨env, G, rv, env', rl, p, k⟩) fun x H1 q1 => tE_imp q1 fun y H2 q2 => .inl q2
    · exact tE_imp (op_tE o ⟨env, G, rv, env', rl, p, k⟩) fun x H1 q1 => tE_imp q1 fun y H2 q2 => .inr q2
  · cases p
theorem pd_cmpO {op : CmpOp} {neg : Bool} {l : Nat → Option DF} {f : D → D → Option RV} {r0 : R2} {a b : Expr} {P P' : PF} {pos : Pos} (hl : OpR X (compareOp op) (rOwnEq W W.K neg l)) (h0 : OpR X (compareOp op) r0) (o : OpD W r0 f)
    (hn : ∀ c F, l c = some F → ∀ T ∈ eqTys, PySem.W.notFirst W.K (W.cl c) (.type T) = true) (ha : PD X W P a) (hb : PD X W P' b) (hs : notSet b = true) : PD X W (pCmpO neg l f P P') (.Compare a [op] [b] pos) :=
  PE.weak (pe_cmpR (OpR.or hl h0) ha hb (nomarks hs)) fun _ _ _ h => cmpO_tE hn o h
theorem ptd_cmpO {op : CmpOp} {neg : Bool} {l : Nat → Option DF} {f : D → D → Option RV} {r0 : R2} {a b : Expr} {P P' : PF} {pos : Pos} (hl : OpR X (compareOp op) (rOwnEq W W.K neg l)) (h0 : OpR X (compareOp op) r0) (o : OpD W r0 f)
    (hn : ∀ c F, l c = some F → ∀ T ∈ eqTys, PySem.W.notFirst W.K (W.cl c) (.type T) = true) (ha : PD X W P a) (hb : PD X W P' b) (hs : notSet b = true) : PTD X W (bVal (pCmpO neg l f P P')) (.Compare a [op] [b] pos) :=
  PT.weak (pt_cmpR (OpR.or hl h0) ha hb (nomarks hs)) fun _ _ _ h => cmpO_tE hn o (test_tE h)
/-! ### repr of own -/
def isTxt : RV → Bool
  | .dat (.str _) => true
  | _ => false
def pStrs (P : PF) : PF := fun env => match P env with
  | some (.dat (.str x), e1) => some (.dat (.str x), e1)
  | _ => none
def pOwnS (l : Nat → Option DF) (c : Nat) (P : PAF) : PF := fun env => match l c with
  | some F => pStrs (pFn [false] F (aChk (chkU c) P)) env
  | none => none
theorem strs_tE {P : PF} {σ : L2.St} {H : Hp} {Q : VK} (h : tE W (pStrs P) σ H Q) : tE W P σ H fun v H' => (∃ z, v = .str z) ∧ Q v H' := by
  obtain ⟨env, G, rv, env', r, p, k⟩ := h
  unfold pStrs at p
  split at p
  · rename_i b e1 hP
    cases p
    refine ⟨env, G, _, _, r, hP, fun v H' G' s o => ?_⟩
    have o' : Rp W G' v (.str b) := o
    cases o'
    exact ⟨⟨_, rfl⟩, k _ H' G' s o⟩
  · cases p
theorem ownS_tE {l : Nat → Option DF} {c : Nat} {P : PAF} {σ : L2.St} {H : Hp} {Q : VK} (h : tE W (pOwnS l c P) σ H Q) : tCB (rOwnRepr W l) (tA W P) σ H Q := by
  cases hl : l c with
  | none =>
    obtain ⟨env, G, rv, env', r, p, k⟩ := h
    unfold pOwnS at p
    rw [hl] at p
    cases p
  | some F =>
    have e : pOwnS l c P = pStrs (pFn [false] F (aChk (chkU c) P)) := by
      funext env; unfold pOwnS; rw [hl]
    rw [e] at h
    refine tA_imp (chk_tA (fn_tA (E := fun _ _ _ => False) (strs_tE h))) fun vs H2 ⟨q, rvs, G', H0, hf, sb, o⟩ => ?_
    unfold chkU at hf
    split at hf
    · simp only [beq_iff_eq] at hf
      obtain ⟨x, rfl, o1⟩ := rvs1 o
      obtain ⟨a, dx, fs, rfl, ha⟩ := o1.isObj sb hf
      exact ⟨c, a, dx, fs, F, hl, rfl, ha, q⟩
    · cases hf
end
end Den
end

section
set_option Elab.async false
set_option linter.all false
set_option maxRecDepth 100000
set_option maxHeartbeats 4000000
/-! DenK7: calls of any shape: arguments by place and by name, defaults. -/
namespace Den
open PySem L2
section
variable {X : Cx} {W : Pw}
theorem RvsOk.appD {σ : L2.St} {H H' G' : Hp} : ∀ {vs dv : List V} {rvs : List RV} {ds : List D}, RvsOk W σ H H' G' vs rvs → RpAll W G' dv ds → RvsOk W σ H H' G' (vs ++ dv) (rvs ++ ds.map RV.dat)
  | [], dv, [], ds, _, r => by
    induction r using RpAll.rec (motive_1 := fun _ _ _ => True) (motive_3 := fun _ _ _ => True) (motive_4 := fun _ _ _ => True) with
    | nil => exact .nil
    | cons a _ _ ih => exact .cons a (fun d e i h => nomatch h) ih
    | _ => trivial
  | v :: vs, dv, rv :: rvs, ds, .cons h n t, r => by
    refine .cons h (fun d e i h1 h2 => ?_) (RvsOk.appD t r)
    show (vs ++ dv)[i]? ≠ some v
    have h2 : (rvs ++ ds.map RV.dat)[i]? = some (RV.own e) := h2
    rw [List.getElem?_append] at h2
    split at h2
    · rename_i hi
      have hl := t.length
      rw [List.getElem?_append_left (by omega)]
      exact n d e i h1 h2
    · rw [List.getElem?_map] at h2
      cases q : ds[i - rvs.length]? with
      | none => rw [q] at h2; cases h2
      | some d' => rw [q] at h2; cases h2
/-- the parameters: of what is passed and the defaults behind it -/
def aSel (m : Nat) (is : List Nat) (ds : List D) (P : PAF) : PAF := fun env => do
  let (rvs, e1) ← P env
  if rvs.length = m then some (pick is (rvs ++ ds.map RV.dat), e1) else none
theorem sel_tA {m : Nat} {is : List Nat} {ds : List D} {dv : List V} {P : PAF} {σ : L2.St} {H : Hp} {Q : List V → Hp → Prop} (hd : ∀ G, RpAll W G dv ds) (hi : ∀ i ∈ is, i < m + ds.length) (hn : is.Nodup) (h : tA W (aSel m is ds P) σ H Q) :
    tA W P σ H fun vs H1 => vs.length = m ∧ Q (pick is (vs ++ dv)) H1 := by
  obtain ⟨env, G, rvs, env', r, p, k⟩ := h
  unfold aSel at p
  simp only [Option.bind_eq_bind, Option.bind_eq_some_iff, Prod.exists] at p
  obtain ⟨rs, e1, h1, p⟩ := p
  split at p
  · rename_i hl
    cases p
    exact ⟨env, G, rs, _, r, h1, fun vs H1 G1 s o => ⟨by rw [o.length]; exact hl, k _ H1 G1 s ((o.appD (hd G1)).pick (fun i q => by rw [List.length_append, List.length_map, hl]; exact hi i q) hn)⟩⟩
  · cases p
/-- by place, then by name -/
def aApp (P P' : PAF) : PAF := fun env => do
  let (rs, e1) ← P env
  let (rs', e2) ← P' e1
  some (rs ++ rs', e2)
theorem RvsOk.app {σ : L2.St} {H H1 H2 G2 : Hp} : ∀ {vs ws : List V} {rvs rws : List RV}, RvsOk W σ H H2 G2 vs rvs → (∀ (i : Nat) (d : D) (a : Addr), rvs[i]? = some (RV.own d) → vs[i]? = some (.ref a) → H1 a ≠ none) → (∀ b, H1 b = none → H b = none) → RvsOk W σ H1 H2 G2 ws rws → RvsOk W σ H H2 G2 (vs ++ ws) (rvs ++ rws)
  | [], ws, [], rws, _, _, d, t => t.base d
  | v :: vs, ws, rv :: rvs, rws, .cons h n t, f, d, t2 => by
    refine .cons h (fun d1 e i h1 h2 => ?_) (RvsOk.app t (fun i d1 a z1 z2 => f (i + 1) d1 a (by simpa using z1) (by simpa using z2)) d t2)
    subst h1
    show (vs ++ ws)[i]? ≠ some v
    have h2 : (rvs ++ rws)[i]? = some (RV.own e) := h2
    rw [List.getElem?_append] at h2
    have hl := t.length
    split at h2
    · rename_i hi
      rw [List.getElem?_append_left (by omega)]
      exact n d1 e i rfl h2
    · rename_i hi
      rw [List.getElem?_append_right (by omega)]
      obtain ⟨a, ob, ea, ha, _⟩ := h
      subst ea
      rw [hl]
      exact t2.fresh (f 0 d1 a rfl rfl) h2
theorem app_tA {P P' : PAF} {σ : L2.St} {H : Hp} {Q : List V → Hp → Prop} (h : tA W (aApp P P') σ H Q) : tA W P σ H fun vs H1 => tA W P' σ H1 fun zs H2 => Q (vs ++ zs) H2 := by
  obtain ⟨env, G, rvs, env', r, p, k⟩ := h
  unfold aApp at p
  simp only [Option.bind_eq_bind, Option.bind_eq_some_iff, Prod.exists, Option.some.injEq, Prod.mk.injEq] at p
  obtain ⟨rs, e1, h1, rs', e2, h2, rfl, rfl⟩ := p
  refine ⟨env, G, rs, e1, r, h1, fun vs H1 G1 s o => ⟨e1, G1, rs', e2, s.rel, h2, fun zs H2 G2 s2 o2 => ?_⟩⟩
  refine k (vs ++ zs) H2 G2 (s.trans s2) (RvsOk.app (RvsOk.stepAll s.rel (fun b z => s.ownNe r z) s2 o) (fun i d a z1 z2 => ?_) s.ext.dom o2)
  obtain ⟨v, y1, y2⟩ := o.get z1
  rw [z2] at y1
  cases y1
  obtain ⟨a', ob, ea, ha, _⟩ := y2
  cases ea
  rw [ha]; simp
/-- how a call binds: n by place, ks by name, is: where each parameter's value stands -/
structure Shp where
  n : Nat
  ks : List Str
  is : List Nat
def Shp.good (sh : Shp) (m : Nat) : Bool := sh.is.all (fun i => decide (i < sh.n + sh.ks.length + m)) && decide sh.is.Nodup
/-- the defaults ds as they stand -/
def DfOk (W : Pw) (ds : List D) (dv : List V) (its : List Value) : Prop := Vals dv its ∧ ∀ G, RpAll W G dv ds
def ShOk (K : PySem.W.Frag) (fd : FuncData) (ps : List Str) (its : List Value) (sh : Shp) : Prop := ∀ (s : Shared) (us ws : List Value), K.In s.heap → us.length = sh.n → ws.length = sh.ks.length → BindsTo s fd ⟨us, sh.ks.zip ws⟩ (ps.zip (pick sh.is (us ++ ws ++ its)))
/-- .. of a method or __init__ -/
def ShOk1 (K : PySem.W.Frag) (fd : FuncData) (ps : List Str) (its : List Value) (sh : Shp) : Prop := ∀ (s : Shared) (u : Value) (us ws : List Value), K.In s.heap → us.length = sh.n → ws.length = sh.ks.length → BindsTo s fd ⟨u :: us, sh.ks.zip ws⟩ (ps.zip (u :: pick sh.is (us ++ ws ++ its)))
theorem FnG.callS {k : Nat} {f : Addr} {fd : FuncData} {ps : List Str} {sp : Sp} {its : List Value} {dv : List V} {sh : Shp} (F : FnG X.prog X.w X.K X.mg X.base k f fd ps sp) (hg : X.A.guards = some []) (hr : Room k X.A) (hs : ShOk X.K fd ps its sh) (hv : Vals dv its) (E : XK) :
    CallRK X (.ref f) sh.ks (fun vs zs H Q => vs.length = sh.n ∧ zs.length = sh.ks.length ∧ sp (pick sh.is (vs ++ zs ++ dv)) H Q E) := by
  intro pins s σ H vs zs us ws Q I r rz h
  obtain ⟨h1, h2, h⟩ := h
  have rr : Vals (pick sh.is (vs ++ zs ++ dv)) (pick sh.is (us ++ ws ++ its)) := pick_vals ((r.append rz).append hv)
  apply wpAny_call
  apply codeAny_mono (F.run X.A X.stack s H ⟨us, sh.ks.zip ws⟩ _ _ Q E hg hr I.env0 (hs s us ws I.kIn (r.length ▸ h1) (rz.length ▸ h2)) rr h)
  intro res s' hq
  cases res with
  | error e => exact hq.elim
  | ok fl =>
    cases fl with
    | ret u => exact I.after hq
    | next => exact hq.elim
    | brk => exact hq.elim
    | cont => exact hq.elim
theorem guards_makeK {A : Around} {C : Addr} {us : List Value} {kw : List (Str × Value)} (h : A.guards = some []) : (A.under (.builtin "type.__call__" ⟨.ref C :: us, kw⟩)).guards = some [] := guards_make h
theorem FnG.makeS {k : Nat} {f C : Addr} {fd : FuncData} {ps : List Str} {sp : Sp} {its : List Value} {dv : List V} {sh : Shp} (M : Mk X.K C f) (F : FnG X.prog X.w X.K X.mg X.base k f fd ps sp) (hg : X.A.guards = some []) (hr : Room (k + 1) X.A) (hs : ShOk1 X.K fd ps its sh) (hv : Vals dv its) (E : XK) :
    CallRK X (.ref C) sh.ks (fun vs zs H Q => vs.length = sh.n ∧ zs.length = sh.ks.length ∧ ∀ x dx, H x = none → H dx = none → dx ≠ x → sp (.ref x :: pick sh.is (vs ++ zs ++ dv)) (upd (upd H dx (.own x)) x (.ins C dx [])) (fun v H2 => v = .non ∧ Q (.ref x) H2) E) := by
  intro pins s σ H vs zs us ws Q I r rz h
  obtain ⟨h1, h2, h⟩ := h
  have n0 : H s.heap.objs.size = none := I.hok.fresh (Nat.le_refl _)
  have n1 : H (s.heap.objs.size + 1) = none := I.hok.fresh (Nat.le_succ _)
  have hq := h (s.heap.objs.size + 1) s.heap.objs.size n1 n0 (Nat.ne_of_lt (Nat.lt_succ_self _))
  have J := Inv.made (C := C) I
  have rr : Vals (V.ref (s.heap.objs.size + 1) :: pick sh.is (vs ++ zs ++ dv)) (Value.ref (s.heap.objs.size + 1) :: pick sh.is (us ++ ws ++ its)) := .cons rfl (pick_vals ((r.append rz).append hv))
  apply wpAny_call
  apply make_map (f := f) I.kIn M.makes M.init (beq_iff_eq.mp M.fn)
  apply codeAny_mono (F.run _ X.stack _ _ ⟨.ref (s.heap.objs.size + 1) :: us, sh.ks.zip ws⟩ _ _ _ E (guards_make hg) (hr.make C us (sh.ks.zip ws)) (J.env0.make C us (sh.ks.zip ws))
    (hs _ _ us ws J.kIn (r.length ▸ h1) (rz.length ▸ h2)) rr hq)
  intro res s' hq'
  cases res with
  | error e => exact hq'.elim
  | ok fl =>
    cases fl with
    | ret u =>
      obtain ⟨v, H', I3, rv, ev, q3⟩ := J.after hq'
      subst ev
      exact ⟨rv, .ref (s.heap.objs.size + 1), H', I3, rfl, q3⟩
    | next => exact hq'.elim
    | brk => exact hq'.elim
    | cont => exact hq'.elim
theorem kwsP {pos : Pos} : ∀ {kws : List Keyword} {ks : List Str}, kws? kws = some ks → (backToKw pos (keywordEach kws X.env)).all (·.1.isSome) = true ∧ (backToKw pos (keywordEach kws X.env)).any (·.1.isNone) = false ∧ (backToKw pos (keywordEach kws X.env)).filterMap (·.1) = ks := by
  intro kws
  induction kws with
  | nil => intro ks h; cases h; exact ⟨rfl, rfl, rfl⟩
  | cons k r ih =>
    intro ks h
    obtain ⟨nm, e, kp⟩ := k
    cases nm with
    | none => simp [kws?] at h
    | some nm =>
      cases e2 : kws? r with
      | none => simp [kws?, e2] at h
      | some xs =>
        simp only [kws?, e2, Option.some.injEq] at h
        subst h
        obtain ⟨a1, a2, a3⟩ := ih e2
        have e3 : backToKw pos (keywordEach (⟨some nm, e, kp⟩ :: r) X.env) = (some nm, (do let v ← eval e X.env; standAt pos; pure v)) :: backToKw pos (keywordEach r X.env) := rfl
        rw [e3]
        refine ⟨by simpa using a1, by simpa using a2, by simp [a3]⟩
/-- a call of a value that is found -/
theorem callAny_ok {a : Addr} {pos : Pos} {ks : List Str} {es : List Expr} {kws : List Keyword} {t tk : TA} {r : List V → List V → Hp → VK → Prop} {pins : List (Addr × Obj)} {σ : L2.St} {s : Shared} {H : Hp} {Q : VK} (hc : CallRK X (.ref a) ks r) (hk : PySem.W.keepIn X.K (.ref a) = true)
    (ha : PA X es t) (hkw : PK X kws tk) (hs : es.all notStar = true) (hks : kws? kws = some ks) (hnil : es = [] → ∀ σ H Q, t σ H Q → Q [] H) (hnilk : kws = [] → ∀ σ H Q, tk σ H Q → Q [] H) (I : Inv X pins σ H s) (h : tCKw r t tk σ H Q) :
    wpAny (model X.prog X.w) X.A (callWith pos (.ref a) [] (backTo pos (starEach es X.env)) (backToKw pos (keywordEach kws X.env))) (EP X pins σ Q) X.xe s := by
  obtain ⟨q1, q2, q3⟩ := kwsP (X := X) (pos := pos) hks
  cases es with
  | nil =>
    have h' : tk σ H fun zs H2 => r [] zs H2 Q := hnil rfl σ H _ h
    cases kws with
    | nil =>
      cases hks
      refine PySem.W.callWith_K0 I.kIn hk ?_
      exact hc pins s σ H [] [] [] [] Q I .nil .nil (hnilk rfl σ H _ h')
    | cons k kr =>
      refine PySem.W.callWith_KW0 (h₀ := X.base) I.ok.mod.kin hk q1 ?_ (by rw [q2]; rfl)
      refine thn (hkw.run pos pins s σ H _ I h') fun ws s2 ⟨zs, H2, I2, rz, q⟩ => ⟨I2.kIn, ?_⟩
      rw [q3]
      exact hc pins s2 σ H2 [] zs [] ws Q I2 .nil rz q
  | cons e es =>
    have h2 := hs
    rw [List.all_cons, Bool.and_eq_true] at h2
    refine PySem.W.callWith_KW (h₀ := X.base) I.ok.mod.kin hk q1 ?_ (by rw [star_plain h2.1]; show (false || (backTo pos (starEach es X.env)).any (·.1) || _) = false; rw [noStars h2.2, q2]; rfl) (star_plain h2.1)
    refine thn (ha.run pos pins s σ H _ I h) fun us s1 ⟨vs, H1, I1, rv, q⟩ => ?_
    refine thn (hkw.run pos pins s1 σ H1 _ I1 q) fun ws s2 ⟨zs, H2, I2, rz, q⟩ => ⟨I2.kIn, ?_⟩
    rw [q3]
    exact hc pins s2 σ H2 vs zs us ws Q I2 rv rz q
end
end Den
end

section
set_option Elab.async false
set_option linter.all false
set_option maxRecDepth 100000
set_option maxHeartbeats 4000000
/-! DenK8: calls by shape, as expressions; properties, classmethods. -/
namespace Den
open PySem L2
section
variable {X : Cx} {W : Pw}
theorem nilP {P : PAF} (h : P = aNil) {σ : L2.St} {H : Hp} {Q : List V → Hp → Prop} (q : tA W P σ H Q) : Q [] H := nil_tA (by rw [← h]; exact q)
/-- f(..), f a def of the module -/
theorem pe_defS {x : Str} {p pos : Pos} {a : Addr} {ks : List Str} {es : List Expr} {kws : List Keyword} {t tk : TA} {r : List V → List V → Hp → VK → Prop} (hc : CallRK X (.ref a) ks r) (hg : Gl X x) (hm : X.mg x = some (.ref a)) (hk : PySem.W.keepIn X.K (.ref a) = true)
    (ha : PA X es t) (hkw : PK X kws tk) (hs : es.all notStar = true) (hks : kws? kws = some ks) (hnil : es = [] → ∀ σ H Q, t σ H Q → Q [] H) (hnilk : kws = [] → ∀ σ H Q, tk σ H Q → Q [] H) (hdb : (x == ("__debug__" : Str)) = false) :
    PE X (.Call (.Name x p) es kws pos) (tCKw r t tk) := by
  refine ⟨fun pins s σ H Q I h => ?_⟩
  refine wpAny_Call_Name_kw (ld_glob I hg hm ?_ hdb)
  exact callAny_ok hc hk ha hkw hs hks hnil hnilk I h
/-- .. a name of the def at hand -/
theorem pe_locS {x : Str} {p pos : Pos} {a : Addr} {i : Nat} {ks : List Str} {es : List Expr} {kws : List Keyword} {t tk : TA} {r : List V → List V → Hp → VK → Prop} (hc : CallRK X (.ref a) ks r) (hN : X.N[i]? = some x) (hv : Vis X.env.scope x) (hk : PySem.W.keepIn X.K (.ref a) = true)
    (ha : PA X es t) (hkw : PK X kws tk) (hs : es.all notStar = true) (hks : kws? kws = some ks) (hnil : es = [] → ∀ σ H Q, t σ H Q → Q [] H) (hnilk : kws = [] → ∀ σ H Q, tk σ H Q → Q [] H) (hdb : (x == ("__debug__" : Str)) = false) (hcd : (x == ("__classdict__" : Str)) = false) :
    PE X (.Call (.Name x p) es kws pos) (fun σ H Q => σ[i]? = some (some (.ref a)) ∧ tCKw r t tk σ H Q) := by
  refine ⟨fun pins s σ H Q I h => ?_⟩
  obtain ⟨hs', ht⟩ := h
  refine wpAny_Call_Name_kw (thn ((pe_var (pos := p) hN hv hdb hcd).run pins s σ H (fun v H1 => v = .ref a ∧ H1 = H) I ⟨.ref a, hs', rfl, rfl⟩) fun u s1 ⟨v, H1, I1, r1, q1⟩ => ?_)
  obtain ⟨rfl, rfl⟩ := q1
  cases r1
  exact callAny_ok hc hk ha hkw hs hks hnil hnilk I1 ht
def pFnS (io : List Bool) (F : DF) (sh : Shp) (ds : List D) (P P' : PAF) : PF := pFn io F (aSel (sh.n + sh.ks.length) sh.is ds (aApp P P'))
theorem len_split {vs zs : List V} {n m : Nat} (h : (vs ++ zs).length = n + m) (h1 : vs.length = n) : zs.length = m := by
  rw [List.length_append] at h; omega
/-- how many values a list of expressions gives -/
def LenP (P : PAF) (n : Nat) : Prop := ∀ env rvs e, P env = some (rvs, e) → rvs.length = n
theorem lenP_tA {P : PAF} {n : Nat} (hl : LenP P n) {σ : L2.St} {H : Hp} {Q : List V → Hp → Prop} (h : tA W P σ H Q) : tA W P σ H fun vs H1 => vs.length = n ∧ Q vs H1 := by
  obtain ⟨env, G, rvs, env', r, p, k⟩ := h
  exact ⟨env, G, rvs, env', r, p, fun vs H1 G1 s o => ⟨by rw [o.length]; exact hl _ _ _ p, k vs H1 G1 s o⟩⟩
theorem fnS_tE {io : List Bool} {F : DF} {sh : Shp} {ds : List D} {dv : List V} {P P' : PAF} {σ : L2.St} {H : Hp} {Q : VK} (hl : LenP P sh.n) (hl' : LenP P' sh.ks.length) (hd : ∀ G, RpAll W G dv ds) (hg : sh.good ds.length = true) (h : tE W (pFnS io F sh ds P P') σ H Q) :
    tCKw (fun vs zs H Q => vs.length = sh.n ∧ zs.length = sh.ks.length ∧ spF W io.length F (pick sh.is (vs ++ zs ++ dv)) H Q fun _ _ _ => False) (tA W P) (tA W P') σ H Q := by
  unfold Shp.good at hg
  simp only [Bool.and_eq_true, List.all_eq_true, decide_eq_true_eq] at hg
  have q := app_tA (sel_tA hd (fun i hi => by have := hg.1 i hi; omega) hg.2 (fn_tA (E := fun _ _ _ => False) h))
  refine tA_imp (lenP_tA hl q) fun vs H1 ⟨e1, q1⟩ => tA_imp (lenP_tA hl' q1) fun zs H2 ⟨e2, q2⟩ => ⟨e1, e2, q2.2⟩
def pMkS (c : Nat) (io : List Bool) (F : DF) (sh : Shp) (ds : List D) (P P' : PAF) : PF := pMk c io F (aSel (sh.n + sh.ks.length) sh.is ds (aApp P P'))
theorem mkS_tE {c : Nat} {io : List Bool} {F : DF} {sh : Shp} {ds : List D} {dv : List V} {P P' : PAF} {σ : L2.St} {H : Hp} {Q : VK} (hl : LenP P sh.n) (hl' : LenP P' sh.ks.length) (hd : ∀ G, RpAll W G dv ds) (hg : sh.good ds.length = true) (h : tE W (pMkS c io F sh ds P P') σ H Q) :
    tCKw (fun vs zs H Q => vs.length = sh.n ∧ zs.length = sh.ks.length ∧ ∀ x dx, H x = none → H dx = none → dx ≠ x → spF W (io.length + 1) F (.ref x :: pick sh.is (vs ++ zs ++ dv)) (upd (upd H dx (.own x)) x (.ins (W.cl c) dx [])) (fun v H2 => v = .non ∧ Q (.ref x) H2) fun _ _ _ => False) (tA W P) (tA W P') σ H Q := by
  unfold Shp.good at hg
  simp only [Bool.and_eq_true, List.all_eq_true, decide_eq_true_eq] at hg
  have q0 : tCB (fun vs H Q => ∀ x dx, H x = none → H dx = none → dx ≠ x → spF W (io.length + 1) F (.ref x :: (vs ++ [])) (upd (upd H dx (.own x)) x (.ins (W.cl c) dx [])) (fun v H2 => v = .non ∧ Q (.ref x) H2) fun _ _ _ => False) (tA W (aSel (sh.n + sh.ks.length) sh.is ds (aApp P P'))) σ H Q := mk_tE h
  have q := app_tA (sel_tA hd (fun i hi => by have := hg.1 i hi; omega) hg.2 q0)
  refine tA_imp (lenP_tA hl q) fun vs H1 ⟨e1, q1⟩ => tA_imp (lenP_tA hl' q1) fun zs H2 ⟨e2, q2⟩ => ⟨e1, e2, fun x dx a b cc => ?_⟩
  simpa using q2.2 x dx a b cc
/-! ### a class in a name of one's own -/
def pMkL (i : Nat) (mk : Nat → Option PF) : PF := fun env => match env[i]? with
  | some (.dat (.kls c)) => (match mk c with
    | some P => P env
    | none => none)
  | _ => none
/-! ### properties -/
def tPropG (W : Pw) (l : Nat → Option DF) (ta : TE) : TE := fun σ H Q => ta σ H fun x H1 => ∃ c a dx fs F, l c = some F ∧ x = .ref a ∧ H1 a = some (.ins (W.cl c) dx fs) ∧ spF W 1 F [x] H1 Q fun _ _ _ => False
theorem pe_propG {l : Nat → Option DF} {e : Expr} {f : Str} {pos : Pos} {ta : TE} (hg : X.A.guards = some []) (he : PE X e ta) (ok : ∀ c F, l c = some F → Cls X.K (W.cl c) ∧ ∃ p g, PropOf X.K (W.cl c) f p g ∧ OwnAt X W 1 g F) (hab : attributeBase e f X.env (eval e X.env) = eval e X.env) :
    PE X (.Attribute e f pos) (tPropG W l ta) := by
  refine ⟨fun pins s σ H Q I h => ?_⟩
  refine attr_of hab (thn (he.run pins s σ H _ I h) fun u s1 ⟨x, H1, I1, rx, c, a, dx, fs, F, hl, ex, ea, q⟩ => ?_)
  subst ex
  obtain rfl : u = Value.ref a := rx
  obtain ⟨cl, p, g, hp, k, fd, ps, G, hr, hb⟩ := ok c F hl
  obtain ⟨mA, O, _, _, _, _⟩ := ins_get I1.hok ea
  obtain ⟨od, J, _⟩ := O.look
  obtain ⟨rest, hrec⟩ := hp.rec_
  have I2 := I1.tok (s1.toks + 1)
  have hc : (PySem.W.clsIn X.K (W.cl c)).isSome = true := by
    obtain ⟨cd, hc, _⟩ := PySem.W.any_some cl.hd
    rw [hc]
    rfl
  have ll : ([Value.ref a] : List Value).length = ps.length := (G.len _ _ _ _ q : ([V.ref a] : List V).length = ps.length)
  have bb := hb { s1 with toks := s1.toks + 1 } [.ref a] I2.kIn (by simpa using ll)
  refine PySem.W.get_bind I1.kIn J (PySem.W.plainGet_of (cl.get f)).1 (PySem.W.findObj_data hc hp.at_ hp.get hp.tak) (PySem.W.plainGet_of (cl.get f)).2 (wpAny_call (PySem.W.prop_get (s := { s1 with toks := s1.toks + 1 }) I1.kIn hrec ?_))
  refine codeAny_mono (G.run X.A.in1 X.stack { s1 with toks := s1.toks + 1 } H1 ⟨[.ref a], []⟩ [.ref a] [.ref a] Q _ hg hr.in1 I2.env0.in1 (by simpa using bb) (.cons rfl .nil) q) fun r s' hq => ?_
  cases r with
  | error er => exact hq.elim
  | ok fl =>
    cases fl with
    | ret u =>
      obtain ⟨v, H', I3, rv, q3⟩ := I2.after hq
      show wpAny _ _ (handedOut u) _ _ _
      rw [PySem.W.handedOut_of (handed_of rv)]
      exact wpAny_pure ⟨v, H', I3, rv, q3⟩
    | next => exact hq.elim
    | brk => exact hq.elim
    | cont => exact hq.elim
theorem propU_tE {l : Nat → Option DF} {c : Nat} {P : PF} {σ : L2.St} {H : Hp} {Q : VK} (h : tE W (pOwnU l c P) σ H Q) : tPropG W l (tE W P) σ H Q := ownU_tE h
/-- e.f: a property, or a field -/
def pAttr (l : Nat → Option DF) (ok : Nat → Str → Bool) (f : Str) (P : PF) : PF := fun env => match P env with
  | some (ra, _) => (match ra.cls with
    | some c => (match l c with
      | some _ => pOwnU l c P env
      | none => pFld ok f P env)
    | none => pFld ok f P env)
  | none => none
theorem pd_attr {l : Nat → Option DF} {ok : Nat → Str → Bool} {f : Str} {e : Expr} {P : PF} {pos : Pos} (hg : X.A.guards = some []) (hK : X.K = W.K) (hok : ∀ c, ok c f = true → Cls W.K (W.cl c) ∧ NoAttr W.K (W.cl c) f)
    (hp : ∀ c F, l c = some F → Cls X.K (W.cl c) ∧ ∃ p g, PropOf X.K (W.cl c) f p g ∧ OwnAt X W 1 g F) (he : PD X W P e) (hb : baseB e = true) : PD X W (pAttr l ok f P) (.Attribute e f pos) :=
  PE.weak (PE.or (pe_propG hg he hp (base_any hb)) (pe_fld he (base_any hb))) fun σ H Q h => by
    obtain ⟨env, G, rv, env', rl, p, k⟩ := h
    unfold pAttr at p
    split at p
    · split at p
      · rename_i c _
        split at p
        · exact .inl (propU_tE (c := c) ⟨env, G, rv, env', rl, p, k⟩)
        · exact .inr (by rw [hK]; exact fld_tE hok ⟨env, G, rv, env', rl, p, k⟩)
      · exact .inr (by rw [hK]; exact fld_tE hok ⟨env, G, rv, env', rl, p, k⟩)
    · cases p
/-! ### classmethods -/
theorem pe_cmethG {x m : Str} {xp ap pos : Pos} {c n : Nat} {mc : Value} {p g : Addr} {F : DF} {e : Expr} {es : List Expr} {t : TA} (hg : Gl X x) (hm : X.mg x = some (.ref (W.cl c))) (hgd : X.A.guards = some []) (r : ClX.CRead X.K (W.cl c) mc) (cm : ClX.CMet X.K (W.cl c) mc m p g) (ow : OwnAt X W n g F)
    (ha : PA X (e :: es) t) (hdb : (x == ("__debug__" : Str)) = false) (hs : (e :: es).all notStar = true) (hn : (e :: es).length < 30) (hl : (ap.endLine == pos.line) = true) :
    PE X (.Call (.Attribute (.Name x xp) m ap) (e :: es) [] pos) (fun σ H Q => t σ H fun vs H1 => spF W n F (.ref (W.cl c) :: vs) H1 Q fun _ _ _ => False) := by
  have h2 := hs
  rw [List.all_cons, Bool.and_eq_true] at h2
  refine ⟨fun pins s σ H Q I h => ?_⟩
  refine PySem.W.methodCall_KW (pl := _) (thn ((pe_glob (pos := xp) hg hm (v := .ref (W.cl c)) rfl hdb).run pins s σ H (fun v H1 => v = .ref (W.cl c) ∧ H1 = H) I ⟨rfl, rfl⟩) fun u s1 ⟨v, H1, I1, rx, ev, eH⟩ => ?_) (method_eq rfl hs hn hl)
  subst ev; subst eH
  obtain rfl : u = Value.ref (W.cl c) := rx
  refine ClX.getmethcm_ok I1 r cm fun s2 I2 => ?_
  refine ClX.callwith_cm I2 (ClX.base_none I1 (Nat.le_refl _)) cm.fi (thn (ha.run pos _ s2 σ H1 _ I2 h) fun us s3 ⟨vs, H2, I3, rv, q2⟩ => ⟨⟨ClX.pin_at I3, I3.kIn⟩, ?_⟩) (star_plain h2.1) (noStars h2.2)
  obtain ⟨k, fd, ps, G, hr, hb⟩ := ow
  have rr : Vals (V.ref (W.cl c) :: vs) (Value.ref (W.cl c) :: us) := .cons rfl rv
  have ll : (Value.ref (W.cl c) :: us).length = ps.length := rr.length ▸ G.len _ _ _ _ q2
  have bb := hb s3 (.ref (W.cl c) :: us) I3.kIn (by simpa using ll)
  have z : wpAny (model X.prog X.w) X.A (call (.ref s1.heap.objs.size) us) (EP X ((s1.heap.objs.size, PySem.W.methodObj (.ref g) (.ref (W.cl c))) :: pins) σ Q) X.xe s3 := (wpAny_call (PySem.W.method_call (ClX.pin_at I3) (codeAny_mono (G.run X.A X.stack s3 H2 ⟨.ref (W.cl c) :: us, []⟩ _ _ Q _ hgd (hr.mono (Nat.le_succ k)) I3.env0 (by simpa using bb) rr q2) fun res s' hq => by
      cases res with
      | error er => exact hq.elim
      | ok fl =>
        cases fl with
        | ret u => exact I3.after hq
        | next => exact hq.elim
        | brk => exact hq.elim
        | cont => exact hq.elim)))
  exact thn z fun _ _ y => ClX.unpinE y
def pCm (io : List Bool) (F : DF) (c : Nat) (P : PAF) : PF := pFn (false :: io) F (aCons (pC (.kls c)) P)
theorem cm_tE {io : List Bool} {F : DF} {c : Nat} {P : PAF} {σ : L2.St} {H : Hp} {Q : VK} (h : tE W (pCm io F c P) σ H Q) : tA W P σ H fun vs H1 => spF W (io.length + 1) F (.ref (W.cl c) :: vs) H1 Q fun _ _ _ => False := by
  have q := fn_tA (E := fun _ _ _ => False) h
  obtain ⟨env, G, rvs, env', r, p, k⟩ := q
  unfold aCons pC at p
  simp only [Option.bind_eq_bind, Option.bind_eq_some_iff, Prod.exists, Option.some.injEq, Prod.mk.injEq] at p
  obtain ⟨rv, e1, ⟨rfl, rfl⟩, rs, e2, h2, rfl, rfl⟩ := p
  exact ⟨env, G, rs, e2, r, h2, fun vs H1 G1 s o => k (.ref (W.cl c) :: vs) H1 G1 s (.cons (.kls c) (fun d e i h => nomatch h) o)⟩
end
end Den
end

section
set_option Elab.async false
set_option linter.all false
set_option maxRecDepth 100000
set_option maxHeartbeats 4000000
/-! DenK9: great ints, gcd, str, f-strings, isinstance of own classes, while, lists let go of. -/
namespace Den
open PySem L2
section
variable {X : Cx} {W : Pw}
/-! ### great ints -/
def mul3D (d e : D) : Option RV := match d, e with
  | .int i, .int j => if mulB i j then some (.dat (.int (i * j))) else if i.natAbs.log2 + j.natAbs.log2 < 1000000 then some (.dat (.int (i * j))) else none
  | d, e => mul2D d e
def rMul3 : R2 := fun x y H Q => rMul2 x y H Q ∨ rI CMulW (fun i j => .int (i * j)) x y H Q
theorem opr_mul3 : OpR X (binaryOp .Mult) rMul3 := opr_mul2.or op_mulW
theorem opd_mul3 : OpD W rMul3 mul3D := by
  intro x y d e G H Q z s vx vy hf k
  unfold mul3D at hf
  split at hf
  · split at hf
    · rename_i h
      exact .inl (opd_mul2 x y _ _ G H Q z s vx vy (by show (if mulB _ _ = true then _ else _) = _; rw [if_pos h]; exact hf) k)
    · split at hf
      · rename_i h
        cases hf
        cases vx.int; cases vy.int
        exact .inr ⟨_, _, rfl, rfl, h, k _ _ _ (NR.dat s (.int _))⟩
      · cases hf
  · exact .inl (opd_mul2 x y _ _ G H Q z s vx vy hf k)
def CDivF (_ j : Int) : Prop := j ≠ 0 ∧ j.natAbs.log2 < 9000
theorem op_fdivF : OpR X (binaryOp .FloorDiv) (rI CDivF fun i j => .int (i.fdiv j)) := opI fun i j _ _ _ _ _ hc q => PyProof.Rows.floordiv_int hc.1 q (.inl (PyProof.noPylong_of_log2 hc.2))
def fdiv3D (d e : D) : Option RV := match d, e with
  | .int i, .int j => if 0 < j ∧ j < 1073741824 then some (.dat (.int (i / j))) else if j ≠ 0 ∧ j.natAbs.log2 < 9000 then some (.dat (.int (i.fdiv j))) else none
  | _, _ => none
def rFdiv3 : R2 := fun x y H Q => rI CDiv (fun i j => .int (i / j)) x y H Q ∨ rI CDivF (fun i j => .int (i.fdiv j)) x y H Q
theorem opr_fdiv3 : OpR X (binaryOp .FloorDiv) rFdiv3 := op_fdiv.or op_fdivF
theorem opd_fdiv3 : OpD W rFdiv3 fdiv3D := by
  intro x y d e G H Q z s vx vy hf k
  unfold fdiv3D at hf
  split at hf
  · cases vx.int; cases vy.int
    split at hf
    · rename_i h
      cases hf
      exact .inl ⟨_, _, rfl, rfl, h, k _ _ _ (NR.dat s (.int _))⟩
    · split at hf
      · rename_i h
        cases hf
        exact .inr ⟨_, _, rfl, rfl, h, k _ _ _ (NR.dat s (.int _))⟩
      · cases hf
  · cases hf
/-! ### gcd, str -/
def gcdD : List D → Option RV
  | [.int i, .int j] => some (.dat (.int (Nat.gcd i.natAbs j.natAbs : Nat)))
  | _ => none
theorem callD_gcd : CallD W rGcd gcdD := by
  intro xs ds G H Q z s vs hf k
  unfold gcdD at hf
  split at hf
  · cases vs with | cons v t => cases t with | cons v' t => cases t; cases v.int; cases v'.int; cases hf; exact ⟨_, _, rfl, k _ _ _ (NR.dat s (.int _))⟩
  · cases hf
def strD1 : List D → Option RV
  | [.int i] => if i.natAbs.log2 < 1920 then some (.dat (.str (toString i))) else none
  | _ => none
theorem callD_str : CallD W (fun xs H Q => ∃ i, xs = [.int i] ∧ i.natAbs.log2 < 1920 ∧ Q (.str (toString i)) H) strD1 := by
  intro xs ds G H Q z s vs hf k
  unfold strD1 at hf
  split at hf
  · cases vs with
    | cons v t =>
      cases t; cases v.int
      split at hf
      · rename_i h; cases hf; exact ⟨_, rfl, h, k _ _ _ (NR.dat s (.str _))⟩
      · cases hf
  · cases hf
/-! ### repr of anything -/
def rReprO (W : Pw) (K : PySem.W.Frag) (l : Nat → Option DF) : List V → Hp → VK → Prop := fun xs H Q => rRepr K xs H Q ∨ rOwnRepr W l xs H Q
def pReprO (l : Nat → Option DF) (P : PAF) : PF := fun env => match P env with
  | some ([ra], _) => (match ra.cls with
    | some c => pOwnS l c P env
    | none => pCall reprD P env)
  | _ => none
theorem reprO_tE {l : Nat → Option DF} {P : PAF} {σ : L2.St} {H : Hp} {Q : VK} (h : tE W (pReprO l P) σ H Q) : tCB (rReprO W W.K l) (tA W P) σ H Q := by
  obtain ⟨env, G, rv, env', rl, p, k⟩ := h
  unfold pReprO at p
  split at p
  · split at p
    · rename_i c _
      exact tA_imp (ownS_tE (c := c) ⟨env, G, rv, env', rl, p, k⟩) fun _ _ z => .inr z
    · exact tA_imp (call_tE callD_repr ⟨env, G, rv, env', rl, p, k⟩) fun _ _ z => .inl z
  · cases p
/-! ### f-strings -/
def pFmt (P : PF) : PF := fun env => match P env with
  | some (.dat (.str y), e1) => if y.length ≤ sizeLine then some (.dat (.str y), e1) else none
  | some (.dat (.int i), e1) => if i.natAbs.log2 < 1920 then some (.dat (.str (toString i)), e1) else none
  | _ => none
theorem pd_fmt {e : Expr} {P : PF} {pos : Pos} (h : PD X W P e) : PD X W (pFmt P) (.FormattedValue e (-1) none pos) := PE.weak (pe_fmt h) fun σ H Q ⟨env, G, rv, env', r, p, k⟩ => by
  unfold pFmt at p
  split at p
  · rename_i y e1 hP
    split at p
    · rename_i hz
      cases p
      refine ⟨env, G, _, _, r, hP, fun v H1 G1 s o => ?_⟩
      have o' : Rp W G1 v (.str y) := o
      cases o'
      exact .inl ⟨y, rfl, hz, k _ H1 G1 s o⟩
    · cases p
  · rename_i i e1 hP
    split at p
    · rename_i hz
      cases p
      refine ⟨env, G, _, _, r, hP, fun v H1 G1 s o => ?_⟩
      have o' : Rp W G1 v (.int i) := o
      cases o'
      exact .inr ⟨i, rfl, hz, k _ H1 G1 s (.str _)⟩
    · cases p
  · cases p
def pJs : List PF → Str → PF
  | [], acc => fun env => some (.dat (.str acc), env)
  | P :: Ps, acc => fun env => match P env with
    | some (.dat (.str y), e1) => if (acc ++ y).length ≤ sizeLine then pJs Ps (acc ++ y) e1 else none
    | _ => none
theorem js_tE : ∀ {Ps : List PF} {acc : Str} {σ : L2.St} {H : Hp} {Q : VK}, tE W (pJs Ps acc) σ H Q → tJs (Ps.map (tE W)) acc σ H fun out H1 => Q (.str out) H1
  | [], acc, σ, H, Q, ⟨env, G, rv, env', r, p, k⟩ => by
    cases p
    exact k _ H G (Step.refl r) (.str _)
  | P :: Ps, acc, σ, H, Q, ⟨env, G, rv, env', r, p, k⟩ => by
    unfold pJs at p
    split at p
    · rename_i y e1 hP
      split at p
      · rename_i hz
        refine ⟨env, G, _, _, r, hP, fun v H1 G1 s o => ?_⟩
        have o' : Rp W G1 v (.str y) := o
        cases o'
        exact ⟨y, rfl, hz, js_tE ⟨e1, G1, rv, env', s.rel, p, fun v H2 G2 s2 o2 => k v H2 G2 (s.trans s2) (o2.base s.ext.dom)⟩⟩
      · cases p
    · cases p
inductive PJD (X : Cx) (W : Pw) : List Expr → List PF → Prop
  | nil : PJD X W [] []
  | cons {e : Expr} {P : PF} {es : List Expr} {Ps : List PF} : PD X W P e → PJD X W es Ps → PJD X W (e :: es) (P :: Ps)
theorem PJD.pj : ∀ {es : List Expr} {Ps : List PF}, PJD X W es Ps → PJ X es (Ps.map (tE W))
  | _, _, .nil => .nil
  | _, _, .cons h t => .cons h (PJD.pj t)
theorem pd_joined {v1 v2 : Expr} {rest : List Expr} {Ps : List PF} {pos : Pos} (h : PJD X W (v1 :: v2 :: rest) Ps) : PD X W (pJs Ps Str.empty) (.JoinedStr (v1 :: v2 :: rest) pos) := PE.weak (pe_joined h.pj) fun _ _ _ q => js_tE q
/-! ### isinstance -/
abbrev Ty := String ⊕ Nat
def tyTag : D → Option Ty
  | .obj c _ => some (.inr c)
  | d => (tyNm d).map .inl
def clTag : D → Option Ty
  | .typ n => some (.inl n)
  | .kls c => some (.inr c)
  | _ => none
def tyVal (W : Pw) : Ty → Value
  | .inl n => .type n
  | .inr c => .ref (W.cl c)
/-- the answers that are known beside the built-in ones -/
abbrev IsiT := List ((Ty × Ty) × Bool)
def isi2D (tb : IsiT) : List D → Option RV
  | [d, c] => match tyTag d, clTag c with
    | some t, some u => (match tb.lookup (t, u) with
      | some b => some (.dat (.bl b))
      | none => isiD [d, c])
    | _, _ => isiD [d, c]
  | _ => none
/-- what isinstance asks of an own class -/
structure IsiC (K : PySem.W.Frag) (C : Addr) : Prop where
  cl : Cls K C
  ha : PySem.W.findIn K (.ref C) "__class__" = some (some (.builtin "object.__class__"))
  hn : PySem.W.specialIn K (.builtin "object.__class__") "__get__" = some (some (.builtin "getset_descriptor.__get__"))
  htk : PySem.W.takesIn K (.builtin "object.__class__") = some true
  hm : PySem.W.mroIn K C (.type "object") = some true
structure IsiOk (W : Pw) (tb : IsiT) : Prop where
  ans : ∀ t u b, tb.lookup (t, u) = some b → PySem.W.kitOne W.K (tyVal W t) (tyVal W u) = some b
  cls : ∀ c u b, tb.lookup (.inr c, u) = some b → IsiC W.K (W.cl c)
theorem callD_isi2 {tb : IsiT} (ok : IsiOk W tb) : CallD W (rIsiA W.K) (isi2D tb) := by
  intro xs ds G H Q z s vs hf k
  unfold isi2D at hf
  split at hf
  · rename_i d c
    split at hf
    · rename_i t u ht hu
      split at hf
      · rename_i b hb
        cases hf
        cases vs with
        | @cons x0 _ _ _ v w => cases w with
          | @cons y0 _ _ _ v' w =>
            cases w
            have hc : ∃ cv, ClsV cv (tyVal W u) ∧ y0 = cv := by
              cases c <;> simp only [clTag] at hu <;> cases hu
              · exact ⟨_, .ty _, v'.typ⟩
              · exact ⟨_, .own _, v'.kls⟩
            obtain ⟨cv, h1, h2⟩ := hc
            subst h2
            have hx : TyX W.K H x0 (tyVal W t) := by
              cases d with
              | obj c0 fs =>
                cases ht
                obtain ⟨a, dx, fv, rfl, ha, _⟩ := v.obj s
                have q := ok.cls _ _ _ hb
                exact .base (.ins ha q.cl q.ha q.hn q.htk q.hm)
              | _ =>
                simp only [tyTag, Option.map_eq_some_iff] at ht
                obtain ⟨T, h3, rfl⟩ := ht
                exact tyNm_ok s v h3
            exact .inl ⟨_, _, _, _, b, rfl, h1, hx, ok.ans _ _ _ hb, k _ _ _ (NR.dat s (.bl _))⟩
      · exact callD_isi xs _ G H Q z s vs hf k
    · exact callD_isi xs _ G H Q z s vs hf k
  · cases hf
/-! ### while -/
def whileF (np : Nat) (c : BF) (b : SF) : Nat → Env' → Option Out
  | 0, _ => none
  | n + 1, env => (c env).bind fun r => if ownB np env r.2 then (if r.1 then (b r.2).bind fun o => match o with
      | .nx e => whileF np c b n e
      | .ct e => whileF np c b n e
      | .bk e => some (.nx e)
      | .rt rv e => some (.rt rv e) else some (.nx r.2)) else none
def sWhile (np : Nat) (c : BF) (b : SF) (n : Nat) : SF := whileF np c b n
theorem while_tS {E : Entry} {c : BF} {b : SF} {n : Nat} {D : Ends} {σ : St} {H : Hp} (h : tS W E (sWhile E.np c b n) D σ H) : tWhile (tT W c) (tS W E b) D σ H := by
  obtain ⟨env, G, o, r0, p, k⟩ := h
  refine ⟨fun m σ2 H2 => ∃ env2 G2, E.To W σ2 env2 H2 G2 ∧ Same G G2 ∧ whileF E.np c b m env2 = some o, ⟨n, env, G, r0, Same.refl _, p⟩, ?_⟩
  rintro m σ2 H2 ⟨env2, G2, t, sg, q⟩
  cases m with
  | zero => cases q
  | succ m =>
    simp only [whileF, Option.bind_eq_some_iff, Prod.exists] at q
    obtain ⟨bb, e1, h1, q⟩ := q
    split at q
    · rename_i hb
      refine ⟨env2, G2, bb, e1, t.rel, h1, fun H3 G3 s => ?_⟩
      have t3 := t.trans (s.toS (np := E.np) t.rel (ownB_ok hb))
      cases bb with
      | true =>
        simp only [if_true, Option.bind_eq_some_iff] at q
        obtain ⟨o1, h2, q⟩ := q
        refine iteT ⟨fun σ' H' => ∃ env' G', E.To W σ' env' H' G' ∧ Same G G' ∧ whileF E.np c b m env' = some o, fun σ' H' z => ⟨m, Nat.lt_succ_self m, z⟩, e1, G3, o1, t3, h2, ?_⟩
        have sg3 : Same G G3 := sg.trans s.ext.same
        cases o1 with
        | nx e => exact fun σ' H' G' t' z => ⟨e, G', t', sg3.trans z, q⟩
        | ct e => exact fun σ' H' G' t' z => ⟨e, G', t', sg3.trans z, q⟩
        | bk e => cases q; exact fun σ' H' G' t' z => k σ' H' G' t' (sg3.trans z)
        | rt rv e => cases q; exact fun v σ' H' G' t' z ok => k v σ' H' G' t' (sg3.trans z) ok
      | false =>
        simp only [Bool.false_eq_true, if_false] at q
        cases q
        exact iteF (k σ2 H3 G3 t3 (sg.trans s.ext.same))
    · cases q
/-! ### own lists let go of -/
def fzE (np : Nat) (env : Env') : List Nat → Env'
  | [] => env
  | i :: is => fzE np (match env[i]? with
    | some (.own d) => if i < np then env else env.set i (.dat d)
    | _ => env) is
def sFz (np : Nat) (is : List Nat) (P : SF) : SF := fun env => P (fzE np env is)
theorem Rel.freezeSlot {σ : St} {env : Env'} {H G : Hp} {i : Nat} {a : Addr} {o : HO} {d : D} (r : Rel W σ env H G) (hi : env[i]? = some (.own d)) (hs : σ[i]? = some (some (.ref a))) (ha : H a = some o) (ga : G a = none) (ob : Ob W G o d) : Rel W σ (env.set i (.dat d)) H (upd G a o) := by
  have hl : i < env.length := (List.getElem?_eq_some_iff.mp hi).1
  have sg : Same G (upd G a o) := same_upd ga
  have nz : ∀ (j : Nat) (d : D), env[j]? = some (.nst d) → a ∉ zone H σ[j]? (.nst d) := fun j d h z => by
    have e := r.nst j i d _ a h hi z (by rw [hs]; simp [zone])
    subst e
    rw [hi] at h; cases h
  refine ⟨by simp [r.len], fun b u e => ?_, fun j s hj => ?_, fun j k d' s b h1 h2 h3 h4 h5 => ?_, r.nst.map fun j s c h m => ?_⟩
  rotate_right
  · by_cases e : j = i
    · subst e
      rw [List.getElem?_set_self hl] at h
      cases h
      unfold zone at m; split at m <;> cases m
    · rw [List.getElem?_set_ne (Ne.symm e)] at h
      exact ⟨s, h, m, fun d e => ⟨d, e⟩⟩
  · by_cases z : b = a
    · subst z; rw [upd_same] at e; cases e; exact ha
    · rw [upd_ne z] at e; exact r.sub b u e
  · by_cases e : j = i
    · subst e
      rw [List.getElem?_set_self hl] at hj
      cases hj
      exact ⟨_, hs, (ob.mono sg).rp upd_same⟩
    · rw [List.getElem?_set_ne (Ne.symm e)] at hj
      refine (r.slot j s hj).mono sg (fun _ _ _ _ q => q) (fun b e1 e2 e3 e4 => ?_) fun d b e m => ⟨fun _ q => q, fun q _ => by
        subst e
        rw [upd_ne (fun z => nz j d hj (by rw [← z]; exact m))]; exact q⟩
      have ne : b ≠ a := fun z => by
        subst z
        cases s with
        | own d' => exact e (r.dist j i d' (.own d) b hj hi rfl e1 hs)
        | _ => cases e2
      rw [upd_ne ne]; exact e3
  · by_cases ej : j = i
    · subst ej
      rw [List.getElem?_set_self hl] at h1
      cases h1
    · by_cases ek : k = i
      · subst ek
        rw [List.getElem?_set_self hl] at h2
        cases h2
        cases h3
      · rw [List.getElem?_set_ne (Ne.symm ej)] at h1
        rw [List.getElem?_set_ne (Ne.symm ek)] at h2
        exact r.dist j k d' s b h1 h2 h3 h4 h5
theorem isOwn_fz {σ : St} {env : Env'} {i : Nat} {d : D} {b : Addr} (h : IsOwn σ (env.set i (.dat d)) b) : IsOwn σ env b := by
  obtain ⟨j, d', h1, h2⟩ := h
  by_cases e : j = i
  · subst e
    have hj : j < env.length := by
      have := (List.getElem?_eq_some_iff.mp h1).1
      simpa using this
    rw [List.getElem?_set_self hj] at h1
    cases h1
  · rw [List.getElem?_set_ne (Ne.symm e)] at h1
    exact ⟨j, d', h1, h2⟩
theorem mine_fz {σ : St} {env : Env'} {H : Hp} {i : Nat} {d : D} {b : Addr} (h : Mine σ (env.set i (.dat d)) H b) : Mine σ env H b := by
  rcases h with h | ⟨j, d', h1, h2⟩
  · exact .inl (isOwn_fz h)
  · by_cases e : j = i
    · subst e
      have hj : j < env.length := by
        have := (List.getElem?_eq_some_iff.mp h1).1
        simpa using this
      rw [List.getElem?_set_self hj] at h1
      cases h1
    · rw [List.getElem?_set_ne (Ne.symm e)] at h1
      exact .inr ⟨j, d', h1, h2⟩
theorem fz_one {E : Entry} (hE : E.Good) {σ : St} {env : Env'} {H G : Hp} (t : E.To W σ env H G) {i : Nat} {d : D} (hi : env[i]? = some (.own d)) (hn : ¬ i < E.np) : ∃ G', E.To W σ (env.set i (.dat d)) H G' ∧ Same G G' := by
  obtain ⟨a, o, hs, ha, ga, ob⟩ := t.rel.slot i _ hi
  have h0 : E.H a = none := by
    rcases t.own a (.inl ⟨i, d, hi, hs⟩) with z | z
    · exact z
    · obtain ⟨j, d', z1, z2⟩ := hE.mine z
      have hj := hE.1 j d' z1
      obtain ⟨w1, d2, w2⟩ := t.pin j d' hj z1
      have e := t.rel.dist j i d2 (.own d) a w2 hi rfl (by rw [w1]; exact z2) hs
      exact (hn (by omega)).elim
  refine ⟨upd G a o, ⟨t.rel.freezeSlot hi hs ha ga ob, t.ext.freeze ga h0, t.keep, fun b z => t.own b (mine_fz z), fun j d' hj e => ?_, by simp [t.len]⟩, same_upd ga⟩
  obtain ⟨h1, d2, h2⟩ := t.pin j d' hj e
  exact ⟨h1, d2, by rw [List.getElem?_set_ne (fun z => hn (by omega))]; exact h2⟩
theorem fz_all {E : Entry} (hE : E.Good) {σ : St} {H : Hp} : ∀ (is : List Nat) {env : Env'} {G : Hp}, E.To W σ env H G → ∃ G', E.To W σ (fzE E.np env is) H G' ∧ Same G G'
  | [], env, G, t => ⟨G, t, Same.refl _⟩
  | i :: is, env, G, t => by
    unfold fzE
    split
    · rename_i d hi
      split
      · exact fz_all hE is t
      · rename_i hn
        obtain ⟨G1, t1, s1⟩ := fz_one hE t hi hn
        obtain ⟨G2, t2, s2⟩ := fz_all hE is t1
        exact ⟨G2, t2, s1.trans s2⟩
    · exact fz_all hE is t
theorem fz_tS {E : Entry} (hE : E.Good) {is : List Nat} {P : SF} {D : Ends} {σ : St} {H : Hp} (h : tS W E (sFz E.np is P) D σ H) : tS W E P D σ H := by
  obtain ⟨env, G, o, t, p, k⟩ := h
  obtain ⟨G', t', s⟩ := fz_all hE is t
  exact ⟨_, G', o, t', p, k.mono s⟩
end
end Den
end

section
set_option Elab.async false
set_option linter.all false
set_option maxRecDepth 100000
set_option maxHeartbeats 4000000
/-! DenKA: the same, each operand evaluated once. -/
namespace Den
open PySem L2
/-- a call behind its arguments -/
def fnTail (io : List Bool) (F : DF) (rvs : List RV) (e1 : Env') : Option (RV × Env') :=
  if io.length = rvs.length ∧ onceB io rvs [] = true then
    (passE e1 io rvs).bind fun pe => (F pe).bind fun r => (backE e1 io rvs r.2).bind fun e2 => match r.1 with
      | .slot _ => none
      | rv => some (rv, e2)
  else none
theorem pFn_eq {io : List Bool} {F : DF} {P : PAF} {env : Env'} : pFn io F P env = (P env).bind fun r => fnTail io F r.1 r.2 := by
  unfold pFn fnTail
  cases P env with
  | none => rfl
  | some r => rfl
section
variable {X : Cx} {W : Pw}
def pBinV (l r : Nat → Option DF) (f : D → D → Option RV) (P P' : PF) : PF := fun env => (P env).bind fun a => (P' a.2).bind fun b => match a.1.cls with
  | some c => (l c).bind fun F => if sideB c b.1 then fnTail [false, false] F [a.1, b.1] b.2 else none
  | none => match b.1.cls with
    | some c => (r c).bind fun F => if intB a.1 then fnTail [false, false] F [b.1, a.1] b.2 else none
    | none => (a.1.cont b.2).bind fun x => (b.1.cont b.2).bind fun y => (f x y).bind fun z => some (z, b.2)
theorem pBinV_eq {l r : Nat → Option DF} {f : D → D → Option RV} {P P' : PF} : pBinV l r f P P' = pBinO l r f P P' := by
  funext env
  unfold pBinV pBinO
  cases h1 : P env with
  | none => rfl
  | some a =>
    obtain ⟨ra, e1⟩ := a
    simp only [Option.bind_some]
    cases hc : ra.cls with
    | some c =>
      simp only [pOwnL]
      cases hl : l c with
      | none => cases P' e1 <;> rfl
      | some F =>
        simp only [pFn_eq, aChk, aCons, aNil, h1, Option.bind_eq_bind, Option.bind_some]
        cases h2 : P' e1 with
        | none => rfl
        | some b =>
          obtain ⟨rb, e2⟩ := b
          simp only [Option.bind_some, chkL, hc, beq_self_eq_true, Bool.true_and]
          cases sideB c rb <;> rfl
    | none =>
      cases h2 : P' e1 with
      | none => rfl
      | some b =>
        obtain ⟨rb, e2⟩ := b
        simp only [Option.bind_some]
        cases hc2 : rb.cls with
        | some c =>
          simp only [pOwnR]
          cases hr : r c with
          | none => rfl
          | some F =>
            simp only [pFn_eq, aChk, aPick, aCons, aNil, h1, h2, Option.bind_eq_bind, Option.bind_some, pick, List.length_cons, List.length_nil, if_true, List.filterMap_cons, List.filterMap_nil, List.getElem?_cons_zero, List.getElem?_cons_succ, chkR, hc2, beq_self_eq_true, Bool.true_and]
            cases intB ra <;> rfl
        | none =>
          simp only [pBin, h1, h2, Option.bind_eq_bind, Option.bind_some]
theorem pd_binV {op : Operator} {l r : Nat → Option DF} {f : D → D → Option RV} {r0 : R2} {a b : Expr} {P P' : PF} {pos : Pos} (hl : OpR X (binaryOp op) (rOwnL W l)) (hr : OpR X (binaryOp op) (rOwnR W r)) (h0 : OpR X (binaryOp op) r0) (o : OpD W r0 f) (ha : PD X W P a) (hb : PD X W P' b) :
    PD X W (pBinV l r f P P') (.BinOp a op b pos) := by rw [pBinV_eq]; exact pd_binO hl hr h0 o ha hb
def pUnV (l : Nat → Option DF) (f : D → Option RV) (P : PF) : PF := fun env => (P env).bind fun a => match a.1.cls with
  | some c => (l c).bind fun F => fnTail [false] F [a.1] a.2
  | none => (a.1.cont a.2).bind fun x => (f x).bind fun z => some (z, a.2)
theorem pOwnU_at {l : Nat → Option DF} {c : Nat} {P : PF} {env e1 : Env'} {ra : RV} (h1 : P env = some (ra, e1)) (hc : ra.cls = some c) : pOwnU l c P env = (l c).bind fun F => fnTail [false] F [ra] e1 := by
  unfold pOwnU
  cases hl : l c with
  | none => rfl
  | some F => simp only [pFn_eq, aChk, aCons, aNil, h1, Option.bind_eq_bind, Option.bind_some, chkU, hc, beq_self_eq_true, if_true]
theorem pUnV_eq {l : Nat → Option DF} {f : D → Option RV} {P : PF} : pUnV l f P = pUnO l f P := by
  funext env
  unfold pUnV pUnO
  cases h1 : P env with
  | none => rfl
  | some a =>
    obtain ⟨ra, e1⟩ := a
    simp only [Option.bind_some]
    cases hc : ra.cls with
    | some c => simp only [pOwnU_at h1 hc]
    | none => simp only [pUn, h1, Option.bind_eq_bind, Option.bind_some]
theorem pd_unV {op : UnaryOp} {l : Nat → Option DF} {f : D → Option RV} {r0 : V → Hp → VK → Prop} {a : Expr} {P : PF} {pos : Pos} (hl : UnR X (unaryOp op) (rOwnU W l)) (h0 : UnR X (unaryOp op) r0) (o : UnD W r0 f) (ha : PD X W P a) :
    PD X W (pUnV l f P) (.UnaryOp op a pos) := by rw [pUnV_eq]; exact pd_unO hl h0 o ha
def trO (neg : Bool) : Option (RV × Env') → Option (RV × Env')
  | some (.dat (.bl b), e1) => some (.dat (.bl (if neg then !b else b)), e1)
  | _ => none
def pCmpV (neg : Bool) (l : Nat → Option DF) (f : D → D → Option RV) (P P' : PF) : PF := fun env => (P env).bind fun a => (P' a.2).bind fun b => match a.1.cls with
  | some c => (l c).bind fun F => if eqSideB c b.1 then trO neg (fnTail [false, false] F [a.1, b.1] b.2) else none
  | none => (a.1.cont b.2).bind fun x => (b.1.cont b.2).bind fun y => (f x y).bind fun z => some (z, b.2)
theorem pTr_eq {neg : Bool} {P : PF} {env : Env'} : pTr neg P env = trO neg (P env) := by
  unfold pTr trO
  split
  · rename_i h
    first | rfl | rw [h]
  · rename_i h
    first
      | rfl
      | (split
         · rename_i h2; exact (h _ _ h2).elim
         · rfl)
theorem pCmpV_eq {neg : Bool} {l : Nat → Option DF} {f : D → D → Option RV} {P P' : PF} : pCmpV neg l f P P' = pCmpO neg l f P P' := by
  funext env
  unfold pCmpV pCmpO
  cases h1 : P env with
  | none => rfl
  | some a =>
    obtain ⟨ra, e1⟩ := a
    simp only [Option.bind_some]
    cases hc : ra.cls with
    | some c =>
      simp only [pOwnEq]
      cases hl : l c with
      | none => cases P' e1 <;> rfl
      | some F =>
        simp only [pTr_eq, pFn_eq, aChk, aCons, aNil, h1, Option.bind_eq_bind, Option.bind_some]
        cases h2 : P' e1 with
        | none => rfl
        | some b =>
          obtain ⟨rb, e2⟩ := b
          simp only [Option.bind_some, chkEq, hc, beq_self_eq_true, Bool.true_and]
          cases eqSideB c rb <;> rfl
    | none => 
      simp only [pBin, h1, Option.bind_eq_bind, Option.bind_some]
theorem pd_cmpV {op : CmpOp} {neg : Bool} {l : Nat → Option DF} {f : D → D → Option RV} {r0 : R2} {a b : Expr} {P P' : PF} {pos : Pos} (hl : OpR X (compareOp op) (rOwnEq W W.K neg l)) (h0 : OpR X (compareOp op) r0) (o : OpD W r0 f)
    (hn : ∀ c F, l c = some F → ∀ T ∈ eqTys, PySem.W.notFirst W.K (W.cl c) (.type T) = true) (ha : PD X W P a) (hb : PD X W P' b) (hs : notSet b = true) : PD X W (pCmpV neg l f P P') (.Compare a [op] [b] pos) := by
  rw [pCmpV_eq]; exact pd_cmpO hl h0 o hn ha hb hs
theorem ptd_cmpV {op : CmpOp} {neg : Bool} {l : Nat → Option DF} {f : D → D → Option RV} {r0 : R2} {a b : Expr} {P P' : PF} {pos : Pos} (hl : OpR X (compareOp op) (rOwnEq W W.K neg l)) (h0 : OpR X (compareOp op) r0) (o : OpD W r0 f)
    (hn : ∀ c F, l c = some F → ∀ T ∈ eqTys, PySem.W.notFirst W.K (W.cl c) (.type T) = true) (ha : PD X W P a) (hb : PD X W P' b) (hs : notSet b = true) : PTD X W (bVal (pCmpV neg l f P P')) (.Compare a [op] [b] pos) := by
  rw [pCmpV_eq]; exact ptd_cmpO hl h0 o hn ha hb hs
def fldV (ok : Nat → Str → Bool) (f : Str) (rv : RV) (e1 : Env') : Option (RV × Env') := (rv.cont e1).bind fun d => match d with
  | .obj c fs => if ok c f then (fs.lookup f).map fun z => (.dat z, e1) else none
  | _ => none
theorem pFld_eq {ok : Nat → Str → Bool} {f : Str} {P : PF} {env : Env'} : pFld ok f P env = (P env).bind fun a => fldV ok f a.1 a.2 := by
  unfold pFld fldV
  cases P env <;> rfl
def pAttrV (l : Nat → Option DF) (ok : Nat → Str → Bool) (f : Str) (P : PF) : PF := fun env => (P env).bind fun a => match a.1.cls with
  | some c => (match l c with
    | some F => fnTail [false] F [a.1] a.2
    | none => fldV ok f a.1 a.2)
  | none => fldV ok f a.1 a.2
theorem pAttrV_eq {l : Nat → Option DF} {ok : Nat → Str → Bool} {f : Str} {P : PF} : pAttrV l ok f P = pAttr l ok f P := by
  funext env
  unfold pAttrV pAttr
  cases h1 : P env with
  | none => rfl
  | some a =>
    obtain ⟨ra, e1⟩ := a
    simp only [Option.bind_some]
    cases hc : ra.cls with
    | some c =>
      cases hl : l c with
      | some F => simp only [pOwnU_at h1 hc, hl, Option.bind_some]
      | none => simp only [pFld_eq, h1, Option.bind_some, hl]
    | none => simp only [pFld_eq, h1, Option.bind_some]
theorem pd_attrV {l : Nat → Option DF} {ok : Nat → Str → Bool} {f : Str} {e : Expr} {P : PF} {pos : Pos} (hg : X.A.guards = some []) (hK : X.K = W.K) (hok : ∀ c, ok c f = true → Cls W.K (W.cl c) ∧ NoAttr W.K (W.cl c) f)
    (hp : ∀ c F, l c = some F → Cls X.K (W.cl c) ∧ ∃ p g, PropOf X.K (W.cl c) f p g ∧ OwnAt X W 1 g F) (he : PD X W P e) (hb : baseB e = true) : PD X W (pAttrV l ok f P) (.Attribute e f pos) := by
  rw [pAttrV_eq]; exact pd_attr hg hK hok hp he hb
def strsO : Option (RV × Env') → Option (RV × Env')
  | some (.dat (.str x), e1) => some (.dat (.str x), e1)
  | _ => none
def pReprV (l : Nat → Option DF) (P : PAF) : PF := fun env => (P env).bind fun a => match a.1 with
  | [ra] => (match ra.cls with
    | some c => (l c).bind fun F => strsO (fnTail [false] F [ra] a.2)
    | none => (ra.cont a.2).bind fun d => (reprD [d]).bind fun z => some (z, a.2))
  | _ => none
theorem pStrs_eq {P : PF} {env : Env'} : pStrs P env = strsO (P env) := by
  unfold pStrs strsO
  split
  · rename_i h
    first | rfl | rw [h]
  · rename_i h
    first
      | rfl
      | (split
         · rename_i h2; exact (h _ _ h2).elim
         · rfl)
theorem pReprV_eq {l : Nat → Option DF} {P : PAF} : pReprV l P = pReprO l P := by
  funext env
  unfold pReprV pReprO
  cases h1 : P env with
  | none => rfl
  | some a =>
    obtain ⟨rvs, e1⟩ := a
    simp only [Option.bind_some]
    match rvs with
    | [] => rfl
    | [ra] =>
      simp only
      cases hc : ra.cls with
      | some c =>
        simp only [pOwnS]
        cases hl : l c with
        | none => rfl
        | some F => simp only [pStrs_eq, pFn_eq, aChk, h1, Option.bind_some, chkU, hc, beq_self_eq_true, if_true]
      | none =>
        simp only [pCall, h1, Option.bind_eq_bind, Option.bind_some, conts]
        cases ra.cont e1 <;> rfl
    | _ :: _ :: _ => rfl
theorem pd_reprV {l : Nat → Option DF} {p pos : Pos} {e : Expr} {es : List Expr} {P : PAF} (hK : X.K = W.K) (hgd : X.A.guards = some []) (hu : X.A.units + 70 < cLine) (ok : ∀ c F, l c = some F → ∃ f, OwnUn X.K (W.cl c) f "__repr__" ∧ OwnAt X W 1 f F) (hg : Gl X "repr") (hm : X.mg "repr" = none)
    (ha : PAD X W P (e :: es)) (hs : (e :: es).all notStar = true) : PD X W (pReprV l P) (.Call (.Name "repr" p) (e :: es) [] pos) := by
  have h2 := hs
  rw [List.all_cons, Bool.and_eq_true] at h2
  rw [pReprV_eq]
  exact PE.weak (pe_callB (CallR.or (cr_repr hgd hu) (cr_ownRepr hgd (by omega) ok)) hg hm PyProof.Rows.boot_repr ha (by decide) (by decide) (star_plain h2.1) (noStars h2.2)) fun _ _ _ h => by
    have q := reprO_tE h
    rw [hK]; exact q
/-! ### methods -/
/-- an own object's class and fields -/
def RV.objf : RV → Option (Nat × List (Str × D))
  | .dat (.obj c fs) => some (c, fs)
  | .own (.obj c fs) => some (c, fs)
  | _ => none
def pMethV (ms : Nat → Option (List Bool × DF)) (m : Str) (P : PF) (P' : PAF) : PF := fun env => (P env).bind fun a => match a.1.objf with
  | some (c, fs) => (ms c).bind fun q => if fs.lookup m = none then (P' a.2).bind fun r => fnTail (false :: q.1) q.2 (a.1 :: r.1) r.2 else none
  | none => none
def aSelfV (c : Nat) (m : Str) (P : PF) (P' : PAF) : PAF := fun env => (P env).bind fun a => match a.1.objf with
  | some (c', fs) => if c' = c ∧ fs.lookup m = none then (P' a.2).bind fun r => some (a.1 :: r.1, r.2) else none
  | none => none
theorem methV_tE {ms : Nat → Option (List Bool × DF)} {m : Str} {P : PF} {P' : PAF} {σ : St} {H : Hp} {Q : VK} {E : XK} (h : tE W (pMethV ms m P P') σ H Q) :
    tMethA W m (fun c => (ms c).isSome = true) (fun c vs H Q => ∃ q, ms c = some q ∧ spF W (q.1.length + 1) q.2 (vs ++ []) H Q E) (tE W P) (tA W P') σ H Q := by
  obtain ⟨env, G, rv, env', r, p, k⟩ := h
  have p0 := p
  unfold pMethV at p
  cases hP : P env with
  | none => rw [hP] at p; cases p
  | some a =>
    obtain ⟨ra, e1⟩ := a
    simp only [hP, Option.bind_some] at p
    split at p
    · rename_i c fs hob
      simp only [Option.bind_eq_some_iff] at p
      obtain ⟨q, hq, p⟩ := p
      split at p
      · rename_i hlk
        simp only [Option.bind_eq_some_iff] at p
        obtain ⟨r2, h2, p⟩ := p
        have e : pFn (false :: q.1) q.2 (aSelfV c m P P') env = some (rv, env') := by
          rw [pFn_eq]
          unfold aSelfV
          simp only [hP, Option.bind_some, hob, hlk, and_self, if_true, h2]
          exact p
        have h3 : tA W (aSelfV c m P P') σ H fun vs H1 => spF W (q.1.length + 1) q.2 (vs ++ []) H1 Q E := fn_tE ⟨env, G, rv, env', r, e, k⟩
        clear e k p p0 r h2 hob hP hlk
        obtain ⟨env, G, rvs, env', r, p, k⟩ := h3
        unfold aSelfV at p
        simp only [Option.bind_eq_some_iff] at p
        obtain ⟨⟨ra, e1⟩, h1, p⟩ := p
        simp only at p
        split at p
        · rename_i c' fs' hob
          split at p
          · rename_i hc
            simp only [Option.bind_eq_some_iff, Option.some.injEq, Prod.mk.injEq] at p
            obtain ⟨⟨rs, e2⟩, h4, rfl, rfl⟩ := p
            refine tE_one r h1 fun v H1 G1 s o => ?_
            have obj : ∃ a dx fv, v = .ref a ∧ H1 a = some (.ins (W.cl c') dx fv) ∧ fv.lookup m = none := by
              cases ra with
              | slot j => cases hob
              | dat d =>
                cases d <;> cases hob
                obtain ⟨a, dx, fv, rfl, ha, rf⟩ := (Vw.rp (H := H1) (show Rp W G1 v _ from o)).obj s.rel.sub
                exact ⟨a, dx, fv, rfl, ha, rf.none hc.2⟩
              | own d =>
                cases d <;> cases hob
                obtain ⟨a, ob, rfl, ha, _, _, hob⟩ := o
                cases hob with
                | obj rf => exact ⟨a, _, _, rfl, ha, rf.none hc.2⟩
            obtain ⟨a, dx, fv, rfl, ha, hl⟩ := obj
            refine ⟨c', a, dx, fv, (by show (ms c').isSome = true; rw [hc.1, hq]; rfl), rfl, ha, hl, e1, G1, rs, e2, s.rel, h4, fun vs H2 G2 s2 o2 => ?_⟩
            refine ⟨q, by rw [hc.1]; exact hq, ?_⟩
            refine k (.ref a :: vs) H2 G2 (s.trans s2) (.cons (o.step s.rel (fun b z => s.ownNe r z) s2) (fun d e i ed er => ?_) (o2.base s.ext.dom))
            exact o2.fresh (by rw [ha]; simp) er
          · cases p
        · cases p
      · cases p
    · cases p
end
end Den
end

section
set_option Elab.async false
set_option linter.all false
set_option maxRecDepth 100000
set_option maxHeartbeats 4000000
/-! DenKB: methods called in any shape. -/
namespace Den
open PySem L2
section
variable {X : Cx} {W : Pw}
/-- a call of a value that is found, first ahead of the arguments -/
theorem callFirst_ok {f : Value} {first : List Value} {pos : Pos} {ks : List Str} {es : List Expr} {kws : List Keyword} {t tk : TA} {r : List V → List V → Hp → VK → Prop} {pins : List (Addr × Obj)} {σ : L2.St} {s : Shared} {H : Hp} {Q : VK}
    (hc : ∀ (s : Shared) (H : Hp) (vs zs : List V) (us ws : List Value), Inv X pins σ H s → Vals vs us → Vals zs ws → r vs zs H Q → wpAny (model X.prog X.w) X.A (call f (first ++ us) (ks.zip ws)) (EP X pins σ Q) X.xe s) (hk : PySem.W.keepIn X.K f = true)
    (ha : PA X es t) (hkw : PK X kws tk) (hs : es.all notStar = true) (hks : kws? kws = some ks) (hnil : es = [] → ∀ σ H Q, t σ H Q → Q [] H) (hnilk : kws = [] → ∀ σ H Q, tk σ H Q → Q [] H) (I : Inv X pins σ H s) (h : tCKw r t tk σ H Q) :
    wpAny (model X.prog X.w) X.A (callWith pos f first (backTo pos (starEach es X.env)) (backToKw pos (keywordEach kws X.env))) (EP X pins σ Q) X.xe s := by
  obtain ⟨q1, q2, q3⟩ := kwsP (X := X) (pos := pos) hks
  cases es with
  | nil =>
    have h' : tk σ H fun zs H2 => r [] zs H2 Q := hnil rfl σ H _ h
    cases kws with
    | nil =>
      cases hks
      refine PySem.W.callWith_K0 I.kIn hk ?_
      exact hc s H [] [] [] [] I .nil .nil (hnilk rfl σ H _ h')
    | cons k kr =>
      refine PySem.W.callWith_KW0 (h₀ := X.base) I.ok.mod.kin hk q1 ?_ (by rw [q2]; rfl)
      refine thn (hkw.run pos pins s σ H _ I h') fun ws s2 ⟨zs, H2, I2, rz, q⟩ => ⟨I2.kIn, ?_⟩
      rw [q3]
      exact hc s2 H2 [] zs [] ws I2 .nil rz q
  | cons e es =>
    have h2 := hs
    rw [List.all_cons, Bool.and_eq_true] at h2
    refine PySem.W.callWith_KW (h₀ := X.base) I.ok.mod.kin hk q1 ?_ (by rw [star_plain h2.1]; show (false || (backTo pos (starEach es X.env)).any (·.1) || _) = false; rw [noStars h2.2, q2]; rfl) (star_plain h2.1)
    refine thn (ha.run pos pins s σ H _ I h) fun us s1 ⟨vs, H1, I1, rv, q⟩ => ?_
    refine thn (hkw.run pos pins s1 σ H1 _ I1 q) fun ws s2 ⟨zs, H2, I2, rz, q⟩ => ⟨I2.kIn, ?_⟩
    rw [q3]
    exact hc s2 H2 vs zs us ws I2 rv rz q
/-- a default as a value -/
def dV : D → V
  | .int i => .int i
  | .str x => .str x
  | .bl b => .bl b
  | _ => .non
def dFlat : D → Bool
  | .int _ => true
  | .str _ => true
  | .bl _ => true
  | .non => true
  | _ => false
theorem dV_rp {G : Hp} : ∀ {ds : List D}, ds.all dFlat = true → RpAll W G (ds.map dV) ds
  | [], _ => .nil
  | d :: ds, h => by
    rw [List.all_cons, Bool.and_eq_true] at h
    refine .cons ?_ (dV_rp h.2)
    cases d <;> first | (cases h.1; done) | exact .int _ | exact .str _ | exact .bl _ | exact .non
/-- how a method is known: its def, its shapes, what it makes -/
structure Mi where
  io : List Bool
  F : DF
  ds : List D
  sh : Shp
/-- the method m of the class at c: as it is called -/
def MethAt (X : Cx) (W : Pw) (c : Nat) (m : Str) (q : Mi) : Prop := ∃ f k fd ps its, Cls X.K (W.cl c) ∧ Meth X.K (W.cl c) m f ∧ FnG X.prog X.w X.K X.mg X.base k f fd ps (spF W (q.io.length + 1) q.F) ∧ Room (k + 1) X.A ∧ Vals (q.ds.map dV) its ∧ ShOk1 X.K fd ps its q.sh
/-- o.m(..) -/
def tMethS (X : Cx) (W : Pw) (m : Str) (ms : Nat → Option Mi) (ta : TE) (t tk : TA) : TE := fun σ H Q => ta σ H fun x H1 => ∃ c a dx fs q, ms c = some q ∧ x = .ref a ∧ H1 a = some (.ins (W.cl c) dx fs) ∧ fs.lookup m = none ∧
  t σ H1 fun vs H2 => tk σ H2 fun zs H3 => vs.length = q.sh.n ∧ zs.length = q.sh.ks.length ∧ spF W (q.io.length + 1) q.F (.ref a :: pick q.sh.is (vs ++ zs ++ q.ds.map dV)) H3 Q fun _ _ _ => False
theorem meth_eqS {o : Expr} {m : Str} {apos pos : Pos} {args : List Expr} {kws : List Keyword} {ks : List Str} (hb : baseB o = true) (hf : args.all notStar = true) (hks : kws? kws = some ks) (hn : args.length + kws.length < 29) (hl : (apos.endLine == pos.line) = true) : eval (.Call (.Attribute o m apos) args kws pos) X.env = (do
      let ov ← eval o X.env
      standAt apos.atName
      let (f, first) ← holding [ov] (getMethod ov m (do return (← importBound o X.env).getD true))
      callWith pos f first (backTo pos (starEach args X.env)) (backToKw pos (keywordEach kws X.env))) := by
  obtain ⟨q1, q2, q3⟩ := kwsP (X := X) (pos := pos) hks
  have hform : methodCallForm (args.length + kws.length) (backTo pos (starEach args X.env)) (backToKw pos (keywordEach kws X.env)) = true := by
    have h1 := bm_few (pos := pos) (env := X.env) hf (by omega)
    simp only [Bool.and_eq_true, decide_eq_true_eq] at h1
    unfold methodCallForm
    simp only [Bool.and_eq_true, decide_eq_true_eq]
    refine ⟨⟨h1.1.1, q1⟩, ?_⟩
    split <;> omega
  have hpos : methodCallPos true o X.env apos pos = pure pos := by unfold methodCallPos; simp [hl]
  rw [arm_eval_Call, base_any hb]
  congr 1
  funext ov
  congr 1
  funext u
  unfold methodCall
  rw [hform]
  rw [hpos]
  rfl
theorem pe_methS {o : Expr} {m : Str} {apos pos : Pos} {es : List Expr} {kws : List Keyword} {ks : List Str} {ta : TE} {t tk : TA} {ms : Nat → Option Mi} (hg : X.A.guards = some []) (he : PE X o ta) (ok : ∀ c q, ms c = some q → MethAt X W c m q ∧ q.sh.ks = ks)
    (ha : PA X es t) (hkw : PK X kws tk) (hb : baseB o = true) (hs : es.all notStar = true) (hks : kws? kws = some ks) (hn : es.length + kws.length < 29) (hl : (apos.endLine == pos.line) = true) (hnil : es = [] → ∀ σ H Q, t σ H Q → Q [] H) (hnilk : kws = [] → ∀ σ H Q, tk σ H Q → Q [] H) :
    PE X (.Call (.Attribute o m apos) es kws pos) (tMethS X W m ms ta t tk) := by
  refine ⟨fun pins s σ H Q I h => ?_⟩
  refine PySem.W.methodCall_KW (thn (he.run pins s σ H _ I h) ?_) (meth_eqS hb hs hks hn hl)
  rintro u s1 ⟨x, H1, I1, rx, c, a, dx, fs, q, hq, ex, ea, l, z⟩
  subst ex
  cases (show u = Value.ref a from rx)
  obtain ⟨⟨f, k, fd, ps, its, c1, M, F, hr, hv, hsh⟩, hkk⟩ := ok c q hq
  subst hkk
  refine getmeth_ok I1 ea c1 M l ?_
  refine callFirst_ok (r := fun vs zs H Q => vs.length = q.sh.n ∧ zs.length = q.sh.ks.length ∧ spF W (q.io.length + 1) q.F (.ref a :: pick q.sh.is (vs ++ zs ++ q.ds.map dV)) H Q fun _ _ _ => False) (fun s2 H2 vs zs us ws I2 rv rz y => ?_) M.kp ha hkw hs hks hnil hnilk I1 z
  obtain ⟨l1, l2, y⟩ := y
  have rr : Vals (V.ref a :: pick q.sh.is (vs ++ zs ++ q.ds.map dV)) (Value.ref a :: pick q.sh.is (us ++ ws ++ its)) := .cons rfl (pick_vals ((rv.append rz).append hv))
  apply wpAny_call
  apply codeAny_mono (F.run X.A X.stack s2 H2 ⟨.ref a :: us, q.sh.ks.zip ws⟩ _ _ Q _ hg (hr.mono (Nat.le_succ k)) I2.env0 (hsh s2 (.ref a) us ws I2.kIn (rv.length ▸ l1) (rz.length ▸ l2)) rr y)
  intro res s' hq'
  cases res with
  | error e => exact hq'.elim
  | ok fl =>
    cases fl with
    | ret u => exact I2.after hq'
    | next => exact hq'.elim
    | brk => exact hq'.elim
    | cont => exact hq'.elim
def pMethS (ms : Nat → Option Mi) (m : Str) (P : PF) (P' P'' : PAF) : PF := fun env => (P env).bind fun a => match a.1.objf with
  | some (c, fs) => (ms c).bind fun q => if fs.lookup m = none then (aSel (q.sh.n + q.sh.ks.length) q.sh.is q.ds (aApp P' P'') a.2).bind fun r => fnTail (false :: q.io) q.F (a.1 :: r.1) r.2 else none
  | none => none
theorem methS_tE {ms : Nat → Option Mi} {m : Str} {P : PF} {P' P'' : PAF} {σ : St} {H : Hp} {Q : VK} (hl : ∀ c q, ms c = some q → LenP P' q.sh.n) (hl' : ∀ c q, ms c = some q → LenP P'' q.sh.ks.length) (hgd : ∀ c q, ms c = some q → q.sh.good q.ds.length = true) (hfl : ∀ c q, ms c = some q → q.ds.all dFlat = true) (h : tE W (pMethS ms m P P' P'') σ H Q) : tMethS X W m ms (tE W P) (tA W P') (tA W P'') σ H Q := by
  obtain ⟨env, G, rv, env', r, p, k⟩ := h
  unfold pMethS at p
  simp only [Option.bind_eq_some_iff] at p
  obtain ⟨⟨ra, e1⟩, hP, p⟩ := p
  simp only at p
  split at p
  · rename_i c fs hob
    simp only [Option.bind_eq_some_iff] at p
    obtain ⟨q, hq, p⟩ := p
    split at p
    · rename_i hlk
      have p' : pMethV (fun c' => if c' = c then some (q.io, q.F) else none) m P (aSel (q.sh.n + q.sh.ks.length) q.sh.is q.ds (aApp P' P'')) env = some (rv, env') := by
        unfold pMethV
        simp only [hP, Option.bind_some, hob, if_true, hlk]
        exact p
      have q2 := methV_tE (E := fun _ _ _ => False) ⟨env, G, rv, env', r, p', k⟩
      refine tE_imp q2 fun x H1 z => ?_
      obtain ⟨c', a, dx, fv, h1, h2, h3, h4, h5⟩ := z
      have ec : c' = c := by
        by_cases e : c' = c
        · exact e
        · simp [e] at h1
      subst ec
      refine ⟨c', a, dx, fv, q, hq, h2, h3, h4, ?_⟩
      have gd := hgd c' q hq
      unfold Shp.good at gd
      simp only [Bool.and_eq_true, List.all_eq_true, decide_eq_true_eq] at gd
      have q3 : tA W (aSel (q.sh.n + q.sh.ks.length) q.sh.is q.ds (aApp P' P'')) σ H1 fun vs H2 => spF W (q.io.length + 1) q.F (.ref a :: vs) H2 Q fun _ _ _ => False := tA_imp h5 fun vs H2 y => by
        obtain ⟨q', e, y⟩ := y
        simp only [if_true, Option.some.injEq] at e
        subst e
        rw [List.append_nil, h2] at y
        exact y
      have q4 := app_tA (sel_tA (fun G => dV_rp (hfl c' q hq)) (fun i hi => by have := gd.1 i hi; omega) gd.2 q3)
      exact tA_imp (lenP_tA (hl c' q hq) q4) fun vs H2 ⟨e1, y⟩ => tA_imp (lenP_tA (hl' c' q hq) y) fun zs H3 ⟨e2, y2⟩ => ⟨e1, e2, y2.2⟩
    · cases p
  · cases p
end
end Den
end

section
set_option Elab.async false
set_option linter.all false
set_option maxRecDepth 100000
set_option maxHeartbeats 2000000
/-! DenL: a def by its body. -/
namespace Den
open PySem L2
section
variable {W : Pw}

/-- the parameters behind a body: own ones as the body left them -/
def selO : SV → SV → SV
  | .own _, e => e
  | s, _ => s
def outsOf : List SV → List SV → List SV
  | s :: ps, e :: es => selO s e :: outsOf ps es
  | _, _ => []
theorem outsOf_len : ∀ {pe es : List SV}, pe.length ≤ es.length → (outsOf pe es).length = pe.length
  | [], _, _ => by simp [outsOf]
  | _ :: _, [], h => by simp at h
  | s :: ps, e :: es, h => by simp [outsOf, outsOf_len (pe := ps) (es := es) (by simpa using h)]
theorem outsOf_at : ∀ {pe es : List SV} {i : Nat} {t : SV}, (outsOf pe es)[i]? = some t → ∃ s e, pe[i]? = some s ∧ es[i]? = some e ∧ t = selO s e
  | [], _, _, _, h => by simp [outsOf] at h
  | _ :: _, [], _, _, h => by simp [outsOf] at h
  | s :: ps, e :: es, 0, t, h => by simp [outsOf] at h; exact ⟨s, e, by simp, by simp, h.symm⟩
  | s :: ps, e :: es, i + 1, t, h => by
    obtain ⟨s', e', h1, h2, h3⟩ := outsOf_at (pe := ps) (es := es) (i := i) (by simpa [outsOf] using h)
    exact ⟨s', e', by simpa using h1, by simpa using h2, h3⟩
/-- n parameters, m names in all -/
def noNst : List SV → Bool
  | [] => true
  | .nst _ :: _ => false
  | _ :: ss => noNst ss
theorem noNst_ok : ∀ {pe : List SV}, noNst pe = true → ∀ (i : Nat) (d : D), pe[i]? ≠ some (.nst d)
  | [], _, i, d, e => by simp at e
  | s :: ss, h, 0, d, e => by simp at e; subst e; simp [noNst] at h
  | s :: ss, h, i + 1, d, e => noNst_ok (pe := ss) (by cases s <;> first | exact h | cases h) i d (by simpa using e)
def fnF (m : Nat) (P : SF) : DF := fun pe => if noNst pe = false then none else match P (pe ++ List.replicate (m - pe.length) .und) with
  | some (.rt (.dat d) env') => some (.dat d, outsOf pe env')
  | some (.rt (.own d) env') => some (.own d, outsOf pe env')
  | some (.nx env') => some (.dat .non, outsOf pe env')
  | _ => none
theorem append_und {pe : List SV} {k i : Nat} {s : SV} (h : (pe ++ List.replicate k SV.und)[i]? = some s) : pe[i]? = some s ∨ (s = .und ∧ pe.length ≤ i) := by
  rw [List.getElem?_append] at h
  split at h
  · exact .inl h
  · rename_i hi
    rw [List.getElem?_replicate] at h
    split at h
    · cases h; exact .inr ⟨rfl, by omega⟩
    · cases h
theorem Rel.start {N : List Str} {vs : List V} {pe : List SV} {H G : Hp} (r : Rel W (vs.map some) pe H G) : Rel W (L2.start N vs) (pe ++ List.replicate (N.length - pe.length) .und) H G := by
  have hl : vs.length = pe.length := by simpa using r.len
  have at_ : ∀ (i : Nat), i < pe.length → (L2.start N vs)[i]? = (vs.map some)[i]? := fun i hi => by
    unfold L2.start
    rw [List.getElem?_append_left (by simpa [hl] using hi)]
  refine ⟨by unfold L2.start; simp [hl], r.sub, fun i s h => ?_, fun i j d s a h1 h2 h3 h4 h5 => ?_, r.nst.map fun i s c h m => ?_⟩
  rotate_right
  · rcases append_und h with q | ⟨rfl, _⟩
    · exact ⟨s, q, by rw [← at_ i (List.getElem?_eq_some_iff.mp q).1]; exact m, fun d e => ⟨d, e⟩⟩
    · unfold zone at m; split at m <;> cases m
  · rcases append_und h with q | ⟨rfl, _⟩
    · rw [at_ i (List.getElem?_eq_some_iff.mp q).1]; exact r.slot i s q
    · trivial
  · rcases append_und h1 with q1 | ⟨z, _⟩
    · rcases append_und h2 with q2 | ⟨rfl, _⟩
      · rw [at_ i (List.getElem?_eq_some_iff.mp q1).1] at h4
        rw [at_ j (List.getElem?_eq_some_iff.mp q2).1] at h5
        exact r.dist i j d s a q1 q2 h3 h4 h5
      · cases h3
    · cases z
/-- behind the body, seen from the call -/
theorem StepS.out {N : List Str} {vs : List V} {pe : List SV} {H G H' G' : Hp} {σ' : St} {env' : Env'} (nn : ∀ (i : Nat) (d : D), pe[i]? ≠ some (.nst d)) (r : Rel W (vs.map some) pe H G)
    (s : StepS W pe.length (L2.start N vs) (pe ++ List.replicate (N.length - pe.length) .und) H G σ' env' H' G') : Step W (vs.map some) pe H G (outsOf pe env') H' G' := by
  have hl : vs.length = pe.length := by simpa using r.len
  have at_ : ∀ (i : Nat), i < pe.length → (L2.start N vs)[i]? = (vs.map some)[i]? := fun i hi => by
    unfold L2.start
    rw [List.getElem?_append_left (by simpa [hl] using hi)]
  have ow : ∀ b, IsOwn (L2.start N vs) (pe ++ List.replicate (N.length - pe.length) .und) b → IsOwn (vs.map some) pe b := fun b ⟨i, d, h1, h2⟩ => by
    rcases append_und h1 with q | ⟨z, _⟩
    · rw [at_ i (List.getElem?_eq_some_iff.mp q).1] at h2; exact ⟨i, d, q, h2⟩
    · cases z
  have kp : ∀ b o, H b = some o → ¬ IsOwn (vs.map some) pe b → H' b = some o := fun b o h n => s.keep b o h fun z => z.elim (fun z => n (ow b z)) fun ⟨i, d, z, _⟩ => by
    rcases append_und z with q | ⟨q, _⟩
    · exact nn i d q
    · cases q
  -- an own parameter
  have pinA : ∀ (i : Nat) (d : D), pe[i]? = some (.own d) → σ'[i]? = (vs.map some)[i]? ∧ ∃ d', env'[i]? = some (.own d') := fun i d h => by
    have hi := (List.getElem?_eq_some_iff.mp h).1
    obtain ⟨h1, h2⟩ := s.pin i d hi (by rw [List.getElem?_append_left hi]; exact h)
    rw [at_ i hi] at h1
    exact ⟨h1, h2⟩
  have hen : pe.length ≤ env'.length := by rw [s.len]; simp
  have oat : ∀ (i : Nat) (t : SV), (outsOf pe env')[i]? = some t → (∃ d d', pe[i]? = some (.own d) ∧ t = .own d' ∧ env'[i]? = some (.own d') ∧ σ'[i]? = (vs.map some)[i]?) ∨ (pe[i]? = some t ∧ t.isOwn = false) := fun i t h => by
    obtain ⟨u, e, h1, h2, rfl⟩ := outsOf_at h
    cases u with
    | own d =>
      obtain ⟨q1, d', q2⟩ := pinA i d h1
      rw [q2] at h2; cases h2
      exact .inl ⟨d, d', h1, rfl, q2, q1⟩
    | und => exact .inr ⟨h1, rfl⟩
    | dat d => exact .inr ⟨h1, rfl⟩
    | bor d => exact .inr ⟨h1, rfl⟩
    | nst d => exact .inr ⟨h1, rfl⟩
  refine ⟨⟨(outsOf_len hen).symm, fun i t t' h h' => ?_⟩, ⟨by rw [outsOf_len hen]; exact r.len, s.rel.sub, fun i t h => ?_, fun i j d t a h1 h2 h3 h4 h5 => ?_, fun i j d t c h1 _ _ _ => ?_⟩, s.ext, kp⟩
  rotate_right
  · rcases oat i _ h1 with ⟨d0, d', _, z, _, _⟩ | ⟨h1, _⟩
    · cases z
    · exact (nn i d h1).elim
  · rcases oat i t' h' with ⟨d, d', h1, rfl, _, _⟩ | ⟨h1, _⟩
    · rw [h1] at h; cases h; rfl
    · rw [h1] at h; cases h; exact LeS.refl _
  · rcases oat i t h with ⟨d, d', h1, rfl, h2, h3⟩ | ⟨h1, h2⟩
    · rw [← h3]; exact s.rel.slot i _ h2
    · have q := r.slot i t h1
      cases t with
      | own d => cases h2
      | und => trivial
      | dat d => obtain ⟨v, q1, q2⟩ := q; exact ⟨v, q1, Rp.mono s.ext.same q2⟩
      | bor d =>
        obtain ⟨a, o, q1, q2, q3⟩ := q
        refine ⟨a, o, q1, kp a o q2 fun z => ?_, q3.mono s.ext.same⟩
        obtain ⟨k, d', z1, z2⟩ := z
        have := r.dist k i d' (.bor d) a z1 h1 rfl z2 q1
        subst this
        rw [h1] at z1; cases z1
      | nst d => exact (nn i d h1).elim
  · have un : ∀ (i : Nat) (t : SV), (outsOf pe env')[i]? = some t → t.isObj = true → ∃ t', pe[i]? = some t' ∧ t'.isObj = true ∧ (t.isOwn = true → ∃ d, t' = .own d) := fun i t h ho => by
      rcases oat i t h with ⟨d, d', h1, rfl, _, _⟩ | ⟨h1, h2⟩
      · exact ⟨_, h1, rfl, fun _ => ⟨d, rfl⟩⟩
      · exact ⟨t, h1, ho, fun z => by rw [h2] at z; cases z⟩
    obtain ⟨t1, q1, _, q2⟩ := un i _ h1 rfl
    obtain ⟨d1, rfl⟩ := q2 rfl
    obtain ⟨t2, q3, q4, _⟩ := un j t h2 h3
    exact r.dist i j d1 t2 a q1 q3 q4 h4 h5

open PySem.Spec PyProof.Rows in
/-- THE RULE of a def: what its body makes of data -/
theorem fng_den {P : Program} {w : World} {mg : Str → Option Value} {base : Heap} {k : Nat} {f : Addr} {name qual : Str} {params : Arguments} {body : List Stmt} {scope : Scope}
    {dV kV doc pm cdv ct oc : Value} {an od : Option Addr} {osl : Array (Option Value)} {N ps : List Str} {Pb : SF}
    (lk : W.K.lookup f = some ⟨oc, od, .func (PySem.W.fnOf name qual params body scope dV kV doc pm an cdv ct), osl⟩)
    (hcd : PySem.W.codeIn W.K cdv qual = true) (S : FnScope N ps scope)
    (hb : ∀ (A : Around) (outer : List Env) (s : Shared) (H : Hp) (E : XK) (Ent : Entry), (A.deeper (envOfC qual scope s.heap.objs.size f cdv)).guards = some [] →
      Room k (A.deeper (envOfC qual scope s.heap.objs.size f cdv)) → Ent.Good → Ent.np = ps.length →
      PSsD (cxOf CX0 P w W.K mg base N qual scope f cdv A outer s H E).nox W Ent Pb body) :
    FnG P w W.K mg base (k + 1) f (PySem.W.fnOf name qual params body scope dV kV doc pm an cdv ct) ps (spF W ps.length (fnF N.length Pb)) := by
  refine fng_of lk hcd S (fun vs H Q E h => h.1) fun A outer s H vs Q E hg hr hsp => ?_
  obtain ⟨hlen, pe, G, rv, outs, r, p, kk⟩ := hsp
  have hpl : vs.length = pe.length := by simpa using r.len
  unfold fnF at p
  split at p
  · cases p
  rename_i hnn
  have nn := noNst_ok (pe := pe) (by simpa using hnn)
  let Ent : Entry := ⟨ps.length, L2.start N vs, pe ++ List.replicate (N.length - pe.length) .und, H, G⟩
  have good1 : ∀ (i : Nat) (d : D), Ent.env[i]? = some (.own d) → i < Ent.np := fun i d h => by
    rcases append_und h with q | ⟨z, _⟩
    · have := (List.getElem?_eq_some_iff.mp q).1
      show i < ps.length
      omega
    · cases z
  have good2 : ∀ (i : Nat) (d : D), Ent.env[i]? ≠ some (.nst d) := fun i d h => by
    rcases append_und h with q | ⟨z, _⟩
    · exact nn i d q
    · cases z
  have good : Ent.Good := ⟨good1, good2⟩
  refine ⟨_, (hb A outer s H E Ent hg hr good rfl).nox, pe ++ List.replicate (N.length - pe.length) .und, G, ?_⟩
  have r0 : Ent.To W (L2.start N vs) (pe ++ List.replicate (N.length - pe.length) .und) H G := StepS.refl r.start
  have outw : ∀ {σ' : L2.St} {env' : Env'} {H' G' : Hp}, Ent.To W σ' env' H' G' → Step W (vs.map some) pe H G (outsOf pe env') H' G' := fun {σ' env' H' G'} t => by
    have t' : StepS W ps.length (L2.start N vs) (pe ++ List.replicate (N.length - pe.length) .und) H G σ' env' H' G' := t
    rw [← hlen, hpl] at t'
    exact t'.out nn r
  split at p
  · rename_i d env' hP
    cases p
    exact ⟨_, r0, hP, fun v σ' H' G' t _ ok => kk v H' G' (outw t) ok⟩
  · rename_i d env' hP
    cases p
    exact ⟨_, r0, hP, fun v σ' H' G' t _ ok => kk v H' G' (outw t) ok⟩
  · rename_i env' hP
    cases p
    exact ⟨_, r0, hP, fun σ' H' G' t _ => kk .non H' G' (outw t) .non⟩
  · cases p
end
end Den
end

section
set_option Elab.async false
set_option linter.all false
set_option maxRecDepth 100000
set_option maxHeartbeats 2000000
/-! DenX1: sorted(xs, key=f), f a def of texts that tells (len(x), x). -/
namespace Den
open PySem L2
open PySem.Spec PyProof.Rows in
/-- f(z) gives (len(z), z) and leaves all that stood -/
def KeyLen (P : Program) (w : World) (K : PySem.W.Frag) (mg : Str → Option Value) (base : Heap) (f : Addr) : Prop :=
  ∀ (A : Around) (outer : List Env) (s : Shared) (H : Hp) (z : Str) (t : Tok) (E : Value → Shared → Prop), A.handled = none → Room 1 A → Env0 P w K mg base A outer s H → z.length ≤ sizeLine →
    wpAny (model P w) A (call (.ref f) [.str z t]) (PySem.W.KeyPure (.tuple [.int z.length, .str z]) s) E s
section
open PySem.Spec PyProof.Rows
theorem keyLen_of {P : Program} {w : World} {K : PySem.W.Frag} {mg : Str → Option Value} {base : Heap} {f : Addr} {name qual : Str} {params : Arguments} {scope : Scope}
    {dV kV doc pm cdv ct oc : Value} {an od : Option Addr} {osl : Array (Option Value)} {x : Str} {p1 p2 p3 p4 p5 p6 : Pos} {k : Nat}
    (lk : K.lookup f = some ⟨oc, od, .func (PySem.W.fnOf name qual params [.Return (some (.Tuple [.Call (.Name "len" p1) [.Name x p2] [] p3, .Name x p4] k p5)) p6] scope dV kV doc pm an cdv ct), osl⟩)
    (hcd : PySem.W.codeIn K cdv qual = true) (S : FnScope [x] [x] scope) (hb : Binds K (PySem.W.fnOf name qual params [.Return (some (.Tuple [.Call (.Name "len" p1) [.Name x p2] [] p3, .Name x p4] k p5)) p6] scope dV kV doc pm an cdv ct) [x] [])
    (hx : scope.names.lookup x = some .local) (hl : scope.names.lookup ("len" : Str) = some .globalImplicit) (hm : mg "len" = none) (hd : (x == ("__debug__" : Str)) = false) : KeyLen P w K mg base f := by
  intro A outer s H z t E hh hr e0 hz
  have keepK := e0.mod.kin.keeps (fun b o e => (e0.bs b o e).1)
  have lim := e0.mod.nolimit.keeps (fun b o e => (e0.bs b o e).1)
  have r : Vals [V.str z] [Value.str z t] := .cons ⟨t, rfl⟩ .nil
  have hbn := hb s [Value.str z t] keepK rfl
  have kinds : ∀ y ∈ [x].zip [Value.str z t], scope.names.lookup y.1 = some .local ∨
      (scope.names.lookup y.1 = some .cell ∧ ((cellsFrom (s.heap.objs.size + 1) scope.names []).lookup y.1).isSome = true) := by
    intro y hy
    simp only [List.zip_cons_cons, List.zip_nil_right, List.mem_cons, List.not_mem_nil, or_false] at hy
    subst hy
    exact .inl hx
  apply wpAny_call
  apply codeAny_call_function hr.depth (keepK _ _ lk) rfl S.co S.gen rfl (PySem.W.codeRec_of keepK hcd)
  apply hbn
  apply wpAny_newFunctionEnv_cells S.kind kinds
  intro env he s1 xc
  subst he
  refine ⟨lim.keeps xc.toInCall.keep, codeAny_func ?_⟩
  have I : Inv (cxOf CX0 P w K mg base [x] qual scope f cdv A outer s H (fun _ _ _ => False)) [] (start [x] [V.str z]) H s1 :=
    inv_start S hh e0 rfl r xc
  obtain ⟨h1, tk, rfl, hk⟩ := xc.done
  obtain ⟨m, hn, hlk⟩ := I.loc
  obtain ⟨u, ru, l⟩ := hlk 0 x (.str z) rfl rfl (.inl hx)
  obtain ⟨t', rfl⟩ := ru
  have hkx : (cxOf CX0 P w K mg base [x] qual scope f cdv A outer s H (fun _ _ _ => False)).env.kindOf x = some .local := hx
  have hmx : m x = some (.str z t') := by
    rcases l with ⟨_, q⟩ | ⟨q, _⟩
    · exact q
    · rw [hkx] at q; rcases q with q | q <;> cases q
  have lk2 : ∀ (pp : Pos) (tk2 : Nat) (Q : Value → Shared → Prop) (E : Value → Shared → Prop), Q (.str z t') { s with heap := h1, toks := tk2 } → wpAny (model P w) (A.deeper (envOfC qual scope s.heap.objs.size f cdv)) (eval (.Name x pp) (envOfC qual scope s.heap.objs.size f cdv)) Q E { s with heap := h1, toks := tk2 } := fun pp tk2 Q E hq =>
    wpAny_Name (wpAny_loadName_local S.kind hkx hn hmx hq) hd
  refine wpAny_execs_cons (wpAny_Return_some (wpAny_Tuple_spliced ?_))
  refine Calls.spliced_cons ?_
  refine wpAny_Call_Name_kw (ld_blt (x := "len") I hl hm PySem.boot_len ?_ (by decide) (by decide))
  refine PyProof.Rows.callWith_builtin1 (Calls.spliced_cons (lk2 _ _ _ _ (Calls.spliced_nil ?_))) rfl rfl
  refine len_str (by have := sizeLine_eq; omega) ?_
  refine Calls.spliced_cons (lk2 _ _ _ _ (Calls.spliced_nil ⟨by rw [sizeLine_eq]; show 2 ≤ 16777216; decide, ?_⟩))
  refine ⟨_, _, rfl, fun b o e => Heap.get?_push_of_some _ (hk b o e), ?_⟩
  exact .tuple (Heap.get?_push_size _ rfl) rfl rfl (.cons (.int _ _) (.cons (.str _ _) .nil))
end
section
open PySem.Spec PyProof.Rows PySem.W
variable {X : Cx} {W : Pw}
/-- how a text is placed -/
def keyS (z : Str) : PyData := .tuple [.int z.length, .str z]
def leS : Str → Str → Bool := PySem.W.dataLe false keyS
def shortB (zs : List Str) : Bool := decide (zs.length ≤ 16777216) && zs.all fun z => decide (z.length ≤ 16777216)
/-- sorted(xs, key=f) -/
def rSortKey (W : Pw) (f : Addr) : List V → List V → Hp → VK → Prop := fun vs ks H Q => ∃ (a : Addr) (zs : List Str), vs = [V.ref a] ∧ ks = [V.ref f] ∧ SqL W.K H a (zs.map V.str) ∧ shortB zs = true ∧
  ∀ (p : Addr), H p = none → Q (.ref p) (upd H p (.lst ((zs.mergeSort leS).map V.str)))
theorem vals_strs : ∀ {us : List Value} {zs : List Str}, Vals (zs.map V.str) us → EachIs (fun u z => ∃ t, u = Value.str z t) us zs
  | us, [], h => by cases h; exact .nil
  | us, z :: zs, h => by
    cases h with
    | cons h t => exact .cons h (vals_strs t)
theorem strs_vals : ∀ {us : List Value} {zs : List Str}, EachIs (fun u z => ∃ t, u = Value.str z t) us zs → Vals (zs.map V.str) us
  | _, _, .nil => .nil
  | _, _, .cons h t => .cons h (strs_vals t)
theorem cr_sortKey {f : Addr} (hK : X.K = W.K) (F : KeyLen X.prog X.w X.K X.mg X.base f) (hr : Room 3 X.A) : CallRK X (.builtin "sorted") [Str.ofString "key"] (rSortKey W f) := by
  intro pins s σ H vs ks us ws Q I r rz h
  obtain ⟨a, zs, rfl, rfl, hs, hb, q⟩ := h
  obtain ⟨u, rfl, ru⟩ := vals1 r
  obtain rfl : u = Value.ref a := ru
  obtain ⟨u2, rfl, ru2⟩ := vals1 rz
  obtain rfl : u2 = Value.ref f := ru2
  unfold shortB at hb
  simp only [Bool.and_eq_true, decide_eq_true_eq, List.all_eq_true] at hb
  rw [← hK] at hs
  have main : ∀ {its : List Value}, Vals (zs.map V.str) its → s.heap.IsList a its.toArray → wpAny (model X.prog X.w) X.A (call (.builtin "sorted") [.ref a] ([Str.ofString "key"].zip [Value.ref f])) (EP X pins σ Q) X.xe s := by
    intro its rv hl
    refine PySem.W.sorted_key_data (b := false) (R := fun u z => ∃ t, u = Value.str z t) keyS hl (vals_strs rv) (PySem.W.AllAlike.of fun _ _ => by simp [alike, alikeAll, keyS]) (PySem.W.Sortable.tuples fun _ => ⟨_, _, rfl⟩) (by rw [sizeLine_eq]; exact hb.1) (fun z _ => ?_) (ksk_s1 _ _) (fun _ => ksk_l1 _ _) (fun _ => ksk_t1 _ _)
      (fun v z hv hz hh tk kp => ?_) fun out c h' tk kp _ hD hlen he => ?_
    · have hd : (keyS z).depth = 1 := by simp [keyS, PyData.depth, PyData.depthAll]
      have := hr.un
      omega
    · obtain ⟨t, rfl⟩ := hv
      refine F X.A.in1.in1 X.stack { s with heap := hh, toks := tk } (fun _ => none) z t _ hr.hd (Room.in1 (Room.in1 hr)) ?_ (by rw [sizeLine_eq]; exact hb.2 z hz)
      obtain ⟨m, hn, _⟩ := I.loc
      have hsz : X.base.objs.size ≤ hh.objs.size := by
        obtain ⟨o, _, _, ho, _⟩ := hn
        have h1 := Heap.lt_size (kp _ _ ho)
        have h2 := I.ok.bsz
        have h3 := I.ok.above
        exact Nat.le_of_lt (Nat.lt_of_le_of_lt (Nat.le_trans h2 h3) h1)
      exact ⟨I.ok.frames, I.ok.mod, fun b o e => ⟨kp b o (I.bs b o e).1, rfl⟩, hsz, I.stack.of_keeps (fun b o e _ => ⟨o, kp b o e, rfl⟩), fun _ _ => rfl, (fun b o e => by cases e), I.bare⟩
    · have hd : s.heap.objs.size ≤ s.heap.objs.size + 1 := Nat.le_succ _
      refine ⟨.ref (s.heap.objs.size + 1), upd H _ (.lst ((zs.mergeSort leS).map V.str)), I.laid (t' := tk) kp hd ⟨?_, out, c, strs_vals he, hD⟩, rfl, q _ (I.hok.fresh hd)⟩
      rw [List.length_map, (List.mergeSort_perm zs leS).length_eq, sizeLine_eq]
      exact hb.1
  obtain ⟨its, rv, hl, _⟩ := I.list hs
  exact main rv hl.isList
end
end Den
end

section
set_option Elab.async false
set_option linter.all false
set_option maxRecDepth 100000
set_option maxHeartbeats 2000000
/-! DenX2: walking an object whose __iter__ gives the iterator of a list that it holds. -/
namespace Den
open PySem L2
section
open PySem.Spec PyProof.Rows
/-- f(x), x an object with a list at the field fld, gives this list's iterator -/
def IterFld (P : Program) (w : World) (K : PySem.W.Frag) (mg : Str → Option Value) (base : Heap) (C f : Addr) (fld : Str) : Prop :=
  ∀ (A : Around) (outer : List Env) (s : Shared) (H : Hp) (a dx l : Addr) (fs : List (Str × V)) (xs : List V) (E : Value → Shared → Prop), A.guards = some [] → Room 1 A → Env0 P w K mg base A outer s H →
    H a = some (.ins C dx fs) → fs.lookup fld = some (.ref l) → SqL K H l xs →
    wpAny (model P w) A (call (.ref f) [.ref a]) (fun u s' => ∃ it, u = .ref it ∧ CE outer P w H s (fun v H' => v = .ref it ∧ s.heap.objs.size ≤ it ∧ H it = none ∧ H' = upd H it (ItO l it 0)) u s') E s
theorem iterFld_of {P : Program} {w : World} {K : PySem.W.Frag} {mg : Str → Option Value} {base : Heap} {C f : Addr} {fld : Str} {name qual : Str} {params : Arguments} {scope : Scope}
    {dV kV doc pm cdv ct oc : Value} {an od : Option Addr} {osl : Array (Option Value)} {x : Str} {p1 p2 p3 p4 p5 : Pos}
    (lk : K.lookup f = some ⟨oc, od, .func (PySem.W.fnOf name qual params [.Return (some (.Call (.Name "iter" p1) [.Attribute (.Name x p2) fld p3] [] p4)) p5] scope dV kV doc pm an cdv ct), osl⟩)
    (hcd : PySem.W.codeIn K cdv qual = true) (S : FnScope [x] [x] scope) (hb : Binds K (PySem.W.fnOf name qual params [.Return (some (.Call (.Name "iter" p1) [.Attribute (.Name x p2) fld p3] [] p4)) p5] scope dV kV doc pm an cdv ct) [x] [])
    (hx : scope.names.lookup x = some .local) (hl : scope.names.lookup ("iter" : Str) = some .globalImplicit) (hm : mg "iter" = none) (hd : (x == ("__debug__" : Str)) = false) (hd2 : (x == ("__classdict__" : Str)) = false)
    (cl : Cls K C) (na : NoAttr K C fld) : IterFld P w K mg base C f fld := by
  intro A outer s H a dx l fs xs E hg hr e0 ha hf hs
  have keepK := e0.mod.kin.keeps (fun b o e => (e0.bs b o e).1)
  have lim := e0.mod.nolimit.keeps (fun b o e => (e0.bs b o e).1)
  have r : Vals [V.ref a] [Value.ref a] := .cons rfl .nil
  have hbn := hb s [Value.ref a] keepK rfl
  have kinds : ∀ y ∈ [x].zip [Value.ref a], scope.names.lookup y.1 = some .local ∨
      (scope.names.lookup y.1 = some .cell ∧ ((cellsFrom (s.heap.objs.size + 1) scope.names []).lookup y.1).isSome = true) := by
    intro y hy
    simp only [List.zip_cons_cons, List.zip_nil_right, List.mem_cons, List.not_mem_nil, or_false] at hy
    subst hy
    exact .inl hx
  apply wpAny_call
  apply codeAny_call_function hr.depth (keepK _ _ lk) rfl S.co S.gen rfl (PySem.W.codeRec_of keepK hcd)
  apply hbn
  apply wpAny_newFunctionEnv_cells S.kind kinds
  intro env he s1 xc
  subst he
  refine ⟨lim.keeps xc.toInCall.keep, codeAny_func ?_⟩
  have I : Inv (cxOf CX0 P w K mg base [x] qual scope f cdv A outer s H (fun _ _ _ => False)) [] (start [x] [V.ref a]) H s1 :=
    inv_start S hr.hd e0 rfl r xc
  have pe : PE (cxOf CX0 P w K mg base [x] qual scope f cdv A outer s H (fun _ _ _ => False)) (.Call (.Name "iter" p1) [.Attribute (.Name x p2) fld p3] [] p4) (tCB (ItX.rIterN K s.heap.objs.size) (tCons (tFld K (tVar 0) fld) tNil)) :=
    pe_callB (X := cxOf CX0 P w K mg base [x] qual scope f cdv A outer s H (fun _ _ _ => False)) ItX.call_iterN hl hm PyProof.Rows.boot_iter (pa_cons (pe_fld (pe_var (i := 0) rfl (.inl hx) hd hd2) rfl) pa_nil)
  refine wpAny_execs_cons (wpAny_Return_some ?_)
  refine wpAny_mono (pe.run [] s1 (start [x] [V.ref a]) H (fun v H' => ∃ it, v = .ref it ∧ s.heap.objs.size ≤ it ∧ H it = none ∧ H' = upd H it (ItO l it 0)) I ?_) (fun u s' hs' => ?_) fun e s' he => ?_
  · refine ⟨.ref a, rfl, a, C, dx, fs, .ref l, rfl, ha, cl, na, hf, l, xs, rfl, hs, fun it h1 h2 => ⟨it, rfl, h2, h1, rfl⟩⟩
  · obtain ⟨v, H', J, rv, it, rfl, h2, h3, rfl⟩ := hs'
    obtain rfl : u = Value.ref it := rv
    exact ⟨it, rfl, .ref it, _, J.os, J.bare, J.base, J.hok, rfl, rfl, h2, h3, rfl⟩
  · exact wpAny_mono he (fun _ _ z => z.elim) fun _ _ z => z.elim
end
section
open PySem.Spec PyProof.Rows
variable {X : Cx} {W : Pw}
/-- a class whose objects are walked by the list at fld -/
structure OwnWalk (X : Cx) (C : Addr) (fld : Str) : Prop where
  at_ : ∃ f, PySem.W.findIn X.K (.ref C) "__iter__" = some (some (.ref f)) ∧ PySem.W.isFn X.K (.ref f) = true ∧ IterFld X.prog X.w X.K X.mg X.base C f fld
/-- e, an object walked by the list at one of its fields -/
def iOwn (K : PySem.W.Frag) (cw : Addr → Str → Prop) (te : TE) : TI := fun σ H R => te σ H fun x H1 => ∃ a C dx fs fld l xs, x = .ref a ∧ H1 a = some (.ins C dx fs) ∧ cw C fld ∧ fs.lookup fld = some (.ref l) ∧ SqL K H1 l xs ∧ R (ItX.ItlF K l 0) H1
theorem pi_own {tg e : Expr} {te : TE} {cw : Addr → Str → Prop} (hw : ∀ C fld, cw C fld → OwnWalk X C fld) (hg : X.A.guards = some []) (hr : Room 1 X.A) (he : PE X e te) : PI X tg e (iOwn X.K cw te) := by
  refine ⟨fun pins s σ H R I h => ?_⟩
  refine thn (he.run pins s σ H _ I h) fun v s1 ⟨x, H1, I1, r1, q1⟩ => ?_
  obtain ⟨a, C, dx, fs, fld, l, xs, rfl, ha, hc, hf, hs, q⟩ := q1
  obtain rfl : v = Value.ref a := r1
  obtain ⟨f, w1, w2, w3⟩ := (hw C fld hc).at_
  obtain ⟨mA, J, _⟩ := ins_get I1.hok ha
  obtain ⟨od, J, _⟩ := J.look
  obtain ⟨m, hF⟩ := I1.fr
  refine PySem.W.owit_iter hF I1.ok.mod.kin J w1 w2 ?_
  refine wpAny_mono (w3 X.A X.stack s1 H1 a dx l fs xs X.xe hg hr I1.env0 ha hf hs) (fun u s2 hq => ?_) fun _ _ z => z
  obtain ⟨it, rfl, ce⟩ := hq
  obtain ⟨v, H', I2, rv, rfl, hn, h0, rfl⟩ := I1.after ce
  have hi : (upd H1 it (ItO l it 0)) it = some (ItO l it 0) := upd_same
  have eo := itO_get I2 hi
  unfold PySem.W.OwitIt
  have hT : s2.TypeIs (.ref it) "list_iterator" := ⟨_, eo, rfl⟩
  refine wpAny_specialOf (name := Str.ofString "__next__") hT slot_listiter_next.lookup ?_
  have I3 := ItX.inv_drop I2 hi
  rw [ItX.dropH_upd h0] at I3
  have fp := ItX.inv_fp I2 hi (Nat.le_trans I1.sz hn)
  rw [ItX.dropH_upd h0] at fp
  refine ⟨it, [it], _, ItX.ItlF X.K l 0, H1, rfl, I3, ItX.turn_listF l it 0, ⟨_, eo, rfl, rfl⟩, fun b hb => ?_, q⟩
  have e : b = it := by simpa using hb
  rw [e]
  exact fp
theorem walkd_listF {a : Addr} {xs : List V} {ds : List D} {G0 : Hp} (h : G0 a = some (.lst xs)) (r : RpAll W G0 xs ds) : WalkD W (ItX.ItlF W.K a 0) ds G0 := by
  obtain ⟨Gd, Y, wk, hG, hY⟩ := walkd_list (W := W) h r
  refine ⟨Gd, Y, ⟨fun i H hi g => ?_, fun H g => ?_, fun i H x H' hi g y => ?_⟩, hG, hY⟩
  · show (Itl W.K a).go (0 + i) H
    rw [Nat.zero_add]
    exact wk.goes i H hi g
  · show (Itl W.K a).stop (0 + ds.length) H
    rw [Nat.zero_add]
    exact wk.stops H g
  · have y' : (Itl W.K a).yld (0 + i) H x H' := y
    rw [Nat.zero_add] at y'
    exact wk.yields i H x H' hi g y'
/-- own: which field of which class is walked -/
def ownItems (own : Nat → Option Str) : Option D → Option (List D)
  | some (.obj c fs) => (own c).bind fun fld => (fs.lookup fld).bind fun d => match d with
    | .lst ds => some ds
    | _ => none
  | _ => none
def iOwnF (own : Nat → Option Str) (P : PF) : IF := fun env => do
  let (rv, e1) ← P env
  let ds ← ownItems own (rv.cont e1)
  some (ds, e1)
theorem own_tI {own : Nat → Option Str} {P : PF} {σ : L2.St} {H : Hp} {R : It → Hp → Prop} (h : tI W (iOwnF own P) σ H R) : iOwn W.K (fun C fld => ∃ c, C = W.cl c ∧ own c = some fld) (tE W P) σ H R := by
  obtain ⟨env, G, ds, env', r, p, k⟩ := h
  unfold iOwnF at p
  simp only [Option.bind_eq_bind, Option.bind_eq_some_iff, Prod.exists, Option.some.injEq, Prod.mk.injEq] at p
  obtain ⟨rv, e1, h1, ds', h2, rfl, rfl⟩ := p
  refine tE_one r h1 fun v H1 G1 s o => ?_
  unfold ownItems at h2
  split at h2
  · rename_i c fs hc
    simp only [Option.bind_eq_some_iff] at h2
    obtain ⟨fld, h3, d, h4, h5⟩ := h2
    split at h5
    · cases h5
      obtain ⟨a, dx, fv, rfl, ha, rf⟩ := (o.vw s.rel hc).obj s.rel.sub
      obtain ⟨x, h6, h7⟩ := rf.get h4
      cases h7 with
      | lst gl ra =>
        exact ⟨a, _, dx, fv, fld, _, _, rfl, ha, ⟨c, rfl, h3⟩, h6, SqL.of (s.rel.sub _ _ gl), k _ _ _ s (walkd_listF gl ra)⟩
    · cases h5
  · cases h2
end
end Den
end

section
set_option Elab.async false
set_option linter.all false
set_option maxRecDepth 100000
set_option maxHeartbeats 2000000
/-! DenX3: len(set(xs)), xs some pairs of small ints, none twice. -/
namespace Den.PS
open PySem PySem.Spec PyProof.Rows L2

/-! ### a table of 512 slots -/
def orb : Nat → Nat → List Nat
  | 0, _ => []
  | n + 1, x => x :: orb n ((x * 5 + 1) % 512)
theorem lcg_front (m : Nat) : ∀ (k x : Nat), lcgI m ((x * 5 + 1) % (m + 1)) k = lcgI m x (k + 1)
  | 0, _ => rfl
  | k + 1, x => by
    have ih := lcg_front m k x
    show (lcgI m ((x * 5 + 1) % (m + 1)) k * 5 + 1) % (m + 1) = (lcgI m x (k + 1) * 5 + 1) % (m + 1)
    rw [ih]
theorem orb_at : ∀ (n x i : Nat), i < n → (orb n x)[i]? = some (lcgI 511 x i)
  | 0, _, _, h => absurd h (Nat.not_lt_zero _)
  | n + 1, x, 0, _ => rfl
  | n + 1, x, i + 1, h => by
    show (orb n ((x * 5 + 1) % 512))[i]? = _
    rw [orb_at n _ i (by omega)]
    exact congrArg some (lcg_front 511 i x)
theorem orb_full : ((List.range 512).all fun j => (orb 512 0).contains j) = true := by decide +kernel
theorem orb_back : ((orb 513 0)[512]? == some 0) = true := by decide +kernel
theorem from0 {j : Nat} (h : j ≤ 511) : ∃ b, b ≤ 511 ∧ lcgI 511 0 b = j := by
  have q := List.all_eq_true.mp orb_full j (List.mem_range.mpr (by omega))
  rw [List.contains_iff_mem] at q
  obtain ⟨b, hb, e⟩ := List.getElem_of_mem q
  have hl : (orb 512 0).length = 512 := by decide +kernel
  have e2 : (orb 512 0)[b]? = some j := by rw [List.getElem?_eq_getElem hb, e]
  rw [orb_at 512 0 b (by omega)] at e2
  exact ⟨b, by omega, Option.some.inj e2⟩
theorem round : lcgI 511 0 512 = 0 := by
  have q := orb_back
  rw [orb_at 513 0 512 (by omega)] at q
  exact Option.some.inj (beq_iff_eq.mp q)
theorem go_on (m x a : Nat) : ∀ k, lcgI m (lcgI m x a) k = lcgI m x (a + k)
  | 0 => rfl
  | k + 1 => by
    show (lcgI m (lcgI m x a) k * 5 + 1) % (m + 1) = (lcgI m x (a + k) * 5 + 1) % (m + 1)
    rw [go_on m x a k]
theorem any511 {i j : Nat} (hi : i ≤ 511) (hj : j ≤ 511) : ∃ k, k ≤ 511 ∧ lcgI 511 i k = j := by
  obtain ⟨a, ha, rfl⟩ := from0 hi
  obtain ⟨b, hb, rfl⟩ := from0 hj
  by_cases c : a ≤ b
  · exact ⟨b - a, by omega, by rw [go_on, show a + (b - a) = b by omega]⟩
  · refine ⟨b + 512 - a, by omega, ?_⟩
    have e := go_on 511 0 512 b
    rw [round] at e
    rw [go_on, show a + (b + 512 - a) = 512 + b by omega, ← e]
/-- the masks of the tables that sets of fewer than 300 have -/
def Mk (m : Nat) : Prop := MaskOk m ∨ m = 511
theorem meets {m : Nat} (hm : Mk m) (h : Int) {j : Nat} (hj : j ≤ m) : ∃ n, n ≤ m + 12 ∧ runI m (SetTable.bits h) n = j := by
  rcases hm with hm | rfl
  · exact run_meets hm h hj
  · obtain ⟨k, hk, e⟩ := any511 (runI_le 511 (SetTable.bits h) 12) hj
    exact ⟨12 + k, by omega, by rw [runI_tail (bits_lt h)]; exact e⟩
theorem met_in {m : Nat} (hm : Mk m) (h : Int) {j : Nat} (hj : j ≤ m) : ∃ k, k < 10 * SetTable.turns m ∧ way m h k = j := by
  obtain ⟨n, hn, e⟩ := meets hm h hj
  obtain ⟨k, hk, e2⟩ := run_nth m (SetTable.bits h) n
  exact ⟨k, by unfold SetTable.turns; omega, by show (nth m _ k).j = j; rw [e2]; exact e⟩
theorem odd {m : Nat} (hm : Mk m) : m % 2 = 1 := by
  rcases hm with hm | rfl
  · exact mask_odd hm
  · rfl
theorem bnd {m : Nat} (hm : Mk m) : m ≤ 511 := by
  rcases hm with (h | h | h) | h <;> omega
theorem in_tab (m : Nat) (h : Int) (k : Nat) : way m h k ≤ m := by
  have q := nth_in (m := m) k (runAt m (SetTable.bits h % (m + 1)) (SetTable.bits h)) (by
    have := runEnd_bd (m := m) (i := SetTable.bits h % (m + 1)) (Nat.le_of_lt_succ (Nat.mod_lt _ (Nat.succ_pos _)))
    show SetTable.bits h % (m + 1) + (SetTable.runEnd m (SetTable.bits h % (m + 1)) - SetTable.bits h % (m + 1)) ≤ m
    omega)
  exact Nat.le_trans (Nat.le_add_right _ _) q
/-- the first place of the way that isn't among ps -/
theorem first_out {m : Nat} (hm : Mk m) (ps : List Nat) (hl : ps.length ≤ m) (h : Int) : ∃ K, K < 10 * SetTable.turns m ∧ way m h K ∉ ps ∧ ∀ k, k < K → way m h k ∈ ps := by
  obtain ⟨j, hj, hn⟩ := st_missing ps (m + 1) (by omega)
  obtain ⟨k, hk, e⟩ := met_in hm h (Nat.le_of_lt_succ hj)
  obtain ⟨K, a, b, c⟩ := st_least (p := fun q => way m h q ∉ ps) k (by show way m h k ∉ ps; rw [e]; exact hn)
  exact ⟨K, by omega, b, fun q hq => Classical.not_not.mp (c q hq)⟩

/-! ### all laid anew -/
structure Lay (m n : Nat) (ow : Array (Option Nat)) : Prop where
  sz : ow.size = m + 1
  ps : ∃ ps : List Nat, ps.length = n ∧ (∀ p ∈ ps, p ≤ m) ∧ (∀ k p, ps[k]? = some p → oAt ow p = some k) ∧ ∀ j, j ≤ m → j ∉ ps → oAt ow j = none
theorem lay_free {m n : Nat} {ow : Array (Option Nat)} (hm : Mk m) (L : Lay m n ow) (hn : n ≤ m) (h : Int) :
    ∃ j, j ≤ m ∧ oAt ow j = none ∧ SetTable.layClean.free m ow (SetTable.turns m) (SetTable.bits h % (m + 1)) (SetTable.bits h) = some j := by
  obtain ⟨ps, p1, _, _, p4⟩ := L.ps
  obtain ⟨j, hj, hn0⟩ := st_missing ps (m + 1) (by omega)
  have free := p4 j (by omega) hn0
  obtain ⟨n0, hn1, e⟩ := meets hm h (Nat.le_of_lt_succ hj)
  have at_j : way m h (off m (SetTable.bits h % (m + 1)) (SetTable.bits h) n0) = j := by
    show (nth m _ _).j = j
    rw [nth_off, itL_run]
    exact e
  obtain ⟨K, a, b, c⟩ := st_least (p := fun q => oAt ow (way m h q) = none) _ (show oAt ow (way m h (off m (SetTable.bits h % (m + 1)) (SetTable.bits h) n0)) = none by rw [at_j]; exact free)
  refine ⟨way m h K, in_tab m h K, b, free_spec m ow _ n0 _ _ K (by unfold SetTable.turns; omega) a (fun q hq => ?_) (by rw [show oAt ow (nth m _ K).j = none from b]; rfl)⟩
  have := c q hq
  cases z : oAt ow (nth m (runAt m (SetTable.bits h % (m + 1)) (SetTable.bits h)) q).j with
  | none => exact absurd z this
  | some _ => rfl
theorem lay_one {m n j : Nat} {ow : Array (Option Nat)} (L : Lay m n ow) (hj : j ≤ m) (hf : oAt ow j = none) : Lay m (n + 1) (ow.setIfInBounds j (some n)) := by
  obtain ⟨ps, p1, p2, p3, p4⟩ := L.ps
  have hs : j < ow.size := by rw [L.sz]; omega
  refine ⟨by rw [Array.size_setIfInBounds]; exact L.sz, ps ++ [j], by simp [p1], fun p hp => ?_, fun k p hk => ?_, fun i hi hn => ?_⟩
  · rcases List.mem_append.mp hp with z | z
    · exact p2 p z
    · rw [List.mem_singleton.mp z]; exact hj
  · by_cases c : k < ps.length
    · rw [List.getElem?_append_left c] at hk
      have q := p3 k p hk
      rw [oAt_set_ne _ (fun z => by rw [z, hf] at q; cases q)]
      exact q
    · rw [List.getElem?_append_right (by omega)] at hk
      have hk2 : k - ps.length = 0 := by
        have := (List.getElem?_eq_some_iff.mp hk).1
        simpa using this
      rw [hk2] at hk
      have ej : j = p := by simpa using hk
      rw [← ej, oAt_set_self _ hs, show k = n by omega]
  · rw [List.mem_append, not_or] at hn
    rw [oAt_set_ne _ (fun z => hn.2 (List.mem_singleton.mpr z))]
    exact p4 i hi hn.1
theorem lay_all {m : Nat} (hm : Mk m) : ∀ (hs : List Int) (n : Nat) (ow : Array (Option Nat)), Lay m n ow → n + hs.length ≤ m → ∃ ow', hs.foldl (stepF m) (some (ow, n)) = some (ow', n + hs.length) ∧ Lay m (n + hs.length) ow'
  | [], n, ow, L, _ => ⟨ow, rfl, L⟩
  | h :: hs, n, ow, L, hl => by
    rw [List.length_cons] at hl
    obtain ⟨j, a, b, c⟩ := lay_free hm L (by omega) h
    obtain ⟨ow', e, L'⟩ := lay_all hm hs (n + 1) _ (lay_one L a b) (by omega)
    have en : n + 1 + hs.length = n + (h :: hs).length := by rw [List.length_cons]; omega
    rw [en] at e L'
    exact ⟨ow', by rw [List.foldl_cons, stepF_some c]; exact e, L'⟩
theorem laid_anew (t : SetTable) {hs : Array Int} {wanted m : Nat} (hw : SetTable.sizeAbove wanted - 1 = m) (hm : Mk m) (hn : hs.size ≤ m) :
    ∃ t' order, t.relaid hs wanted = some (t', order) ∧ order.toList.Perm (List.range hs.size) ∧ Ris t'.place.toList ∧ t'.place.size = hs.size ∧ t'.mask = m ∧ t'.led = t.led ∧ t'.plain = t.plain ∧ t'.dummies = #[] := by
  have L0 : Lay m 0 (Array.replicate (m + 1) none) := ⟨by simp, [], rfl, fun p hp => (by cases hp), fun k p hk => (by simp at hk), fun j hj _ => oAt_init hj⟩
  obtain ⟨ow, e, L⟩ := lay_all hm hs.toList 0 _ L0 (by rw [Array.length_toList]; omega)
  rw [Nat.zero_add, Array.length_toList] at e L
  obtain ⟨ps, p1, p2, p3, p4⟩ := L.ps
  have er : t.relaid hs wanted = some (tabOf t m ow, ((liveOf m ow).map Prod.snd).toArray) := by
    rw [relaid_eq, hw, layClean_eq, e]; rfl
  obtain ⟨r1, r2⟩ := ris_live (fun j => ow.getD j none) (List.range (m + 1)) List.pairwise_lt_range
  have nd : ((liveOf m ow).map Prod.fst).Nodup := List.Pairwise.imp (fun h => Nat.ne_of_lt h) (show Ris ((liveOf m ow).map Prod.fst) from r1)
  have le1 : (liveOf m ow).length ≤ hs.size := by
    have q := nat_nodup_len ((liveOf m ow).map Prod.fst) ps nd fun x hx => by
      obtain ⟨⟨y, k⟩, hq, rfl⟩ := List.mem_map.mp hx
      obtain ⟨b1, b2⟩ := (mem_live L.sz).1 hq
      refine Classical.byContradiction fun z => ?_
      have := p4 y b1 z
      rw [b2] at this; cases this
    rw [List.length_map, p1] at q
    exact q
  have all : ∀ k, k < hs.size → k ∈ (liveOf m ow).map Prod.snd := fun k hk => by
    have hk2 : ps[k]? = some ps[k] := List.getElem?_eq_getElem (by omega)
    exact List.mem_map.mpr ⟨(ps[k], k), (mem_live L.sz).2 ⟨p2 _ (List.mem_of_getElem? hk2), p3 k _ hk2⟩, rfl⟩
  have le2 : hs.size ≤ (liveOf m ow).length := by
    have q := nat_nodup_len (List.range hs.size) ((liveOf m ow).map Prod.snd) List.nodup_range fun k hk => all k (List.mem_range.mp hk)
    rw [List.length_map, List.length_range] at q
    exact q
  have el : (liveOf m ow).length = hs.size := Nat.le_antisymm le1 le2
  refine ⟨_, _, er, perm_range hs.size _ (by show ((liveOf m ow).map Prod.snd).length = _; rw [List.length_map, el]) all, r1, ?_, rfl, rfl, rfl, rfl⟩
  show ((liveOf m ow).map (·.1)).toArray.size = _
  rw [List.size_toArray, List.length_map, el]
end Den.PS
end

section
set_option Elab.async false
set_option linter.all false
set_option maxRecDepth 100000
set_option maxHeartbeats 4000000
/-! DenX4: a set into which tuples of ints of unlike hashes are put. -/
namespace Den.PS
open PySem PySem.Spec PyProof.Rows L2

/-- the set at a: hs are the hashes of its elements -/
structure SQ (w : World) (h : Heap) (a : Addr) (hs : List Int) (es : Array (Int × Value)) (ep : Nat) (t : SetTable) : Prop where
  ob : ∃ o, h.get? a = some o ∧ o.ExactSet ∧ o.data = .set es ep t
  rows : es.toList.map Prod.fst = hs
  ris : Ris t.place.toList
  sz : t.place.size = hs.length
  dm : t.dummies = #[]
  mok : Mk t.mask
  plain : t.plain = true
  led : w.params.followText "set-order" = true ∨ t.led = true
  room : hs.length * 5 < t.mask * 3
section
variable {P : Program} {w : World} {A : Around} {E : Value → Shared → Prop} {s : Shared} {a : Addr} {hs : List Int} {es : Array (Int × Value)} {ep : Nat} {t : SetTable}
theorem fits_of {n : Nat} (h1 : t.place.size = n) (h2 : t.dummies = #[]) (h3 : n ≤ t.mask) : t.fits n = true := by
  simp only [SetTable.fits, SetTable.fill, h2, h1, Bool.and_eq_true, beq_self_eq_true, true_and, decide_eq_true_eq]
  show n + 0 ≤ t.mask
  omega
theorem SQ.size (R : SQ w s.heap a hs es ep t) : es.size = hs.length := by
  rw [← R.rows, List.length_map, Array.length_toList]
theorem SQ.fits (R : SQ w s.heap a hs es ep t) : t.fits es.size = true :=
  fits_of (R.sz.trans R.size.symm) R.dm (by have := R.room; have := R.size; omega)
theorem SQ.keep {h h' : Heap} (R : SQ w h a hs es ep t) (k : ∀ o, h.get? a = some o → h'.get? a = some o) : SQ w h' a hs es ep t := by
  obtain ⟨⟨o, h1, h2⟩, r⟩ := R
  exact ⟨⟨o, k o h1, h2⟩, by assumption, by assumption, by assumption, by assumption, by assumption, by assumption, by assumption, by assumption⟩
/-- where a new hash goes -/
theorem sq_search (R : SQ w s.heap a hs es ep t) {x : Value} {h : Int} (hn : h ∉ hs) {Q : SetFound → Shared → Prop} (q : ∀ j, j ∉ t.place.toList → j ≤ t.mask → Q (.free j false) s) :
    wpAny (model P w) A (setSearch a x h true) Q E s := by
  obtain ⟨o, ho, hex, hd⟩ := R.ob
  have hr := R.room
  obtain ⟨K, k1, k2, k3⟩ := first_out R.mok t.place.toList (by rw [Array.length_toList, R.sz]; omega) h
  have other : ∀ (i j : Nat), t.place.toList[i]? = some j → (fun (i : Nat) => (es[i]?.map (·.1)).getD 0) i ≠ h := fun i j e z => by
    have hi : i < es.size := by
      have := (List.getElem?_eq_some_iff.mp e).1
      rw [Array.length_toList, R.sz, ← R.size] at this
      exact this
    refine hn ?_
    rw [← R.rows]
    refine List.mem_map.mpr ⟨es[i], Array.getElem_mem_toList hi, ?_⟩
    have e2 : (es[i]?.map (·.1)).getD 0 = es[i].1 := by rw [Array.getElem?_eq_getElem hi]; rfl
    exact e2.symm.trans z
  have pr : t.probe (fun i => (es[i]?.map (·.1)).getD 0) h (t.probeStart h) = some (.empty (way t.mask h K) none) := by
    rcases go_spec t R.ris R.dm (fun i => (es[i]?.map (·.1)).getD 0) h (10 * SetTable.turns t.mask) K (t.probeStart h) rfl k1 k3 k2 with ⟨k, i, _, e1, e2, _⟩ | ⟨_, e⟩
    · exact absurd e2 (other i _ e1)
    · exact e
  unfold setSearch
  rw [show (100000 : Nat) = 99999 + 1 from rfl, setSearchFrom_succ]
  refine wpAny_bind (wpAny_setState_of ho hd R.fits ?_)
  have gw : ¬ t.gaveWay = true := by
    unfold SetTable.gaveWay
    rw [odd R.mok]; decide
  dsimp only
  refine wp_if_neg gw ?_
  try refine wpAny_bind (wpAny_pure ?_)
  rw [show (Option.none : Option SetTable.Probe).getD (t.probeStart h) = t.probeStart h from rfl, pr]
  dsimp only
  exact wpAny_pure (q _ k2 (in_tab _ _ _))
/-- the rows in another order -/
theorem rows_perm {order : Array Nat} (hp : order.toList.Perm (List.range es.size)) : ((order.filterMap (es[·]?)).toList.map Prod.fst).Perm (es.toList.map Prod.fst) ∧ (order.filterMap (es[·]?)).size = es.size := by
  have e1 : (order.filterMap (es[·]?)).toList = order.toList.filterMap fun i => es.toList[i]? := by
    rw [Array.toList_filterMap]
    exact congrArg (fun f => order.toList.filterMap f) (funext fun i => (Array.getElem?_toList (xs := es) (i := i)).symm)
  have full : ∀ l : List (Int × Value), (List.range l.length).filterMap (fun i => l[i]?) = l := by
    intro l
    induction l with
    | nil => rfl
    | cons y l ih =>
      rw [List.length_cons, List.range_succ_eq_map, List.filterMap_cons]
      simp only [List.getElem?_cons_zero, List.filterMap_map]
      exact congrArg (y :: ·) ih
  have e2 : (order.toList.filterMap fun i => es.toList[i]?).Perm es.toList := by
    have q := hp.filterMap fun i => es.toList[i]?
    rw [show es.size = es.toList.length from (Array.length_toList).symm, full] at q
    exact q
  refine ⟨by rw [e1]; exact e2.map _, ?_⟩
  rw [← Array.length_toList, e1, e2.length_eq, Array.length_toList]
theorem sq_relay {o : Obj} (ho : s.heap.get? a = some o) (hex : o.ExactSet) (hd : o.data = .set es ep t) (hf : t.fits es.size = true) (pl : t.plain = true) (ld : w.params.followText "set-order" = true ∨ t.led = true) {wanted m : Nat}
    (hw : SetTable.sizeAbove wanted = m + 1) (hm : Mk m) (hn : es.size * 5 < m * 3) {Q : Unit → Shared → Prop}
    (q : ∀ h' hs' es' ep' t', Heap.SameBut a s.heap h' → SQ w h' a hs' es' ep' t' → hs'.Perm (es.toList.map Prod.fst) → Q () { s with heap := h' }) : wpAny (model P w) A (setRelay a wanted) Q E s := by
  obtain ⟨t', order, e, p, r1, r2, r3, r4, r5, r6⟩ := laid_anew t (hs := es.map (·.1)) (wanted := wanted) (m := m) (by rw [hw]; rfl) hm (by rw [Array.size_map]; omega)
  rw [Array.size_map] at p r2
  obtain ⟨pm, ps⟩ := rows_perm p
  have line := sizeLine_eq
  have hb := bnd hm
  rw [setRelay_eq]
  refine wpAny_bind (wpAny_setState_of ho hd hf ?_)
  dsimp only
  refine wp_if_neg (by rw [hw]; omega) ?_
  try refine wpAny_bind (wpAny_pure ?_)
  rw [e]
  dsimp only
  refine wpAny_bind (wp_if_neg (by rw [ps]; simp) ?_)
  try refine wpAny_bind (wpAny_pure ?_)
  refine wpAny_pure ?_
  dsimp only
  refine wpAny_storeSet_of ho hd ?_ (by rw [ps]; omega)
  have sb : Heap.SameBut a s.heap (s.heap.update a (Obj.putSet (order.filterMap (es[·]?)) t')) := Heap.SameBut.update ..
  have hl : ((order.filterMap (es[·]?)).toList.map Prod.fst).length = es.size := by rw [List.length_map, Array.length_toList, ps]
  refine q _ _ _ (ep + 1) t' sb ⟨⟨_, store_at ho hd, ⟨hex.1, hex.2.1, hex.2.2⟩, rfl⟩, rfl, r1, by rw [hl]; exact r2, r6, by rw [r3]; exact hm, by rw [r5]; exact pl, by rw [r4]; exact ld, by rw [hl, r3]; exact hn⟩ pm
theorem big5 : SetTable.sizeAbove (SetTable.grown 5) = 31 + 1 := by decide +kernel
theorem big19 : SetTable.sizeAbove (SetTable.grown 19) = 127 + 1 := by decide +kernel
theorem big77 : SetTable.sizeAbove (SetTable.grown 77) = 511 + 1 := by decide +kernel
/-- one put in -/
theorem sq_add (R : SQ w s.heap a hs es ep t) {x : Addr} {k : List Int} (hx : IsT P w s.heap k x) (hn : thash P w k ∉ hs) (few : hs.length < 300) {Q : Bool → Shared → Prop}
    (q : ∀ h' hs' es' ep' t', Heap.SameBut a s.heap h' → SQ w h' a hs' es' ep' t' → hs'.Perm (thash P w k :: hs) → Q true { s with heap := h' }) : wpAny (model P w) A (setAddHashed a (.ref x) (thash P w k)) Q E s := by
  obtain ⟨o, ho, hex, hd⟩ := R.ob
  have hsz := R.size
  have hroom := R.room
  have line := sizeLine_eq
  unfold setAddHashed
  refine wpAny_holding ?_
  rw [show (100000 : Nat) = 99999 + 1 from rfl, setAddHashedIn_succ]
  refine wpAny_bind (wpAny_setState_of ho hd R.fits ?_)
  dsimp only
  refine wp_if_neg (by simp [byScan, Value.scannable]) ?_
  try refine wpAny_bind (wpAny_pure ?_)
  refine wpAny_bind (sq_search R hn fun j hj hjm => ?_)
  dsimp only
  refine wpAny_bind (wpAny_setState_of ho hd R.fits ?_)
  dsimp only
  have hpl : SetTable.below t.place j ≤ t.place.toList.length := by rw [Array.length_toList]; exact (below_cut R.ris j).1
  have hph : SetTable.below t.place j ≤ hs.length := by rw [← R.sz, ← Array.length_toList]; exact hpl
  have p1 : (t.put j).1.plain = true := R.plain
  have p2 : (t.put j).1.dummies = #[] := put_dm R.dm j
  have p3 : (t.put j).1.place.size = hs.length + 1 := by rw [← Array.length_toList, put_place, len_ins _ hpl, Array.length_toList, R.sz]
  have p4 : Ris (t.put j).1.place.toList := ris_insert R.ris fun e => hj (List.mem_of_getElem? (by rw [Array.getElem?_toList]; exact e))
  have p5 : (t.put j).1.mask = t.mask := rfl
  have p6 : (t.put j).1.led = t.led := rfl
  have p7 : (t.put j).2 = SetTable.below t.place j := rfl
  generalize t.put j = tp at p1 p2 p3 p4 p5 p6 p7 ⊢
  obtain ⟨t1, pp⟩ := tp
  dsimp only at p1 p2 p3 p4 p5 p6 p7 ⊢
  subst p7
  first
    | (refine wpAny_bind ?_; refine wp_if_pos p1 ?_; refine hashBy_tup hx ?_)
    | refine wp_if_pos p1 (wpAny_bind (hashBy_tup hx ?_))
  simp only [if_true]
  have r1 : (SetTable.insertAt es (SetTable.below t.place j) (thash P w k, Value.ref x)).toList.map Prod.fst = hs.take (SetTable.below t.place j) ++ thash P w k :: hs.drop (SetTable.below t.place j) := by
    rw [SetTable.toList_insertAt, List.map_append, List.map_cons, List.map_take, List.map_drop, R.rows]
  have r2 : (hs.take (SetTable.below t.place j) ++ thash P w k :: hs.drop (SetTable.below t.place j)).Perm (thash P w k :: hs) := put_perm hs _ _
  generalize SetTable.insertAt es (SetTable.below t.place j) (thash P w k, Value.ref x) = es1 at r1 ⊢
  generalize hs.take (SetTable.below t.place j) ++ thash P w k :: hs.drop (SetTable.below t.place j) = hs1 at r1 r2 ⊢
  have l1 : hs1.length = hs.length + 1 := r2.length_eq
  have l2 : es1.size = hs.length + 1 := by rw [← l1, ← r1, List.length_map, Array.length_toList]
  refine wpAny_bind (wpAny_storeSet_of ho hd ?_ (by omega))
  have sb : Heap.SameBut a s.heap (s.heap.update a (Obj.putSet es1 t1)) := Heap.SameBut.update ..
  have ho1 := store_at (es' := es1) (t' := t1) ho hd
  generalize s.heap.update a (Obj.putSet es1 t1) = h1 at sb ho1 ⊢
  have ld1 : w.params.followText "set-order" = true ∨ t1.led = true := by rw [p6]; exact R.led
  have fl : t1.fill = hs.length + 1 := by
    show t1.place.size + t1.dummies.size = _
    rw [p2, p3]; rfl
  by_cases hf : t1.tooFull = true
  · first
      | (refine wpAny_bind ?_; refine wp_if_pos (by simp [hf]) ?_)
      | (refine wp_if_pos (by simp [hf]) ?_; refine wpAny_bind ?_)
    have full : (hs.length + 1) * 5 ≥ t.mask * 3 := by
      unfold SetTable.tooFull at hf
      rw [decide_eq_true_eq, fl, p5] at hf
      exact hf
    have go : ∀ m, SetTable.sizeAbove (SetTable.grown (es.size + 1)) = m + 1 → Mk m → (hs.length + 1) * 5 < m * 3 → t.mask ≤ m →
        wpAny (model P w) A (setRelay a (SetTable.grown (es.size + 1))) (fun _ s' => wpAny (model P w) A (pure true) Q E s') E { s with heap := h1 } := fun m w1 w2 w3 w4 =>
      sq_relay (s := { s with heap := h1 }) ho1 ⟨hex.1, hex.2.1, hex.2.2⟩ rfl (fits_of (p3.trans l2.symm) p2 (by rw [l2, p5]; omega)) p1 ld1 w1 w2 (by rw [l2]; exact w3) fun h2 hs2 es2 ep2 t2 sb2 R2 pm => by
        rw [r1] at pm
        exact wpAny_pure (q h2 hs2 es2 ep2 t2 (sb.trans sb2) R2 (pm.trans r2))
    rcases R.mok with (e | e | e) | e
    · exact go 31 (by rw [hsz, show hs.length + 1 = 5 by omega, big5]) (.inl (.inr (.inl rfl))) (by omega) (by omega)
    · exact go 127 (by rw [hsz, show hs.length + 1 = 19 by omega, big19]) (.inl (.inr (.inr rfl))) (by omega) (by omega)
    · exact go 511 (by rw [hsz, show hs.length + 1 = 77 by omega, big77]) (.inr rfl) (by omega) (by omega)
    · omega
  · first
      | refine wp_if_neg (by simp [hf]) ?_
      | (refine wpAny_bind ?_; refine wp_if_neg (by simp [hf]) ?_; refine wpAny_pure ?_)
    refine wpAny_pure (q h1 hs1 es1 (ep + 1) t1 sb ⟨⟨_, ho1, ⟨hex.1, hex.2.1, hex.2.2⟩, rfl⟩, r1, p4, by rw [l1]; exact p3, p2, by rw [p5]; exact R.mok, p1, ld1, ?_⟩ r2)
    unfold SetTable.tooFull at hf
    rw [decide_eq_true_eq, fl] at hf
    rw [l1]; omega
end
end Den.PS
end

section
set_option Elab.async false
set_option linter.all false
set_option maxRecDepth 100000
set_option maxHeartbeats 6400000
/-! DenX5: set(xs) of such tuples, and its length. -/
namespace Den.PS
open PySem PySem.Spec PyProof.Rows L2
section
variable {P : Program} {w : World} {A : Around} {E : Value → Shared → Prop} {s : Shared}
abbrev hashes (P : Program) (w : World) (ks : List (Addr × List Int)) : List Int := ks.map fun p => thash P w p.2
/-- the set at S has got the first i -/
def Has (P : Program) (w : World) (h : Heap) (S : Addr) (ks : List (Addr × List Int)) (i : Nat) : Prop := ∃ hs es ep t, SQ w h S hs es ep t ∧ hs.Perm (hashes P w (ks.take i))
theorem Has.keep {h h' : Heap} {S : Addr} {ks : List (Addr × List Int)} {i : Nat} (x : Has P w h S ks i) (k : ∀ o, h.get? S = some o → h'.get? S = some o) : Has P w h' S ks i := by
  obtain ⟨hs, es, ep, t, R, p⟩ := x
  exact ⟨hs, es, ep, t, R.keep k, p⟩
theorem not_yet {ks : List (Addr × List Int)} {i : Nat} {p : Addr × List Int} (nd : (hashes P w ks).Nodup) (h : ks[i]? = some p) : thash P w p.2 ∉ hashes P w (ks.take i) := by
  intro m
  have e : (hashes P w ks) = hashes P w (ks.take i) ++ hashes P w (ks.drop i) := by
    rw [hashes, ← List.map_append, List.take_append_drop]
  rw [e] at nd
  have hi := (List.getElem?_eq_some_iff.mp h).1
  have m2 : thash P w p.2 ∈ hashes P w (ks.drop i) := List.mem_map.mpr ⟨p, List.mem_of_getElem? (i := 0) (by rw [List.getElem?_drop]; exact h), rfl⟩
  exact (List.nodup_append.mp nd).2.2 _ m _ m2 rfl
/-- the loop of set.update -/
theorem upd_loop {I S : Addr} {fp wr : List Addr} {G : Array GenState → Array GenState → Prop} {n : Nat} {Pv : Nat → Value → Prop} {St : Nat → Shared → Prop} {R : Result → Shared → Prop} (W : WalksS P w A.in1 I fp wr G n Pv St) (out : S ∉ fp)
    {ks : List (Addr × List Int)} (len : n = ks.length) (few : ks.length < 300) (nd : (hashes P w ks).Nodup) (val : ∀ i v, Pv i v → ∃ p, ks[i]? = some p ∧ v = .ref p.1) {h0 : Heap} (tup : ∀ p ∈ ks, IsT P w h0 p.2 p.1)
    (new : h0.get? S = none) (wn : ∀ b ∈ wr, h0.get? b = none) (hu : A.in1.units < cLine) :
    ∀ (left i : Nat) (s : Shared), n - i = left → i ≤ n → St i s → (∀ b o, h0.get? b = some o → s.heap.get? b = some o) → Has P w s.heap S ks i →
      (∀ s', Moved (S :: wr) G s s' → Has P w s'.heap S ks n → (∀ b o, h0.get? b = some o → s'.heap.get? b = some o) → R (.ok (.ret .none)) s') →
      codeAny (model P w) A (.builtin "set.update.loop" ⟨[.ref S, .ref I], []⟩) R s := by
  have sw : S ∉ wr := fun m => out (W.sub _ m)
  have wide : ∀ b ∈ wr, b ∈ S :: wr := fun b m => List.mem_cons_of_mem S m
  have stays : ∀ {s s' : Shared}, Moved wr G s s' → (∀ b o, h0.get? b = some o → s.heap.get? b = some o) → ∀ b o, h0.get? b = some o → s'.heap.get? b = some o := fun mv k b o e =>
    mv.heap b o (fun m => absurd e (by rw [wn b m]; simp)) (k b o e)
  intro left
  induction left with
  | zero =>
    intro i s e hi st kp has fin
    obtain rfl : i = n := by omega
    refine codeAny_builtin F.entry_set_update_loop ?_
    rw [Around.under_plainId F.plain_set_update_loop _]
    show wpAny _ A.in1 (pyNext (.ref I) >>= _) _ _ s
    refine wpAny_bind (W.done s _ _ st fun s' mv => ?_)
    show wpAny _ A.in1 (ret Value.none) _ _ s'
    exact wpAny_pure (fin s' (mv.mono wide) (has.keep fun o => mv.heap S o sw) (stays mv kp))
  | succ left ih =>
    intro i s e hi st kp has fin
    refine codeAny_builtin F.entry_set_update_loop ?_
    rw [Around.under_plainId F.plain_set_update_loop _]
    show wpAny _ A.in1 (pyNext (.ref I) >>= _) _ _ s
    refine wpAny_bind (W.item i s _ _ (by omega) st fun v s' pv st' mv => ?_)
    obtain ⟨p, hp, rfl⟩ := val i v pv
    have kp' := stays mv kp
    obtain ⟨hs, es, ep, t, Q, pm⟩ := has.keep fun o => mv.heap S o sw
    have hx : IsT P w s'.heap p.2 p.1 := isT_keep (tup p (List.mem_of_getElem? hp)) kp'
    show wpAny _ A.in1 (holding [Value.ref p.1] (setAdd S (.ref p.1)) >>= _) _ _ s'
    refine wpAny_bind (wpAny_holding ?_)
    unfold setAdd
    refine wpAny_holding (wpAny_bind (wpAny_pyHash_tuple hu hx ?_))
    refine sq_add (s := { s' with toks := s'.toks + (p.2.length + 1) }) Q hx (fun m => not_yet nd hp (pm.mem_iff.mp m)) (by
      have := pm.length_eq
      rw [hashes, List.length_map, List.length_take] at this
      omega) fun h' hs2 es2 ep2 t2 sb Q2 pm2 => ?_
    have has2 : Has P w h' S ks (i + 1) := by
      refine ⟨hs2, es2, ep2, t2, Q2, pm2.trans ((pm.cons _).trans ?_)⟩
      rw [take_next hp, hashes, hashes, List.map_append]
      exact (List.perm_append_singleton _ _).symm
    have kp2 : ∀ b o, h0.get? b = some o → h'.get? b = some o := fun b o q => (sb.2 b fun z => by rw [z, new] at q; cases q).trans (kp' b o q)
    refine wpAny_pure ⟨plainId_quiet F.plain_set_update_loop _, ih (i + 1) _ (by omega) (by omega) (W.frame _ s' _ _ st' (Nat.le_add_right _ _) fun b m o q => ?_) kp2 has2 fun s'' mv2 has3 kp3 => ?_⟩
    · exact (sb.2 b fun z => out (z ▸ m)).trans q
    · refine fin s'' (Moved.trans W.gtrans ((mv.mono wide).then_heap (Nat.le_add_right _ _) fun b o m q => ?_) mv2) has3 kp3
      exact (sb.2 b fun z => m (z ▸ List.mem_cons_self)).trans q
theorem has0 {h : Heap} {S : Addr} {ks : List (Addr × List Int)} (ho : h.get? S = some { cls := .type "set", dict := none, data := .set #[] 0 (.fresh 0 0 (!w.params.followText "set-order")) }) : Has P w h S ks 0 := by
  refine ⟨[], #[], 0, _, ⟨⟨_, ho, ⟨rfl, rfl, rfl⟩, rfl⟩, rfl, List.Pairwise.nil, rfl, rfl, .inl (.inl rfl), rfl, ?_, by show 0 * 5 < 7 * 3; decide⟩, List.Perm.refl _⟩
  by_cases c : w.params.followText "set-order" = true
  · exact .inl c
  · refine .inr ?_
    show (!w.params.followText "set-order") = true
    simpa using c
/-- an empty set that is new -/
abbrev bare (w : World) : Obj := { cls := .type "set", dict := none, data := .set #[] 0 (.fresh 0 0 (!w.params.followText "set-order")) }
/-- what a set made of ks leaves -/
def Made (P : Program) (w : World) (ks : List (Addr × List Int)) (s s' : Shared) : Prop := ∃ h' tk, s' = { s with heap := h', toks := tk } ∧ Has P w h' s.heap.objs.size ks ks.length ∧ ∀ b o, s.heap.get? b = some o → h'.get? b = some o
theorem out_of (s : Shared) {b : Addr} (h : s.heap.objs.size ≤ b) : s.heap.get? b = none := Heap.get?_none_of_le h
/-- set.__init__(new, xs) -/
theorem init_of {l : Addr} {items : Array Value} {ks : List (Addr × List Int)} (hh : A.handled = none) (hl : s.heap.IsList l items) (hit : items.toList = ks.map fun p => Value.ref p.1) (tup : ∀ p ∈ ks, IsT P w s.heap p.2 p.1) (few : ks.length < 300)
    (nd : (hashes P w ks).Nodup) (hu : A.units + 2 < cLine) :
    wpAny (model P w) A (Builtin.«set.__init__» ⟨[.ref s.heap.objs.size, .ref l], []⟩) (fun fin s2 => fin = .done (.ret .none) ∧ Made P w ks s s2) E { s with heap := s.heap.push (bare w) } := by
  have lt : l < s.heap.objs.size := by obtain ⟨_, e, _⟩ := hl; exact Heap.lt_size e
  have sz1 : (s.heap.push (bare w)).objs.size = s.heap.objs.size + 1 := Heap.size_push ..
  obtain ⟨ol, e1, e2, nl, e3⟩ := hl
  obtain ⟨oc, od, oda, osl⟩ := ol
  dsimp only at e2 e3
  subst e2; subst e3
  have at1 : (s.heap.push (bare w)).get? l = some { cls := .type "list", dict := od, data := .seq items nl, slots := osl } := Heap.get?_push_of_some _ e1
  have li : (s.heap.push (bare w)).IsList l items := ⟨_, at1, rfl, nl, rfl⟩
  have n1 := F.sub_list_set
  have n2 := F.sub_list_frozenset
  have n3 : (Value.type "list" == Value.type "dict") = false := by decide
  unfold Builtin.«set.__init__» noKeywords Builtin.Frozenset.updateFrom
  generalize hPI : pyIter = PI
  wp_walk
  subst hPI
  refine wpAny_pyIter_list li (wpAny_bind (wpAny_runValue ?_))
  have ii : (s.heap.push (bare w)).objs.size ≠ l := by rw [sz1]; exact Nat.ne_of_gt (Nat.lt_succ_of_lt lt)
  have is : s.heap.objs.size ∉ [(s.heap.push (bare w)).objs.size, l] := by
    simp only [List.mem_cons, List.not_mem_nil, or_false, not_or, sz1]
    exact ⟨Nat.ne_of_lt (Nat.lt_succ_self _), Nat.ne_of_gt lt⟩
  have isz : items.size = ks.length := by rw [← Array.length_toList, hit, List.length_map]
  have hin : A.in1.handled = none := hh
  refine upd_loop ((Walks.list hin _ l ii.symm items).toS) is isz few nd (fun i v e => ?_) (h0 := s.heap) tup (out_of s (Nat.le_refl _)) (fun b m => out_of s (by rw [List.mem_singleton.mp m, sz1]; exact Nat.le_succ _)) (by show A.units + 1 < cLine; omega)
    (items.size - 0) 0 _ rfl (Nat.zero_le _) ⟨⟨_, Heap.get?_push_size _ rfl, rfl, rfl⟩, li.push _⟩ (fun b o e => Heap.get?_push_of_some _ (Heap.get?_push_of_some _ e)) (has0 (Heap.get?_push_of_some _ (Heap.get?_push_size _ rfl))) fun s' mv has kp => ?_
  · have e2 : items.toList[i]? = some v := by rw [Array.getElem?_toList]; exact e
    rw [hit, List.getElem?_map, Option.map_eq_some_iff] at e2
    obtain ⟨p, q1, q2⟩ := e2
    exact ⟨p, q1, q2.symm⟩
  · obtain ⟨h', g', d', tk, os'⟩ := s'
    obtain rfl : g' = s.gens := mv.gens
    obtain rfl : d' = s.drawn := mv.drawn
    obtain rfl : os' = s.os := mv.os
    rw [isz] at has
    exact wpAny_pure (wpAny_pure ⟨rfl, h', tk, rfl, has, kp⟩)
/-- set(xs) -/
theorem set_of {l : Addr} {items : Array Value} {ks : List (Addr × List Int)} {Q : Value → Shared → Prop} (hh : A.handled = none) (hl : s.heap.IsList l items) (hit : items.toList = ks.map fun p => Value.ref p.1) (tup : ∀ p ∈ ks, IsT P w s.heap p.2 p.1) (few : ks.length < 300)
    (nd : (hashes P w ks).Nodup) (hu : A.units + 10 < cLine) (q : ∀ s', Made P w ks s s' → Q (.ref s.heap.objs.size) s') : wpAny (model P w) A (call (.type "set") [.ref l]) Q E s := by
  have made := F.called_set.made
  have sub := F.called_set.sub
  have notTy := F.called_set.notType
  have can := F.called_set.canCreate
  have ty := F.typeCall_set_1 (.ref l)
  obtain ⟨c, tl, mro⟩ := F.called_set.mro
  apply wpAny_call
  apply codeAny_of_tree
  show wpAny _ _ (callAny (.type "set") _) _ _ _
  apply wpAny_pure
  refine ⟨Code.quiet_builtin _ (by decide +kernel), ?_⟩
  apply codeAny_builtin F.entry_type_call
  rw [Around.under_plain (weight_type_call_type "set" [.ref l] []) rfl]
  repeat (any_goals (first | assumption | wp_step))
  have born : ∀ (r : Result) (s1 : Shared), wants (fun obj s1 => obj = Value.ref s.heap.objs.size ∧ s1 = { s with heap := s.heap.push (bare w) }) E r s1 → (match r with
      | .ok (.ret v) => v = Value.ref s.heap.objs.size ∧ s1 = { s with heap := s.heap.push (bare w) }
      | .ok _ => False
      | .error e => E e s1) := fun r s1 h => by
    cases r with
    | error e => exact h
    | ok f => cases f <;> exact h
  refine codeAny_mono (code_set_led1 (.ref l) (E := E) (Q₁ := fun obj s1 => obj = Value.ref s.heap.objs.size ∧ s1 = { s with heap := s.heap.push (bare w) }) ⟨rfl, rfl⟩) fun r s1 h => ?_
  have h := born r s1 h
  cases r with
  | error e => exact h
  | ok f =>
    cases f with
    | next => exact h.elim
    | brk => exact h.elim
    | cont => exact h.elim
    | ret v =>
      obtain ⟨rfl, rfl⟩ := h
      have isSet : Shared.TypeIs { s with heap := s.heap.push (bare w) } (.ref s.heap.objs.size) "set" := ⟨_, Heap.get?_push_size _ rfl, rfl⟩
      have look := F.called_set.init.lookup
      have bind := F.called_set.init.bind (.ref s.heap.objs.size)
      repeat (any_goals (first | assumption | wp_step))
      refine codeAny_mono (codeAny_call_builtin (R := wants (fun r s2 => r = .none ∧ Made P w ks s s2) E) F.called_set.init.plain F.entry_set_init (check_set_init_1 isSet ?_)) fun r2 s2 h2 => ?_
      · refine wpAny_mono (init_of (E := E) hh hl hit tup few nd ?_) (fun fin s2 z => ?_) fun e s2 z => ?_
        · show A.units + 1 + 1 + 2 < cLine
          exact Nat.lt_of_le_of_lt (by omega) hu
        · obtain ⟨rfl, m⟩ := z
          exact ⟨rfl, m⟩
        · exact z
      · cases r2 with
        | error e => exact h2
        | ok f2 =>
          cases f2 with
          | ret v =>
            obtain ⟨rfl, m⟩ := h2
            repeat (any_goals (first | assumption | wp_step))
            exact q _ m
          | _ => exact h2.elim
/-- len(s), s made so -/
theorem len_of {S : Addr} {ks : List (Addr × List Int)} {Q : Value → Shared → Prop} (few : ks.length < 300) (h : Has P w s.heap S ks ks.length) (q : Q (.int ks.length (s.toks + 1)) { s with toks := s.toks + 1 + 1 }) : wpAny (model P w) A (call (.builtin "len") [.ref S]) Q E s := by
  obtain ⟨hs, es, ep, t, R, pm⟩ := h
  obtain ⟨o, ho, hex, hd⟩ := R.ob
  have e : es.size = ks.length := by
    rw [R.size, pm.length_eq, List.take_length, hashes, List.length_map]
  refine call_len_set ho hex hd R.fits (by rw [e]; omega) ?_
  rw [e]
  exact q
/-! ### pairs of small numbers have unlike hashes -/
def ph (i j : Nat) : Int := reduceHash (Builtin.Tuple.tupleHashOf [reduceHash (i : Int), reduceHash (j : Int)])
end
end Den.PS
end

section
set_option Elab.async false
set_option linter.all false
set_option maxRecDepth 100000
set_option maxHeartbeats 4000000
/-! DenX6: what these make of data. -/
namespace Den
open PySem L2

/-! ### sorted(xs, key=f) -/
section
variable {X : Cx} {W : Pw}
def sortKeyD : D → Option RV
  | .lst ds => (strsD ds).bind fun zs => if shortB zs then some (.own (.lst ((zs.mergeSort leS).map .str))) else none
  | _ => none
def pSortKey (P : PF) : PF := fun env => do
  let (rv, e1) ← P env
  let d ← rv.cont e1
  let z ← sortKeyD d
  some (z, e1)
theorem rpAll_strs {G : Hp} : ∀ (zs : List Str), RpAll W G (zs.map V.str) (zs.map D.str)
  | [] => .nil
  | z :: zs => .cons (.str z) (rpAll_strs zs)
theorem sortKey_tE {f : Addr} {P : PF} {σ : L2.St} {H : Hp} {Q : VK} (h : tE W (pSortKey P) σ H Q) : tCKw (rSortKey W f) (tCons (tE W P) tNil) (tCons (tC (.ref f)) tNil) σ H Q := by
  obtain ⟨env, G, rv, env', r, p, k⟩ := h
  unfold pSortKey at p
  simp only [Option.bind_eq_bind, Option.bind_eq_some_iff, Prod.exists, Option.some.injEq, Prod.mk.injEq] at p
  obtain ⟨rv0, e1, h1, d, h2, z, h3, rfl, rfl⟩ := p
  refine tE_one r h1 fun v H1 G1 s o => ?_
  unfold sortKeyD at h3
  split at h3
  · rename_i ds
    simp only [Option.bind_eq_some_iff] at h3
    obtain ⟨zs, h4, h5⟩ := h3
    split at h5
    · rename_i hb
      cases h5
      obtain ⟨a, vs, rfl, ha, ra⟩ := (o.vw s.rel h2).lst s.rel.sub
      have e := strsD_ok ra h4
      subst e
      refine ⟨a, zs, rfl, rfl, SqL.of ha, hb, fun p hp => ?_⟩
      have n : NR W H1 G1 (.ref p) (.own (.lst ((zs.mergeSort leS).map .str))) (upd H1 p (.lst ((zs.mergeSort leS).map V.str))) G1 := NR.own s.rel.sub hp (.lst (rpAll_strs _))
      exact k _ _ _ (s.trans (n.step s.rel)) (n.rv s.ext.dom)
    · cases h5
  · cases h3
theorem pd_sortKey {f : Addr} {e : Expr} {k : Str} {p fp kp pos : Pos} {P : PF} (hK : X.K = W.K) (F : KeyLen X.prog X.w X.K X.mg X.base f) (hr : Room 3 X.A) (hg : Gl X "sorted") (hm : X.mg "sorted" = none) (hgk : Gl X k) (hmk : X.mg k = some (.ref f)) (hd : (k == ("__debug__" : Str)) = false)
    (he : PD X W P e) (hs : notStar e = true) : PD X W (pSortKey P) (.Call (.Name "sorted" p) [e] [⟨some "key", .Name k fp, kp⟩] pos) := by
  have st : starEach [e] X.env = (false, eval e X.env) :: starEach [] X.env := star_plain hs
  exact PE.weak (pe_callBK (cr_sortKey hK F hr) hg hm PyProof.Rows.boot_sorted (pa_cons he pa_nil st) (pk_cons (pe_glob (v := V.ref f) hgk hmk rfl hd) pk_nil) (by decide) (by decide) (by rw [st]; rfl) (by rw [st]; rfl)) fun σ H Q h => sortKey_tE h

/-! ### len(set(xs)) -/
def pairsD : List D → Option (List (Nat × Nat))
  | [] => some []
  | .tup [.int i, .int j] :: ds => if 0 ≤ i ∧ i < 25 ∧ 0 ≤ j ∧ j < 25 then (pairsD ds).map ((i.toNat, j.toNat) :: ·) else none
  | _ :: _ => none
def pLenSet (P : PF) : PF := fun env => do
  let (rv, e1) ← P env
  let d ← rv.cont e1
  match d with
  | .lst ds => (pairsD ds).bind fun ps => if ps.length < 300 ∧ ps.Nodup then some (.dat (.int ps.length), e1) else none
  | _ => none
def ph (p : Nat × Nat) : Int := reduceHash (Builtin.Tuple.tupleHashOf [hashInt (p.1 : Int), hashInt (p.2 : Int)])
def allP25 : List (Nat × Nat) := (List.range 25).flatMap fun i => (List.range 25).map fun j => (i, j)
def distB (M : Nat) : List Nat → Nat → Bool
  | [], _ => true
  | h :: hs, acc => !(acc.testBit (h % M)) && distB M hs (acc ||| (1 <<< (h % M)))
theorem distB_ok {M : Nat} : ∀ {hs : List Nat} {acc : Nat}, distB M hs acc = true → hs.Nodup ∧ ∀ h ∈ hs, acc.testBit (h % M) = false
  | [], acc, _ => ⟨List.nodup_nil, fun h m => by cases m⟩
  | h :: hs, acc, e => by
    simp only [distB, Bool.and_eq_true, Bool.not_eq_true'] at e
    obtain ⟨n, f⟩ := distB_ok e.2
    have g : ∀ x ∈ hs, acc.testBit (x % M) = false ∧ x % M ≠ h % M := fun x m => by
      have q := f x m
      rw [Nat.testBit_or, Bool.or_eq_false_iff] at q
      refine ⟨q.1, fun z => ?_⟩
      have q2 := q.2
      rw [z] at q2
      simp [Nat.testBit_shiftLeft] at q2
    refine ⟨List.nodup_cons.mpr ⟨fun m => (g h m).2 rfl, n⟩, fun x m => ?_⟩
    rcases List.mem_cons.mp m with rfl | m
    · exact e.1
    · exact (g x m).1
theorem ph_dist : distB 20001 (allP25.map fun p => (ph p % (2 ^ 70)).toNat) 0 = true := by decide +kernel
theorem inj_map {α β : Type} {f : α → β} : ∀ {l : List α}, (l.map f).Nodup → ∀ {x y : α}, x ∈ l → y ∈ l → f x = f y → x = y
  | [], _, x, y, hx, _, _ => by cases hx
  | a :: l, h, x, y, hx, hy, e => by
    rw [List.map_cons, List.nodup_cons] at h
    rcases List.mem_cons.mp hx with q1 | q1
    · rcases List.mem_cons.mp hy with q2 | q2
      · rw [q1, q2]
      · exact (h.1 (by rw [← q1, e]; exact List.mem_map_of_mem q2)).elim
    · rcases List.mem_cons.mp hy with q2 | q2
      · exact (h.1 (by rw [← q2, ← e]; exact List.mem_map_of_mem q1)).elim
      · exact inj_map h.2 q1 q2 e
theorem ph_inj {p q : Nat × Nat} (h1 : p.1 < 25) (h2 : p.2 < 25) (h3 : q.1 < 25) (h4 : q.2 < 25) (e : ph p = ph q) : p = q := by
  have m : ∀ r : Nat × Nat, r.1 < 25 → r.2 < 25 → r ∈ allP25 := fun r a b => List.mem_flatMap.mpr ⟨r.1, List.mem_range.mpr a, List.mem_map.mpr ⟨r.2, List.mem_range.mpr b, rfl⟩⟩
  exact inj_map (distB_ok ph_dist).1 (m p h1 h2) (m q h3 h4) (by rw [e])
theorem nodup_map {α β : Type} {f : α → β} : ∀ {l : List α}, l.Nodup → (∀ x ∈ l, ∀ y ∈ l, f x = f y → x = y) → (l.map f).Nodup
  | [], _, _ => List.nodup_nil
  | a :: l, h, i => by
    rw [List.nodup_cons] at h
    rw [List.map_cons, List.nodup_cons]
    refine ⟨fun m => ?_, nodup_map h.2 fun x hx y hy => i x (List.mem_cons_of_mem _ hx) y (List.mem_cons_of_mem _ hy)⟩
    obtain ⟨b, hb, e⟩ := List.mem_map.mp m
    have := i b (List.mem_cons_of_mem _ hb) a List.mem_cons_self e
    subst this
    exact h.1 hb
/-- pairs that are read -/
theorem pairsD_bd : ∀ {ds : List D} {ps : List (Nat × Nat)}, pairsD ds = some ps → ∀ p ∈ ps, p.1 < 25 ∧ p.2 < 25
  | [], ps, h => by cases h; intro p m; cases m
  | d :: ds, ps, h => by
    unfold pairsD at h
    split at h
    · cases h; intro p m; cases m
    · rename_i i j ds' heq
      cases heq
      split at h
      · simp only [Option.map_eq_some_iff] at h
        obtain ⟨ps', h1, rfl⟩ := h
        intro p m
        rcases List.mem_cons.mp m with rfl | m
        · exact ⟨by show i.toNat < 25; omega, by show j.toNat < 25; omega⟩
        · exact pairsD_bd h1 p m
      · cases h
    · cases h
open PySem.Spec PyProof.Rows in
/-- the set at S, made of ks -/
def SetHO (P : Program) (w : World) (S : Addr) (ks : List (Addr × List Int)) : HO := .ext fun h => PS.Has P w h S ks ks.length
theorem setHO_ok {P : Program} {w : World} {H : Hp} {h : Heap} {S : Addr} {ks : List (Addr × List Int)} (e : PS.Has P w h S ks ks.length) : ObjOk P w H h S (SetHO P w S ks) := by
  refine ⟨e, ?_, fun h1 h2 q k => q.keep fun o => k o⟩
  obtain ⟨hs, es, ep, t, R, _⟩ := e
  obtain ⟨o, ho, _⟩ := R.ob
  exact ⟨o, ho⟩
def rSetP (K : PySem.W.Frag) (P : Program) (w : World) : List V → Hp → VK → Prop := fun xs H Q => ∃ (l : Addr) (ks : List (Addr × Nat × Nat)), xs = [.ref l] ∧ SqL K H l (ks.map fun p => V.ref p.1) ∧ (∀ p ∈ ks, SqT K H p.1 [.int (p.2.1 : Int), .int (p.2.2 : Int)] ∧ p.2.1 < 25 ∧ p.2.2 < 25) ∧ ks.length < 300 ∧ (ks.map Prod.snd).Nodup ∧
  ∀ p, H p = none → Q (.ref p) (upd H p (SetHO P w p (ks.map fun q => (q.1, [(q.2.1 : Int), (q.2.2 : Int)]))))
theorem refs_eq : ∀ {ks : List (Addr × Nat × Nat)} {us : List Value}, Vals (ks.map fun p => V.ref p.1) us → us = ks.map fun p => Value.ref p.1
  | [], us, h => by cases h; rfl
  | k :: ks, us, h => by
    cases h with
    | cons a t => rw [refs_eq t, show _ = Value.ref k.1 from a]; rfl
theorem cr_setP (hu : X.A.units + 64 < cLine) (hh : X.A.handled = none) : CallR X (.type "set") (rSetP X.K X.prog X.w) := by
  intro pins s σ H xs us Q I r h
  obtain ⟨l, ks, rfl, hs, hk, few, nd, q⟩ := h
  obtain ⟨u, rfl, ru⟩ := vals1 r
  obtain rfl : u = Value.ref l := ru
  obtain ⟨its, rv, hl, _⟩ := I.list hs
  have e := refs_eq rv
  subst e
  have th : ∀ p ∈ ks, L2.thash X.prog X.w [(p.2.1 : Int), (p.2.2 : Int)] = ph p.2 := fun p _ => rfl
  refine PS.set_of (ks := ks.map fun q => (q.1, [(q.2.1 : Int), (q.2.2 : Int)])) hh hl.isList (by simp [List.map_map, Function.comp_def]) (fun p hp => ?_) (by simpa using few) ?_ (by omega) fun s' made => ?_
  · obtain ⟨p0, h0, rfl⟩ := List.mem_map.mp hp
    exact I.isT (k := [(p0.2.1 : Int), (p0.2.2 : Int)]) (hk p0 h0).1
  · show ((ks.map fun q => (q.1, [(q.2.1 : Int), (q.2.2 : Int)])).map fun p => L2.thash X.prog X.w p.2).Nodup
    rw [List.map_map]
    have e : ks.map ((fun p => L2.thash X.prog X.w p.2) ∘ fun q : Addr × Nat × Nat => (q.1, [(q.2.1 : Int), (q.2.2 : Int)])) = (ks.map Prod.snd).map ph := by
      rw [List.map_map]; exact List.map_congr_left fun p hp => rfl
    rw [e]
    refine nodup_map nd fun x hx y hy e => ?_
    obtain ⟨a, ha, rfl⟩ := List.mem_map.mp hx
    obtain ⟨b, hb, rfl⟩ := List.mem_map.mp hy
    exact ph_inj (hk a ha).2.1 (hk a ha).2.2 (hk b hb).2.1 (hk b hb).2.2 e
  · obtain ⟨h', tk, rfl, has, kp⟩ := made
    exact ⟨.ref s.heap.objs.size, _, I.laid (t' := tk) kp (Nat.le_refl _) (setHO_ok has), rfl, q _ (I.hok.fresh (Nat.le_refl _))⟩
def rLenP (P : Program) (w : World) : List V → Hp → VK → Prop := fun xs H Q => ∃ (S : Addr) (ks : List (Addr × List Int)), xs = [.ref S] ∧ H S = some (SetHO P w S ks) ∧ ks.length < 300 ∧ Q (.int (ks.length : Nat)) H
theorem cr_lenP : CallR X (.builtin "len") (rLenP X.prog X.w) := by
  intro pins s σ H xs us Q I r h
  obtain ⟨S, ks, rfl, hs, few, q⟩ := h
  obtain ⟨u, rfl, ru⟩ := vals1 r
  obtain rfl : u = Value.ref S := ru
  refine PS.len_of few (I.hok S _ hs).1 ?_
  exact ⟨.int _, H, I.tok _, ⟨_, rfl⟩, q⟩
theorem pairs_at {G H : Hp} (s : Same G H) : ∀ {vs : List V} {ds : List D} {ps : List (Nat × Nat)}, RpAll W G vs ds → pairsD ds = some ps → ∃ ks : List (Addr × Nat × Nat), vs = ks.map (fun p => V.ref p.1) ∧ ks.map Prod.snd = ps ∧ ∀ p ∈ ks, SqT W.K H p.1 [.int (p.2.1 : Int), .int (p.2.2 : Int)]
  | _, _, ps, .nil, h => by cases h; exact ⟨[], rfl, rfl, fun p m => by cases m⟩
  | _, _, ps, .cons (d := d) a r, h => by
    unfold pairsD at h
    split at h
    · rename_i e; cases e
    · rename_i i j ds' heq
      cases heq
      split at h
      · rename_i hc
        simp only [Option.map_eq_some_iff] at h
        obtain ⟨ps', h1, rfl⟩ := h
        obtain ⟨ks, rfl, e2, e3⟩ := pairs_at s r h1
        cases a with
        | tup ha ra =>
          rename_i b xs
          have ex : xs = [V.int i, V.int j] := by
            cases ra with
            | cons q1 t => cases q1; cases t with
              | cons q2 t => cases q2; cases t; rfl
          subst ex
          refine ⟨(b, i.toNat, j.toNat) :: ks, rfl, by rw [List.map_cons, e2], fun p m => ?_⟩
          rcases List.mem_cons.mp m with rfl | m
          · have ei : ((i.toNat : Nat) : Int) = i := Int.toNat_of_nonneg hc.1
            have ej : ((j.toNat : Nat) : Int) = j := Int.toNat_of_nonneg hc.2.2.1
            show SqT W.K H b [.int ((i.toNat : Nat) : Int), .int ((j.toNat : Nat) : Int)]
            rw [ei, ej]
            exact SqT.of (s _ _ ha)
          · exact e3 p m
      · cases h
    · cases h
theorem lenSet_tE {P : PF} {σ : L2.St} {H : Hp} {Q : VK} (h : tE W (pLenSet P) σ H Q) : tCB (rLenP X.prog X.w) (tCons (tCB (rSetP W.K X.prog X.w) (tCons (tE W P) tNil)) tNil) σ H Q := by
  obtain ⟨env, G, rv, env', r, p, k⟩ := h
  unfold pLenSet at p
  simp only [Option.bind_eq_bind, Option.bind_eq_some_iff, Prod.exists] at p
  obtain ⟨rv0, e1, h1, d, h2, p⟩ := p
  refine tE_one r h1 fun v H1 G1 s o => ?_
  split at p
  · rename_i ds
    simp only [Option.bind_eq_some_iff] at p
    obtain ⟨ps, h3, p⟩ := p
    split at p
    · rename_i hc
      cases p
      obtain ⟨a, vs, rfl, ha, ra⟩ := (o.vw s.rel h2).lst s.rel.sub
      obtain ⟨ks, rfl, e2, e3⟩ := pairs_at s.rel.sub ra h3
      have bd := pairsD_bd h3
      have el : ks.length = ps.length := by rw [← e2, List.length_map]
      refine ⟨a, ks, rfl, SqL.of ha, fun p m => ⟨e3 p m, bd p.2 (e2 ▸ List.mem_map_of_mem m)⟩, by rw [el]; exact hc.1, by rw [e2]; exact hc.2, fun S hS => ?_⟩
      refine ⟨S, _, rfl, upd_same, by rw [List.length_map, el]; exact hc.1, ?_⟩
      rw [List.length_map, el]
      have gS : G1 S = none := s.rel.sub.free hS
      have n : NR W H1 G1 (.int (ps.length : Nat)) (.dat (.int (ps.length : Nat))) (upd H1 S (SetHO X.prog X.w S (ks.map fun q => (q.1, [(q.2.1 : Int), (q.2.2 : Int)])))) G1 :=
        ⟨same_upd hS, ⟨Same.refl _, fun _ _ z => z, fun b z => by
          by_cases c : b = S
          · rw [c]; exact hS
          · rw [upd_ne c] at z; exact z⟩, s.rel.sub.trans (same_upd hS), .int _⟩
      exact k _ _ _ (s.trans (n.step s.rel)) (n.rv s.ext.dom)
    · cases p
  · cases p
theorem pd_lenSet {e : Expr} {p p2 q q2 : Pos} {P : PF} (hK : X.K = W.K) (hh : X.A.handled = none) (hu : X.A.units + 64 < cLine) (hg : Gl X "len") (hm : X.mg "len" = none) (hg2 : Gl X "set") (hm2 : X.mg "set" = none) (he : PD X W P e) (hs : notStar e = true) :
    PD X W (pLenSet P) (.Call (.Name "len" p) [.Call (.Name "set" p2) [e] [] q2] [] q) := by
  have st : starEach [e] X.env = (false, eval e X.env) :: starEach [] X.env := star_plain hs
  have inner := pe_callTy (p := p2) (pos := q2) (cr_setP (X := X) hu hh) hg2 hm2 PyProof.Rows.boot_set (pa_cons he pa_nil st) (by decide) (by decide) st (by rfl)
  exact PE.weak (pe_callB (p := p) (pos := q) cr_lenP hg hm PySem.boot_len (pa_cons inner pa_nil rfl) (by decide) (by decide) rfl rfl) fun σ H Q h => by rw [hK]; exact lenSet_tE h

/-! ### walking lists, tuples, texts, own objects -/
def iWalkV (own : Nat → Option Str) (P : PF) : IF := fun env => (P env).bind fun r => match itemsD r.1 with
  | some ds => some (ds, r.2)
  | none => (ownItems own (r.1.cont r.2)).map fun ds => (ds, r.2)
theorem pid_walkV {own : Nat → Option Str} {tg e : Expr} {P : PF} (hK : X.K = W.K) (hg : X.A.guards = some []) (hr : Room 1 X.A) (ho : ∀ c fld, own c = some fld → OwnWalk X (W.cl c) fld) (h : PD X W P e) : PID X W tg (iWalkV own P) e := by
  refine PI.weak (PI.or (pid_walk hK h) (pi_own (cw := fun C fld => ∃ c, C = W.cl c ∧ own c = some fld) (fun C fld ⟨c, e1, e2⟩ => by rw [e1]; exact ho c fld e2) hg hr h)) fun σ H R ⟨env, G, ds, env', r, p, k⟩ => ?_
  unfold iWalkV at p
  simp only [Option.bind_eq_some_iff, Prod.exists] at p
  obtain ⟨rv, e1, h1, p⟩ := p
  split at p
  · rename_i ds' h2
    cases p
    refine .inl ⟨env, G, ds, _, r, ?_, k⟩
    unfold iWalk
    rw [h1]
    simp only [Option.bind_eq_bind, Option.bind_some, h2]
  · simp only [Option.map_eq_some_iff, Prod.mk.injEq] at p
    obtain ⟨ds', h2, rfl, rfl⟩ := p
    refine .inr ?_
    rw [hK]
    refine own_tI ⟨env, G, ds', e1, r, ?_, k⟩
    unfold iOwnF
    rw [h1]
    simp only [Option.bind_eq_bind, Option.bind_some, h2]
end
end Den
end

section
set_option Elab.async false
set_option linter.all false
set_option maxRecDepth 100000
set_option maxHeartbeats 4000000
/-! DenM: what the text itself makes of data. -/
namespace Den
open PySem L2

/-- a def of the program: its name, which of its parameters it changes, what it makes, its parameters, their defaults, the shapes of its calls -/
structure Fi where
  nm : Str
  io : List Bool
  F : DF
  ps : List Str
  ds : List D
  shs : List Shp
def Fi.shape (fi : Fi) (n : Nat) (ks : List Str) : Option Shp := fi.shs.find? fun s => s.n == n && (s.ks == ks && s.good fi.ds.length)
/-- a built-in function or type that is called -/
inductive Bi where
  | len | abs | max | min | int | divmod | all | repr | any | sum | isi | sorted | list | tuple | str
  deriving DecidableEq
def Bi.f : Bi → List D → Option RV
  | .len => lenD
  | .abs => absD
  | .max => max2D
  | .min => min2D
  | .int => int1D
  | .divmod => divmodD
  | .all => allD
  | .repr => reprD
  | .any => anyD
  | .sum => sumD
  | .isi => isiD
  | .sorted => sortedD
  | .list => listD
  | .tuple => tupleD
  | .str => strD1
def Bi.nm : Bi → Str
  | .len => "len"
  | .abs => "abs"
  | .max => "max"
  | .min => "min"
  | .int => "int"
  | .divmod => "divmod"
  | .all => "all"
  | .repr => "repr"
  | .any => "any"
  | .sum => "sum"
  | .isi => "isinstance"
  | .sorted => "sorted"
  | .list => "list"
  | .tuple => "tuple"
  | .str => "str"
def bis : List (Str × Bi) := [("len", .len), ("abs", .abs), ("max", .max), ("min", .min), ("int", .int), ("divmod", .divmod), ("all", .all), ("repr", .repr), ("any", .any), ("sum", .sum), ("isinstance", .isi), ("sorted", .sorted), ("list", .list), ("tuple", .tuple), ("str", .str)]
/-- built-in types that are named -/
def tys : List Str := ["int", "str", "bool", "list", "tuple", "dict", "set"]
def tyOfName (x : Str) : String := if x == ("int" : Str) then "int" else if x == ("str" : Str) then "str" else if x == ("bool" : Str) then "bool" else if x == ("list" : Str) then "list" else if x == ("tuple" : Str) then "tuple" else if x == ("set" : Str) then "set" else "dict"
/-- an own class: its name, its number, its fields, its __init__ (the parameters behind self), its constants, its methods, classmethods, properties, operators, reflected ones, one-place ones, == -/
structure Ci where
  nm : Str
  c : Nat
  flds : List Str
  ini : Fi
  cvals : List (Str × D)
  ms : List Fi
  cms : List Fi
  props : List (Str × DF)
  bins : List (String × DF)
  rbins : List (String × DF)
  uns : List (Str × DF)
  eq : Option DF
structure Tab where
  fns : List Fi
  cons : List (Str × D)
  cls : List Ci
  isi : IsiT
  gcds : List Str
  /-- defs that tell (len(x), x) of a text -/
  keys : List Str
  /-- classes whose objects are walked by the list at a field -/
  walk : List (Nat × Str)
def Tab.own (T : Tab) (c : Nat) : Option Str := T.walk.lookup c
def Tab.ci (T : Tab) (x : Str) : Option Ci := T.cls.find? fun f => f.nm == x
def Tab.cid (T : Tab) (c : Nat) : Option Ci := T.cls.find? fun f => f.c == c
/-- the method m of the class c -/
def Tab.ms (T : Tab) (m : Str) (c : Nat) : Option (List Bool × DF) := (T.cid c).bind fun ci => (ci.ms.find? fun fi => fi.nm == m).map fun fi => (fi.io, fi.F)
def Tab.msS (T : Tab) (m : Str) (n : Nat) (ks : List Str) (c : Nat) : Option Mi := (T.cid c).bind fun ci => (ci.ms.find? fun fi => fi.nm == m).bind fun fi => (fi.shape n ks).bind fun sh => if fi.ds.all dFlat then some ⟨fi.io, fi.F, fi.ds, sh⟩ else none
def Tab.prop (T : Tab) (m : Str) (c : Nat) : Option DF := (T.cid c).bind fun ci => ci.props.lookup m
def Tab.binL (T : Tab) (m : String) (c : Nat) : Option DF := (T.cid c).bind fun ci => ci.bins.lookup m
def Tab.binR (T : Tab) (m : String) (c : Nat) : Option DF := (T.cid c).bind fun ci => ci.rbins.lookup m
def Tab.unL (T : Tab) (m : Str) (c : Nat) : Option DF := (T.cid c).bind fun ci => ci.uns.lookup m
def Tab.eqL (T : Tab) (c : Nat) : Option DF := (T.cid c).bind fun ci => ci.eq
def Tab.bif (T : Tab) : Bi → List D → Option RV
  | .isi => isi2D T.isi
  | b => b.f
def Tab.okF (T : Tab) (c : Nat) (f : Str) : Bool := T.cls.any fun ci => ci.c == c && ci.flds.contains f
def Tab.fn (T : Tab) (x : Str) : Option Fi := T.fns.find? fun f => f.nm == x
/-- where the text stands: the names by slots, the scope's names, how many parameters, the slots of names that are changed in place -/
structure Sc where
  N : List Str
  names : List (Str × NameKind)
  np : Nat
  mu : List Nat
def seen : Option NameKind → Bool
  | some .local => true
  | some .cell => true
  | some .free => true
  | _ => false
def Sc.slot (sc : Sc) (x : Str) : Option Nat := if seen (sc.names.lookup x) && !(x == ("__debug__" : Str)) && !(x == ("__classdict__" : Str)) then sc.N.findIdx? (· == x) else none
def Sc.gl (sc : Sc) (x : Str) : Bool := sc.names.lookup x == some .globalImplicit && !(x == ("__debug__" : Str)) && !(x == ("__name__" : Str))
def binD : Operator → Option (D → D → Option RV)
  | .Add => some addD
  | .Sub => some subD
  | .Mult => some mul3D
  | .BitOr => some orD
  | .BitAnd => some andD
  | .BitXor => some xorD
  | .LShift => some shlD
  | .RShift => some shrD
  | .Mod => some modD
  | .FloorDiv => some fdiv3D
  | .Pow => some powD
  | _ => none
def cmpF : CmpOp → Option (D → D → Option RV)
  | .Eq => some eqD
  | .NotEq => some neD
  | .Lt => some (cmpD (fun i j => decide (i < j)) ltS)
  | .LtE => some (cmpD (fun i j => decide (i ≤ j)) fun i j => !ltS j i)
  | .Gt => some (cmpD (fun i j => decide (j < i)) fun i j => ltS j i)
  | .GtE => some (cmpD (fun i j => decide (j ≤ i)) fun i j => !ltS i j)
  | .In => some (in2B false)
  | .NotIn => some (in2B true)
  | .Is => some (isD false)
  | .IsNot => some (isD true)
/-- operators that own classes may have on either side -/
def ownOp : Operator → Bool
  | .Add => true
  | .Sub => true
  | .Mult => true
  | _ => false
/-- a class that is named -/
def clsOf (T : Tab) (sc : Sc) : Expr → Option Ci
  | .Name x _ => if sc.gl x then T.ci x else none
  | _ => none
/-- two values compared -/
def cmpP (T : Tab) (op : CmpOp) (f : D → D → Option RV) (P P' : PF) : PF := match op with
  | .Eq => pCmpV false T.eqL f P P'
  | .NotEq => pCmpV true T.eqL f P P'
  | _ => pBin f P P'
def nope {α β : Type} : α → Option β := fun _ => none
/-- a block's own names and their slots -/
def ownOf (N : List Str) (scope : Scope) : List (Str × Nat) := scope.names.filterMap fun y => match y.2 with
  | .local => (N.findIdx? (· == y.1)).map fun i => (y.1, i)
  | .cell => (N.findIdx? (· == y.1)).map fun i => (y.1, i)
  | _ => none
def blkB (sc : Sc) (scope : Scope) : Bool := (match scope.kind with
    | .function => true
    | _ => false) && (scope.names.all fun y => decide (scope.names.lookup y.1 = some y.2)) && scope.names.all fun y => match y.2 with
    | .free => (match sc.names.lookup y.1 with
      | some .cell => true
      | some .free => true
      | _ => false)
    | _ => true
def Sc.blk (sc : Sc) (scope : Scope) : Sc := ⟨sc.N, scope.names, 0, sc.mu⟩
/-- targets in a block -/
def denGc (sc : Sc) (vs : List Nat) : Expr → GF
  | .Name x _ => match sc.slot x with
    | some i => if vs.contains i && (sc.names.lookup x == some .local || sc.names.lookup x == some .cell) then gSet 0 i else fun _ _ => none
    | none => fun _ _ => none
  | .Tuple [.Name x _, .Name y _] _ _ => match sc.slot x, sc.slot y with
    | some i, some j => if (vs.contains i && (sc.names.lookup x == some .local || sc.names.lookup x == some .cell)) && (vs.contains j && (sc.names.lookup y == some .local || sc.names.lookup y == some .cell)) then gTupF 2 (gsCons (gSet 0 i) (gsCons (gSet 0 j) gsNil)) else fun _ _ => none
    | _, _ => fun _ _ => none
  | _ => fun _ _ => none
def tgNames : Expr → List Str
  | .Name x _ => [x]
  | .Tuple [.Name x _, .Name y _] _ _ => [x, y]
  | _ => []
/-- the slots of an inner for's targets -/
def inSlots (sc : Sc) (vs : List Nat) (tg : Expr) : List Nat := ((tgNames tg).filterMap sc.slot).filter (vs.contains ·)
def isComp : Expr → Bool
  | .ListComp .. => true
  | .SetComp .. => true
  | .DictComp .. => true
  | _ => false

/-- calls of their own kind: sorted(e, key=f), len(set(e)) -/
inductive Spc where
  | key (e : Expr) | ls (e : Expr)
def freeB (T : Tab) (sc : Sc) (x : Str) : Bool := sc.gl x && ((T.fn x).isNone && (T.ci x).isNone)
def spc (T : Tab) (sc : Sc) (x : Str) (es : List Expr) (kws : List Keyword) : Option Spc := match es, kws with
  | [e], [⟨some k, .Name f _, _⟩] => if (x == ("sorted" : Str) && k == ("key" : Str)) && (freeB T sc x && (sc.gl f && (notStar e && T.keys.contains f))) then some (.key e) else none
  | [.Call (.Name y _) [e] [] _], [] => if (x == ("len" : Str) && y == ("set" : Str)) && (freeB T sc x && (freeB T sc y && notStar e)) then some (.ls e) else none
  | _, _ => none
mutual
def denE (T : Tab) (sc : Sc) : Nat → Expr → PF
  | 0, _ => nope
  | n + 1, e => match e with
    | .Constant (.int i) _ _ => pC (.int i)
    | .Constant (.bool b) _ _ => pC (.bl b)
    | .Constant .none _ _ => pC .non
    | .Constant (.str x) _ _ => pC (.str x)
    | .Name x _ => (match sc.slot x with
      | some i => pVar i
      | none => if sc.gl x then (match T.cons.lookup x with
        | some d => pC d
        | none => (match T.ci x with
          | some ci => pC (.kls ci.c)
          | none => if (T.fn x).isNone && tys.contains x then pC (.typ (tyOfName x)) else nope)) else nope)
    | .BinOp a op b _ => (match binD op with
      | some f => if ownOp op then pBinV (T.binL op.info.2) (T.binR op.info.2) f (denE T sc n a) (denE T sc n b) else pBin f (denE T sc n a) (denE T sc n b)
      | none => nope)
    | .UnaryOp .Not a _ => pNot (denE T sc n a)
    | .UnaryOp .USub a _ => pUnV (T.unL "__neg__") (fun d => match d with
      | .int i => some (.dat (.int (-i)))
      | _ => none) (denE T sc n a)
    | .BoolOp op vs _ => denBE T sc n op vs
    | .IfExp c a b _ => pIf (denT T sc n c) (denE T sc n a) (denE T sc n b)
    | .Compare a [op] [b] _ => (match cmpF op with
      | some f => if notSet b then cmpP T op f (denE T sc n a) (denE T sc n b) else nope
      | none => nope)
    | .Compare a [op, op'] [b, c] _ => (match cmpF op, cmpF op' with
      | some f, some f' => if notSet c then pChain f f' (denE T sc n a) (denE T sc n b) (denE T sc n c) else nope
      | _, _ => nope)
    | .Call (.Attribute o "join" ap) [e] [] cp => if isStrC o && notStar e && ap.endLine == cp.line then pM1 joinD (denE T sc n o) (denE T sc n e) else nope
    | .Call (.Attribute o mt ap) es kws cp => if (baseB o && es.all notStar) && (decide (es.length + kws.length < 29) && ap.endLine == cp.line) then (match clsOf T sc o with
      | some ci => (match es, kws with
        | e :: r, [] => (match ci.cms.find? (fun fi => fi.nm == mt) with
          | some fi => pCm fi.io fi.F ci.c (denA T sc n (e :: r))
          | none => nope)
        | _, _ => nope)
      | none => (match kws? kws with
        | some ks => pMethS (T.msS mt es.length ks) mt (denE T sc n o) (denA T sc n es) (denA T sc n (kws.map (·.value)))
        | none => nope)) else nope
    | .List es _ => pLst (denA T sc n es)
    | .Dict [] [] _ => pDnew
    | .Tuple es _ _ => pTup (denA T sc n es)
    | .Subscript a (.Slice lo hi none _) _ => pSl (denE T sc n a) (denO T sc n lo) (denO T sc n hi)
    | .Subscript a b _ => if notSlice b then pBin ixD (denE T sc n a) (denE T sc n b) else nope
    | .JoinedStr (v1 :: v2 :: r) _ => pJs ((v1 :: v2 :: r).map fun e => denE T sc n e) Str.empty
    | .FormattedValue e (-1) none _ => pFmt (denE T sc n e)
    | .Call (.Name x _) es kws _ => (match spc T sc x es kws with
      | some (.key e) => pSortKey (denE T sc n e)
      | some (.ls e) => pLenSet (denE T sc n e)
      | none => if es.all notStar then (match kws? kws with
      | some ks => if sc.gl x then (match T.fn x with
        | some fi => (match fi.shape es.length ks with
          | some sh => pFnS fi.io fi.F sh fi.ds (denA T sc n es) (denA T sc n (kws.map (·.value)))
          | none => nope)
        | none => (match T.ci x with
          | some ci => (match ci.ini.shape es.length ks with
            | some sh => pMkS ci.c ci.ini.io ci.ini.F sh ci.ini.ds (denA T sc n es) (denA T sc n (kws.map (·.value)))
            | none => nope)
          | none => (match es, kws with
            | e :: r, [] => if T.gcds.contains x then pCall gcdD (denA T sc n (e :: r)) else (match bis.lookup x with
              | some .repr => pReprV (T.unL "__repr__") (denA T sc n (e :: r))
              | some b => pCall (T.bif b) (denA T sc n (e :: r))
              | none => nope)
            | _, _ => nope))) else (match sc.slot x with
          | some i => pMkL i fun c => (T.cid c).bind fun ci => (ci.ini.shape es.length ks).map fun sh => pMkS ci.c ci.ini.io ci.ini.F sh ci.ini.ds (denA T sc n es) (denA T sc n (kws.map (·.value)))
          | none => nope)
      | none => nope) else nope)
    | .Attribute (.Name x xp) f _ => if sc.gl x then (match T.ci x with
        | some ci => (match ci.cvals.lookup f with
          | some d => pC d
          | none => nope)
        | none => nope) else pAttrV (T.prop f) T.okF f (denE T sc n (.Name x xp))
    | .Attribute e f _ => if baseB e then pAttrV (T.prop f) T.okF f (denE T sc n e) else nope
    | .ListComp elt [⟨tg, iter, [], 0⟩] scope _ => if blkB sc scope then
        let own := ownOf sc.N scope
        pLc (own.map (·.2)) (denI T sc n tg iter) (denGc (sc.blk scope) (own.map (·.2)) tg) (fun env => some (true, env)) (denE T (sc.blk scope) n elt) else nope
    | .ListComp elt [⟨tg, iter, [c], 0⟩] scope _ => if blkB sc scope then
        let own := ownOf sc.N scope
        pLc (own.map (·.2)) (denI T sc n tg iter) (denGc (sc.blk scope) (own.map (·.2)) tg) (denT T (sc.blk scope) n c) (denE T (sc.blk scope) n elt) else nope
    | .ListComp elt [⟨tg, iter, ifs, 0⟩, ⟨tg1, iter1, ifs1, 0⟩] scope _ => if blkB sc scope && (notSet iter && notSet iter1) then
        let vs := (ownOf sc.N scope).map (fun p : Str × Nat => p.2)
        let vs1 := inSlots (sc.blk scope) vs tg1
        pLc2 vs vs1 (denI T sc n tg iter) (denGc (sc.blk scope) vs tg) (denC T (sc.blk scope) n ifs) (denI T (sc.blk scope) n tg1 iter1) (denGc (sc.blk scope) vs1 tg1) (denC T (sc.blk scope) n ifs1) (denE T (sc.blk scope) n elt) else nope
    | _ => nope
def denBE (T : Tab) (sc : Sc) : Nat → BoolOp → List Expr → PF
  | 0, _, _ => nope
  | n + 1, op, vs => match op, vs with
    | _, [a] => denE T sc n a
    | .And, a :: b :: r => pAnd (denE T sc n a) (denBE T sc n .And (b :: r))
    | .Or, a :: b :: r => pOr (denE T sc n a) (denBE T sc n .Or (b :: r))
    | _, [] => nope
def denT (T : Tab) (sc : Sc) : Nat → Expr → BF
  | 0, _ => nope
  | n + 1, e => match e with
    | .UnaryOp .Not a _ => bNot (denT T sc n a)
    | .BoolOp op vs _ => denBT T sc n op vs
    | .Compare a [op] [b] _ => (match cmpF op with
      | some f => if notSet b then bVal (cmpP T op f (denE T sc n a) (denE T sc n b)) else nope
      | none => nope)
    | .Compare a [op, op'] [b, c] _ => (match cmpF op, cmpF op' with
      | some f, some f' => if notSet c then bVal (pChain f f' (denE T sc n a) (denE T sc n b) (denE T sc n c)) else nope
      | _, _ => nope)
    | .Call .. => bTruth (denE T sc n e)
    | .Name .. => bTruth (denE T sc n e)
    | .Attribute .. => bTruth (denE T sc n e)
    | .Subscript .. => bTruth (denE T sc n e)
    | .Constant .. => bTruth (denE T sc n e)
    | _ => nope
def denBT (T : Tab) (sc : Sc) : Nat → BoolOp → List Expr → BF
  | 0, _, _ => nope
  | n + 1, op, vs => match op, vs with
    | _, [a] => denT T sc n a
    | .And, a :: b :: r => bAnd (denT T sc n a) (denBT T sc n .And (b :: r))
    | .Or, a :: b :: r => bOr (denT T sc n a) (denBT T sc n .Or (b :: r))
    | _, [] => nope
/-- a for's conditions -/
def denC (T : Tab) (sc : Sc) : Nat → List Expr → BF
  | 0, _ => nope
  | n + 1, ifs => match ifs with
    | [] => fun env => some (true, env)
    | [c] => denT T sc n c
    | _ => nope
def denO (T : Tab) (sc : Sc) : Nat → Option Expr → OF
  | 0, _ => nope
  | n + 1, e => match e with
    | none => oNone
    | some e => oSome (denE T sc n e)
def denA (T : Tab) (sc : Sc) : Nat → List Expr → PAF
  | 0, _ => nope
  | n + 1, es => match es with
    | [] => aNil
    | e :: es => if notStar e then aCons (denE T sc n e) (denA T sc n es) else nope
/-- what is walked -/
def denI (T : Tab) (sc : Sc) : Nat → Expr → Expr → IF
  | 0, _, _ => nope
  | n + 1, tg, e => match e with
    | .Call (.Name x _) [a] [] _ =>
      if x == ("range" : Str) then (if sc.gl x && (T.fn x).isNone && notStar a then iRange1 (denA T sc n [a]) else nope)
      else if x == ("enumerate" : Str) then (match tg with
        | .Tuple .. => if sc.gl x && (T.fn x).isNone && notStar a then iEnumF (denA T sc n [a]) else nope
        | _ => nope)
      else iWalkV T.own (denE T sc n e)
    | .Call (.Name x _) [a, b] [] _ =>
      if x == ("range" : Str) then (if sc.gl x && (T.fn x).isNone && (notStar a && notStar b) then iRange2 (denA T sc n [a, b]) else nope)
      else if x == ("zip" : Str) then (match tg with
        | .Tuple .. => if sc.gl x && (T.fn x).isNone && (notStar a && notStar b) then iZipF (denA T sc n [a, b]) else nope
        | _ => nope)
      else iWalkV T.own (denE T sc n e)
    | .Set .. => nope
    | _ => iWalkV T.own (denE T sc n e)
end
end Den
end

section
set_option Elab.async false
set_option linter.all false
set_option maxRecDepth 100000
set_option maxHeartbeats 8000000
/-! DenN: what the text makes of data is what it does. -/
namespace Den
open PySem L2

/-- what holds of an own class -/
structure ClsOk (X : Cx) (W : Pw) (ci : Ci) : Prop where
  mg : X.mg ci.nm = some (.ref (W.cl ci.c))
  cls : Cls X.K (W.cl ci.c)
  fld : ∀ f ∈ ci.flds, NoAttr X.K (W.cl ci.c) f
  ini : ∃ f k fd ps its dv, Mk X.K (W.cl ci.c) f ∧ FnG X.prog X.w X.K X.mg X.base k f fd ps (spF W (ci.ini.io.length + 1) ci.ini.F) ∧ Room (k + 1) X.A ∧ Vals dv its ∧ (∀ G, RpAll W G dv ci.ini.ds) ∧ ∀ sh ∈ ci.ini.shs, ShOk1 X.K fd ps its sh
  ms : ∀ fi ∈ ci.ms, ∃ f k fd ps its, Meth X.K (W.cl ci.c) fi.nm f ∧ FnG X.prog X.w X.K X.mg X.base k f fd ps (spF W (fi.io.length + 1) fi.F) ∧ Room (k + 1) X.A ∧ Vals (fi.ds.map dV) its ∧ ∀ sh ∈ fi.shs, ShOk1 X.K fd ps its sh
  cms : ∀ fi ∈ ci.cms, ∃ mc p g, ClX.CRead X.K (W.cl ci.c) mc ∧ ClX.CMet X.K (W.cl ci.c) mc fi.nm p g ∧ OwnAt X W (fi.io.length + 1) g fi.F
  props : ∀ f F, ci.props.lookup f = some F → ∃ p g, PropOf X.K (W.cl ci.c) f p g ∧ OwnAt X W 1 g F
  bins : ∀ nm F, ci.bins.lookup nm = some F → ∃ f, OwnBin X.K (W.cl ci.c) f nm ∧ OwnAt X W 2 f F
  rbins : ∀ nm F, ci.rbins.lookup nm = some F → ∃ f, OwnRBin X.K (W.cl ci.c) f nm ∧ OwnAt X W 2 f F
  uns : ∀ nm F, ci.uns.lookup nm = some F → ∃ f, OwnUn X.K (W.cl ci.c) f nm ∧ OwnAt X W 1 f F
  eq : ∀ F, ci.eq = some F → (∃ f, OwnEq X.K (W.cl ci.c) f ∧ OwnAt X W 2 f F) ∧ ∀ T ∈ eqTys, PySem.W.notFirst X.K (W.cl ci.c) (.type T) = true
  cvals : ∀ f d, ci.cvals.lookup f = some d → (∃ mc v u, ClX.CRead X.K (W.cl ci.c) mc ∧ ClX.CVal X.K (W.cl ci.c) mc f v u ∧ ∀ G, Rp W G v d)
/-- what holds where the text stands -/
structure SX (X : Cx) (W : Pw) (T : Tab) (sc : Sc) : Prop where
  N : X.N = sc.N
  nd : sc.N.Nodup
  K : X.K = W.K
  calm : X.calm = true
  vis : ∀ x kd, sc.names.lookup x = some kd → X.env.scope.names.lookup x = some kd ∨ (kd = .free ∧ X.env.scope.names.lookup x = some .cell)
  fn : ∀ x, sc.names.lookup x = some .cell → X.fn x = true
  gu : X.A.guards = some []
  hu : X.A.units + 200 < cLine
  fns : ∀ fi ∈ T.fns, ∃ a k fd its dv, FnG X.prog X.w X.K X.mg X.base k a fd fi.ps (spF W fi.io.length fi.F) ∧ Room k X.A ∧ Vals dv its ∧ (∀ G, RpAll W G dv fi.ds) ∧ (∀ sh ∈ fi.shs, ShOk X.K fd fi.ps its sh) ∧ X.mg fi.nm = some (.ref a) ∧ PySem.W.keepIn X.K (.ref a) = true
  cons : ∀ x d, T.cons.lookup x = some d → ∃ u v, X.mg x = some u ∧ RelV v u ∧ ∀ G, Rp W G v d
  blt : ∀ x b, bis.lookup x = some b → T.fn x = none → T.ci x = none → X.mg x = none
  tyn : ∀ x, tys.contains x = true → T.fn x = none → T.cons.lookup x = none → X.mg x = none
  cls : ∀ ci ∈ T.cls, ClsOk X W ci
  isi : IsiOk W T.isi
  gcd : ∀ x, T.gcds.contains x = true → T.fn x = none → T.ci x = none → X.mg x = some (.builtin "math.gcd")
  rng : T.fn "range" = none → X.mg "range" = none
  enm : T.fn "enumerate" = none → X.mg "enumerate" = none
  zip : T.fn "zip" = none → X.mg "zip" = none
  set : T.fn "set" = none → X.mg "set" = none
  rm : Room 4 X.A
  keys : ∀ x, T.keys.contains x = true → ∃ a, X.mg x = some (.ref a) ∧ KeyLen X.prog X.w X.K X.mg X.base a
  walk : ∀ c fld, T.own c = some fld → OwnWalk X (W.cl c) fld

section
variable {X : Cx} {W : Pw} {T : Tab} {sc : Sc}
theorem findIdx_at {N : List Str} {x : Str} {i : Nat} (h : N.findIdx? (· == x) = some i) : N[i]? = some x := by
  rw [List.findIdx?_eq_some_iff_getElem] at h
  obtain ⟨hi, h1, _⟩ := h
  rw [List.getElem?_eq_getElem hi]
  simp only [beq_iff_eq] at h1
  rw [h1]
theorem SX.slot (S : SX X W T sc) {x : Str} {i : Nat} (h : sc.slot x = some i) : X.N[i]? = some x ∧ Vis X.env.scope x ∧ (x == ("__debug__" : Str)) = false ∧ (x == ("__classdict__" : Str)) = false := by
  unfold Sc.slot at h
  split at h
  · rename_i hc
    simp only [Bool.and_eq_true, Bool.not_eq_true'] at hc
    refine ⟨by rw [S.N]; exact findIdx_at h, ?_, hc.1.2, hc.2⟩
    cases q : sc.names.lookup x with
    | none => rw [q] at hc; simp [seen] at hc
    | some kd =>
      rw [q] at hc
      have v := S.vis x kd q
      cases kd with
      | «local» => rcases v with v | ⟨v, _⟩; exact .inl v; cases v
      | cell => rcases v with v | ⟨v, _⟩; exact .inr (.inl v); cases v
      | free => rcases v with v | ⟨_, v⟩; exact .inr (.inr v); exact .inr (.inl v)
      | _ => simp [seen] at hc
  · cases h
theorem SX.gl (S : SX X W T sc) {x : Str} (h : sc.gl x = true) : Gl X x ∧ (x == ("__debug__" : Str)) = false ∧ x ≠ "__name__" := by
  unfold Sc.gl at h
  simp only [Bool.and_eq_true, Bool.not_eq_true', beq_iff_eq] at h
  refine ⟨?_, h.1.2, fun z => ?_⟩
  · rcases S.vis x _ h.1.1 with v | ⟨v, _⟩
    · exact v
    · cases v
  · have := h.2
    rw [z] at this
    simp at this
theorem pd_nope {e : Expr} : PD X W nope e := ⟨fun pins s σ H Q I ⟨env, G, rv, env', r, p, k⟩ => by cases p⟩
theorem ptd_nope {e : Expr} : PTD X W nope e := ⟨fun pins s σ H Q I ⟨env, G, rv, env', r, p, k⟩ => by cases p⟩
theorem pwd_nope {e : Expr} : PWD X W nope e := ⟨fun wh pins s σ H Q I ⟨env, G, rv, env', r, p, k⟩ => by cases p⟩
theorem pad_nope {e : List Expr} : PAD X W nope e := ⟨fun pos pins s σ H Q I ⟨env, G, rv, env', r, p, k⟩ => by cases p⟩
theorem pod_nope {e : Option Expr} : POD X W nope e := ⟨fun pins s σ H Q I ⟨env, G, rv, env', r, p, k⟩ => by cases p⟩
theorem pid_nope {tg e : Expr} : PID X W tg nope e := ⟨fun pins s σ H Q I ⟨env, G, rv, env', r, p, k⟩ => by cases p⟩
theorem binD_ok {op : Operator} {f : D → D → Option RV} (h : binD op = some f) : ∃ r, OpR X (binaryOp op) r ∧ OpD W r f := by
  cases op <;> simp only [binD] at h <;> cases h
  · exact ⟨_, opr_add, opd_add⟩
  · exact ⟨_, op_sub, opd_sub⟩
  · exact ⟨_, opr_mul3, opd_mul3⟩
  · exact ⟨_, op_mod, opd_mod⟩
  · exact ⟨_, op_pow, opd_pow⟩
  · exact ⟨_, op_shlW, opd_shl⟩
  · exact ⟨_, op_shr, opd_shr⟩
  · exact ⟨_, op_or, opd_or⟩
  · exact ⟨_, op_xor, opd_xor⟩
  · exact ⟨_, op_and, opd_and⟩
  · exact ⟨_, opr_fdiv3, opd_fdiv3⟩
/- -/
theorem cmpF_ok (S : SX X W T sc) {op : CmpOp} {f : D → D → Option RV} (h : cmpF op = some f) : ∃ r, OpR X (compareOp op) r ∧ OpD W r f := by
  have hu : X.A.units + 64 < cLine := by have := S.hu; omega
  cases op <;> simp only [cmpF] at h <;> cases h
  · exact ⟨_, opr_eq hu, by rw [S.K]; exact opd_eq⟩
  · exact ⟨_, opr_ne hu, by rw [S.K]; exact opd_ne⟩
  · exact ⟨_, opr_lt, opd_cmp⟩
  · exact ⟨_, opr_le, opd_cmp⟩
  · exact ⟨_, opr_gt, opd_cmp⟩
  · exact ⟨_, opr_ge, opd_cmp⟩
  · exact ⟨_, opr_is, opd_is⟩
  · exact ⟨_, opr_isn, opd_is⟩
  · exact ⟨_, opr_in2 (by omega), by rw [S.K]; exact opd_in2⟩
  · exact ⟨_, opr_nin2 (by omega), by rw [S.K]; exact opd_in2⟩
/-- a block's context -/
theorem SX.blk (S : SX X W T sc) {scope : Scope} (h : blkB sc scope = true) (s : Shared) (H : Hp) (C : Addr) (cl : List (Str × Addr)) (fp : List Addr) : SX (X.blk s H scope (compEnvC scope cl C X.env) fp) W T (sc.blk scope) := by
  refine ⟨S.N, S.nd, S.K, S.calm, fun x kd q => ?_, fun x q => ?_, S.gu, S.hu, S.fns, S.cons, S.blt, S.tyn, fun ci hc => ⟨(S.cls ci hc).mg, (S.cls ci hc).cls, (S.cls ci hc).fld, (S.cls ci hc).ini, (S.cls ci hc).ms, (S.cls ci hc).cms, (S.cls ci hc).props, (S.cls ci hc).bins, (S.cls ci hc).rbins, (S.cls ci hc).uns, (S.cls ci hc).eq, (S.cls ci hc).cvals⟩, S.isi, S.gcd, S.rng, S.enm, S.zip, S.set, S.rm, S.keys, fun c fld h => ⟨(S.walk c fld h).at_⟩⟩
  · have q' : scope.names.lookup x = some kd := q
    show (relabel scope X.env).names.lookup x = some kd ∨ _
    by_cases hf : kd = .free
    · subst hf
      -- a free name stays, or is a cell of the def
      have e : (relabel scope X.env).names = scope.names.map fun (n, k) => if (k == NameKind.free && X.env.scope.kind == .function && X.env.scope.names.lookup n == some .cell) then (n, NameKind.cell) else (n, k) := rfl
      have key : ∀ (l : List (Str × NameKind)), l.lookup x = some .free → (l.map fun (n, k) => if (k == NameKind.free && X.env.scope.kind == .function && X.env.scope.names.lookup n == some .cell) then (n, NameKind.cell) else (n, k)).lookup x = some .free ∨
          (l.map fun (n, k) => if (k == NameKind.free && X.env.scope.kind == .function && X.env.scope.names.lookup n == some .cell) then (n, NameKind.cell) else (n, k)).lookup x = some .cell := fun l => by
        induction l with
        | nil => intro h; simp at h
        | cons p l ih =>
          obtain ⟨n, k0⟩ := p
          intro h
          rw [List.map_cons]
          by_cases hx : x == n
          · simp only [List.lookup_cons, hx] at h
            cases h
            by_cases hc : (NameKind.free == NameKind.free && X.env.scope.kind == .function && X.env.scope.names.lookup n == some .cell) = true
            · right; simp only [hc, if_true, List.lookup_cons, hx]
            · left; simp only [hc, if_false, List.lookup_cons, hx, Bool.false_eq_true]
          · have hx' : (x == n) = false := by simpa using hx
            simp only [List.lookup_cons, hx'] at h
            by_cases hc : (k0 == NameKind.free && X.env.scope.kind == .function && X.env.scope.names.lookup n == some .cell) = true
            · simp only [hc, if_true, List.lookup_cons, hx']; exact ih h
            · simp only [hc, if_false, List.lookup_cons, hx', Bool.false_eq_true]; exact ih h
      rw [e]
      rcases key scope.names q' with z | z
      · exact .inl z
      · exact .inr ⟨rfl, z⟩
    · exact .inl (lookup_relS_keep (sc := X.env.scope) hf q')
  · show (scope.names.lookup x == some .cell) = true
    have q' : scope.names.lookup x = some .cell := q
    rw [q']; rfl
theorem SX.blkOk (S : SX X W T sc) {scope : Scope} (h : blkB sc scope = true) : BlkOk X.N X.env.scope scope (ownOf sc.N scope) := by
  unfold blkB at h
  simp only [Bool.and_eq_true, List.all_eq_true, decide_eq_true_eq] at h
  obtain ⟨⟨h1, h2⟩, h3⟩ := h
  refine ⟨?_, h2, fun p hp => ?_, fun y hy e => ?_, fun y hy e => ?_⟩
  · split at h1
    · assumption
    · cases h1
  · unfold ownOf at hp
    simp only [List.mem_filterMap] at hp
    obtain ⟨y, _, hy⟩ := hp
    have fin : (sc.N.findIdx? (· == y.1)).map (fun i => (y.1, i)) = some p → X.N[p.2]? = some p.1 := fun q => by
      simp only [Option.map_eq_some_iff] at q
      obtain ⟨i, q1, rfl⟩ := q
      rw [S.N]; exact findIdx_at q1
    split at hy
    · exact fin hy
    · exact fin hy
    · cases hy
  · have q := h3 y hy
    simp only [e] at q
    split at q
    · rename_i w
      rcases S.vis _ _ w with v | ⟨v, _⟩
      · exact .inl v
      · cases v
    · rename_i w
      rcases S.vis _ _ w with v | ⟨_, v⟩
      · exact .inr v
      · exact .inl v
    · cases q
  · by_cases m : y.1 ∈ X.N
    · left
      rw [S.N] at m
      obtain ⟨i, hi⟩ : ∃ i, sc.N.findIdx? (· == y.1) = some i := by
        cases q : sc.N.findIdx? (· == y.1) with
        | some i => exact ⟨i, rfl⟩
        | none =>
          rw [List.findIdx?_eq_none_iff] at q
          have := q _ m
          simp at this
      simp only [ownOf, List.mem_map, List.mem_filterMap]
      refine ⟨(y.1, i), ⟨y, hy, ?_⟩, rfl⟩
      rcases e with e | e <;> simp [e, hi]
    · exact .inr m
theorem pg_blk (S : SX X W T sc) {vs : List Nat} {x : Str} {i : Nat} {pos : Pos} (h : sc.slot x = some i) (hv : vs.contains i = true) (hl : (sc.names.lookup x == some .local || sc.names.lookup x == some .cell) = true) : PG X (.Name x pos) (tGc W vs (gSet 0 i)) := by
  obtain ⟨h1, _, _⟩ := S.slot h
  have hi : i ∈ vs := by simpa using hv
  simp only [Bool.or_eq_true, beq_iff_eq] at hl
  refine pgc_name (pg_name (by rw [S.N]; exact S.nd) h1 ?_ ?_) hi
  · rcases hl with hl | hl
    · rcases S.vis _ _ hl with v | ⟨v, _⟩
      · exact .inl v
      · cases v
    · rcases S.vis _ _ hl with v | ⟨v, _⟩
      · exact .inr v
      · cases v
  · rcases hl with hl | hl
    · rcases S.vis _ _ hl with v | ⟨v, _⟩
      · exact .inr v
      · cases v
    · exact .inl (S.fn _ hl)
theorem pg_nope {vs : List Nat} {e : Expr} : PG X e (tGc W vs fun _ _ => none) := ⟨fun pins s σ H v u Q I r ⟨env, G, d, env', _, _, p, _⟩ => by cases p⟩
theorem denGc_ok (S : SX X W T sc) {vs : List Nat} : ∀ e : Expr, PG X e (tGc W vs (denGc sc vs e)) := by
  intro e
  unfold denGc
  split
  · split
    · split
      · rename_i i hi hc
        simp only [Bool.and_eq_true] at hc
        exact pg_blk S hi hc.1 hc.2
      · exact pg_nope
    · exact pg_nope
  · split
    · split
      · rename_i i j hi hj hc
        simp only [Bool.and_eq_true] at hc
        refine pgc_tup (pg_tup S.calm ?_ rfl rfl)
        exact pgcs_cons (pgs_cons (pg_blk S hi hc.1.1 hc.1.2) (pgcs_cons (pgs_cons (pg_blk S hj hc.2.1 hc.2.2) pgcs_nil rfl)) rfl)
      · exact pg_nope
    · exact pg_nope
  · exact pg_nope
end
end Den
end

section
set_option Elab.async false
set_option linter.all false
set_option maxRecDepth 100000
set_option maxHeartbeats 8000000
/-! DenO: expressions. -/
namespace Den
open PySem L2
section
variable {W : Pw} {T : Tab}

theorem bis_ok {X : Cx} {sc : Sc} (S : SX X W T sc) {x : Str} {b : Bi} {p pos : Pos} {e : Expr} {es : List Expr} {P : PAF} (hb : bis.lookup x = some b) (hg : Gl X x) (hm : X.mg x = none) (hn : x ≠ "__name__") (hd : (x == ("__debug__" : Str)) = false)
    (ha : PAD X W P (e :: es)) (hs : (e :: es).all notStar = true) : PD X W (pCall (T.bif b) P) (.Call (.Name x p) (e :: es) [] pos) := by
  have hx : x = b.nm := by
    unfold bis at hb
    simp only [List.lookup_cons] at hb
    repeat' (split at hb)
    all_goals first
      | (rename_i q; simp only [beq_iff_eq] at q; cases hb; exact q)
      | cases hb
  subst hx
  have hu := S.hu
  cases b with
  | len => exact pd_callB call_len (by rw [S.K]; exact callD_len) hg hm PySem.boot_len ha hs hn hd
  | abs => exact pd_callB call_abs callD_abs hg hm PyProof.Rows.boot_abs ha hs hn hd
  | max => exact pd_callB (call_max2 S.calm) callD_max2 hg hm (by decide +kernel) ha hs hn hd
  | min => exact pd_callB (call_min2 S.calm) callD_min2 hg hm (by decide +kernel) ha hs hn hd
  | int => exact pd_callTy call_int1 callD_int1 hg hm PyProof.Rows.boot_int ha hs hn hd
  | divmod => exact pd_callB call_divmod callD_divmod hg hm PyProof.Rows.boot_divmod ha hs hn hd
  | all => exact pd_callB (cr_all S.calm) (by rw [S.K]; exact callD_all) hg hm (by decide +kernel) ha hs hn hd
  | any => exact pd_callB (cr_any S.calm) (by rw [S.K]; exact callD_any) hg hm (by decide +kernel) ha hs hn hd
  | sum => exact pd_callB (cr_sum S.calm) (by rw [S.K]; exact callD_sum) hg hm PyProof.Rows.boot_sum ha hs hn hd
  | str => exact pd_callTy call_str_int callD_str hg hm PyProof.Rows.boot_str ha hs hn hd
  | isi => exact pd_callB cr_isi (by rw [S.K]; exact callD_isi2 S.isi) hg hm PyProof.Rows.boot_isinstance ha hs hn hd
  | sorted => exact pd_callB (cr_sortedW S.K (by omega)) callD_sorted hg hm PyProof.Rows.boot_sorted ha hs hn hd
  | list => exact pd_callTy call_list_of (by rw [S.K]; exact callD_list) hg hm PyProof.Rows.boot_list ha hs hn hd
  | tuple => exact pd_callTy call_tuple_of (by rw [S.K]; exact callD_tuple) hg hm PyProof.Rows.boot_tuple ha hs hn hd
  | repr => exact pd_callB (cr_repr S.gu (by omega)) (by rw [S.K]; exact callD_repr) hg hm PyProof.Rows.boot_repr ha hs hn hd
theorem unI_ok {X : Cx} : ∃ r, UnR X (unaryOp .USub) r ∧ UnD W r (fun d => match d with
    | .int i => some (.dat (.int (-i)))
    | _ => none) := by
  refine ⟨rU fun i => .int (-i), un_neg, fun x d G H Q z s v h k => ?_⟩
  dsimp only at h
  split at h
  · cases h; cases v.int; exact ⟨_, rfl, k _ _ _ (NR.dat s (.int _))⟩
  · cases h
theorem denA_len {sc : Sc} : ∀ {n : Nat} {es : List Expr}, LenP (denA T sc n es) es.length
  | 0, es => fun env rvs e h => by unfold denA at h; cases h
  | n + 1, [] => fun env rvs e h => by unfold denA at h; cases h; rfl
  | n + 1, e0 :: es => fun env rvs e h => by
    unfold denA at h
    dsimp only at h
    split at h
    · unfold aCons at h
      simp only [Option.bind_eq_bind, Option.bind_eq_some_iff, Prod.exists, Option.some.injEq, Prod.mk.injEq] at h
      obtain ⟨rv, e1, h1, rs, e2, h2, rfl, rfl⟩ := h
      simp [denA_len _ _ _ h2]
    · cases h
theorem denA_nil {sc : Sc} {n : Nat} {σ : L2.St} {H : Hp} {Q : List V → Hp → Prop} (h : tA W (denA T sc n []) σ H Q) : Q [] H := by
  cases n with
  | zero => obtain ⟨env, G, rvs, env', r, p, k⟩ := h; unfold denA at p; cases p
  | succ n => exact nil_tA (by unfold denA at h; exact h)
theorem shape_ok {fi : Fi} {n : Nat} {ks : List Str} {sh : Shp} (h : fi.shape n ks = some sh) : sh ∈ fi.shs ∧ sh.n = n ∧ sh.ks = ks ∧ sh.good fi.ds.length = true := by
  unfold Fi.shape at h
  have h1 := List.mem_of_find?_eq_some h
  have h2 := List.find?_some h
  simp only [Bool.and_eq_true, beq_iff_eq] at h2
  exact ⟨h1, h2.1, h2.2.1, h2.2.2⟩
theorem kws_len : ∀ {kws : List Keyword} {ks : List Str}, kws? kws = some ks → (kws.map (·.value)).length = ks.length
  | [], ks, h => by cases h; rfl
  | k :: r, ks, h => by
    unfold kws? at h
    split at h
    · rename_i x xs h1 h2
      cases h
      simp [← kws_len h2]
    · cases h
theorem kws_nil {kws : List Keyword} (h : kws = []) : kws.map (·.value) = [] := by rw [h]; rfl
theorem fnS_ok {X : Cx} {sc : Sc} (S : SX X W T sc) {n : Nat} {x : Str} {fi : Fi} {sh : Shp} {p pos : Pos} {es : List Expr} {kws : List Keyword} {ks : List Str} (hf : T.fn x = some fi) (hsh : fi.shape es.length ks = some sh) (hg : Gl X x) (hd : (x == ("__debug__" : Str)) = false)
    (ha : PAD X W (denA T sc n es) es) (hk : PKD X W (denA T sc n (kws.map (·.value))) kws) (hs : es.all notStar = true) (hks : kws? kws = some ks) :
    PD X W (pFnS fi.io fi.F sh fi.ds (denA T sc n es) (denA T sc n (kws.map (·.value)))) (.Call (.Name x p) es kws pos) := by
  unfold Tab.fn at hf
  have hm := List.mem_of_find?_eq_some hf
  have hx : fi.nm = x := by
    have := List.find?_some hf
    simpa using this
  obtain ⟨a, k, fd, its, dv, F, hr, hv, hdv, hsk, hmg, hkp⟩ := S.fns fi hm
  rw [hx] at hmg
  obtain ⟨s1, s2, s3, s4⟩ := shape_ok hsh
  have lk := kws_len hks
  rw [← s3] at hks
  refine PE.weak (pe_defS (F.callS S.gu hr (hsk sh s1) hv (fun _ _ _ => False)) hg hmg hkp ha hk hs hks (fun z σ H Q q => ?_) (fun z σ H Q q => ?_) hd) fun σ H Q h => fnS_tE (by rw [s2]; exact denA_len) (by rw [s3, ← lk]; exact denA_len) hdv s4 h
  · subst z; exact denA_nil q
  · rw [kws_nil z] at q; exact denA_nil q
theorem mkS_call {X : Cx} {sc : Sc} (S : SX X W T sc) {ci : Ci} (hm : ci ∈ T.cls) {sh : Shp} (h1 : sh ∈ ci.ini.shs) : ∃ dv, (∀ G, RpAll W G dv ci.ini.ds) ∧ PySem.W.keepIn X.K (.ref (W.cl ci.c)) = true ∧
    CallRK X (.ref (W.cl ci.c)) sh.ks (fun vs zs H Q => vs.length = sh.n ∧ zs.length = sh.ks.length ∧ ∀ x dx, H x = none → H dx = none → dx ≠ x → spF W (ci.ini.io.length + 1) ci.ini.F (.ref x :: pick sh.is (vs ++ zs ++ dv)) (upd (upd H dx (.own x)) x (.ins (W.cl ci.c) dx [])) (fun v H2 => v = .non ∧ Q (.ref x) H2) fun _ _ _ => False) := by
  obtain ⟨f, k, fd, ps, its, dv, M, F, hr, hv, hdv, hsk⟩ := (S.cls ci hm).ini
  exact ⟨dv, hdv, M.kp, F.makeS M S.gu hr (hsk sh h1) hv _⟩
theorem mkS_ok {X : Cx} {sc : Sc} (S : SX X W T sc) {n : Nat} {x : Str} {ci : Ci} {sh : Shp} {p pos : Pos} {es : List Expr} {kws : List Keyword} {ks : List Str} (hm : ci ∈ T.cls) (hx : ci.nm = x) (hsh : ci.ini.shape es.length ks = some sh) (hg : Gl X x) (hd : (x == ("__debug__" : Str)) = false)
    (ha : PAD X W (denA T sc n es) es) (hk : PKD X W (denA T sc n (kws.map (·.value))) kws) (hs : es.all notStar = true) (hks : kws? kws = some ks) :
    PD X W (pMkS ci.c ci.ini.io ci.ini.F sh ci.ini.ds (denA T sc n es) (denA T sc n (kws.map (·.value)))) (.Call (.Name x p) es kws pos) := by
  subst hx
  obtain ⟨s1, s2, s3, s4⟩ := shape_ok hsh
  obtain ⟨dv, hdv, kp, hc⟩ := mkS_call S hm s1
  have lk := kws_len hks
  rw [← s3] at hks
  refine PE.weak (pe_defS hc hg (S.cls ci hm).mg kp ha hk hs hks (fun z σ H Q q => ?_) (fun z σ H Q q => ?_) hd) fun σ H Q h => mkS_tE (by rw [s2]; exact denA_len) (by rw [s3, ← lk]; exact denA_len) hdv s4 h
  · subst z; exact denA_nil q
  · rw [kws_nil z] at q; exact denA_nil q
theorem cid_mem {c : Nat} {ci : Ci} (h : T.cid c = some ci) : ci ∈ T.cls ∧ ci.c = c := by
  unfold Tab.cid at h
  refine ⟨List.mem_of_find?_eq_some h, ?_⟩
  have := List.find?_some h
  simpa using this
/-- a class in a local name -/
theorem mkL_ok {X : Cx} {sc : Sc} (S : SX X W T sc) {n : Nat} {x : Str} {i : Nat} {p pos : Pos} {es : List Expr} {kws : List Keyword} {ks : List Str} (hi : sc.slot x = some i)
    (ha : PAD X W (denA T sc n es) es) (hk : PKD X W (denA T sc n (kws.map (·.value))) kws) (hs : es.all notStar = true) (hks : kws? kws = some ks) :
    PD X W (pMkL i fun c => (T.cid c).bind fun ci => (ci.ini.shape es.length ks).map fun sh => pMkS ci.c ci.ini.io ci.ini.F sh ci.ini.ds (denA T sc n es) (denA T sc n (kws.map (·.value)))) (.Call (.Name x p) es kws pos) := by
  obtain ⟨h1, h2, h3, h4⟩ := S.slot hi
  have lk := kws_len hks
  refine ⟨fun pins s σ H Q I h => ?_⟩
  obtain ⟨env, G, rv, env', r, q, k⟩ := h
  unfold pMkL at q
  split at q
  · rename_i c hc
    split at q
    · rename_i P hP
      simp only [Option.bind_eq_some_iff, Option.map_eq_some_iff] at hP
      obtain ⟨ci, hci, sh, hsh, rfl⟩ := hP
      obtain ⟨hm, rfl⟩ := cid_mem hci
      obtain ⟨s1, s2, s3, s4⟩ := shape_ok hsh
      obtain ⟨dv, hdv, kp, hc'⟩ := mkS_call S hm s1
      have hks' := hks
      rw [← s3] at hks'
      have sl : σ[i]? = some (some (.ref (W.cl ci.c))) := by
        obtain ⟨v, z1, z2⟩ := r.slot i _ hc
        cases z2
        exact z1
      refine (pe_locS hc' h1 h2 kp ha hk hs hks' (fun z σ H Q q => ?_) (fun z σ H Q q => ?_) h3 h4).run pins s σ H Q I ⟨sl, mkS_tE (by rw [s2]; exact denA_len) (by rw [s3, ← lk]; exact denA_len) hdv s4 ⟨env, G, rv, env', r, q, k⟩⟩
      · subst z; exact denA_nil q
      · rw [kws_nil z] at q; exact denA_nil q
    · cases q
  · cases q
theorem foldSet {e : Expr} {env : Env} (h : notSet e = true) : ∀ x, foldedSetIterable e env x = pure x := by
  intro x
  cases e <;> first | rfl | cases h
theorem denI_set {sc : Sc} {n : Nat} {tg e : Expr} {env : Env'} {r : List D × Env'} (h : denI T sc n tg e env = some r) : notSet e = true := by
  cases e <;> first | rfl | skip
  cases n <;> simp [denI, nope] at h
theorem lc_ok {X : Cx} {sc : Sc} (S : SX X W T sc) {elt tg iter : Expr} {ifs : List Expr} {scope : Scope} {pos : Pos} {w : IF} {c : BF} {e : PF} (hb : blkB sc scope = true) (hn : notSet iter = true) (hi : PID X W tg w iter)
    (ht : ∀ (s : Shared) (H : Hp) (C : Addr) (cl : List (Str × Addr)) (fp : List Addr), PTs (X.blk s H scope (compEnvC scope cl C X.env) fp) ifs (tT W c))
    (he : ∀ (s : Shared) (H : Hp) (C : Addr) (cl : List (Str × Addr)) (fp : List Addr), PD (X.blk s H scope (compEnvC scope cl C X.env) fp) W e elt) :
    PD X W (pLc ((ownOf sc.N scope).map (·.2)) w (denGc (sc.blk scope) ((ownOf sc.N scope).map (·.2)) tg) c e) (.ListComp elt [⟨tg, iter, ifs, 0⟩] scope pos) :=
  PE.weak (pe_lc S.calm (by rw [S.N]; exact S.nd) hi (S.blkOk hb) (fun s H C cl fp => denGc_ok (S.blk hb s H C cl fp) tg) ht he (foldSet hn)) fun σ H Q h => lc_tE h
theorem lc_set {X : Cx} {elt tg iter : Expr} {ifs : List Expr} {scope : Scope} {pos : Pos} {vs : List Nat} {w : IF} {g : GF} {c : BF} {e : PF} (h : notSet iter = false) (hw : ∀ env r, w env = some r → notSet iter = true) : PD X W (pLc vs w g c e) (.ListComp elt [⟨tg, iter, ifs, 0⟩] scope pos) :=
  ⟨fun pins s σ H Q I ⟨env, G, rv, env', r, p, k⟩ => by
    unfold pLc at p
    simp only [Option.bind_eq_bind, Option.bind_eq_some_iff, Prod.exists] at p
    obtain ⟨ds, e1, h1, _⟩ := p
    rw [hw _ _ h1] at h
    cases h⟩
theorem pts_yes {X : Cx} : PTs X [] (tT W fun env => some (true, env)) := by
  refine ⟨fun pins s σ H Q I ⟨env, G, b, env', r, p, k⟩ => ?_⟩
  cases p
  exact pts_nil.run pins s σ H Q I (k H G (Step.refl r))

theorem pts_nope {X : Cx} {ifs : List Expr} : PTs X ifs (tT W nope) := ⟨fun pins s σ H Q I ⟨env, G, b, env', r, p, k⟩ => by cases p⟩
structure DenOk (T : Tab) (W : Pw) (n : Nat) : Prop where
  e : ∀ (X : Cx) (sc : Sc), SX X W T sc → ∀ e, PD X W (denE T sc n e) e
  be : ∀ (X : Cx) (sc : Sc), SX X W T sc → ∀ op vs pos, PD X W (denBE T sc n op vs) (.BoolOp op vs pos)
  t : ∀ (X : Cx) (sc : Sc), SX X W T sc → ∀ e, PTD X W (denT T sc n e) e
  bt : ∀ (X : Cx) (sc : Sc), SX X W T sc → ∀ op vs pos, PWD X W (denBT T sc n op vs) (.BoolOp op vs pos)
  c : ∀ (X : Cx) (sc : Sc), SX X W T sc → ∀ ifs, PTs X ifs (tT W (denC T sc n ifs))
  o : ∀ (X : Cx) (sc : Sc), SX X W T sc → ∀ e, POD X W (denO T sc n e) e
  a : ∀ (X : Cx) (sc : Sc), SX X W T sc → ∀ es, PAD X W (denA T sc n es) es
  k : ∀ (X : Cx) (sc : Sc), SX X W T sc → ∀ kws : List Keyword, PKD X W (denA T sc n (kws.map (·.value))) kws
  i : ∀ (X : Cx) (sc : Sc), SX X W T sc → ∀ tg e, PID X W tg (denI T sc n tg e) e
theorem denOk_zero : DenOk T W 0 := ⟨fun _ _ _ _ => by unfold denE; exact pd_nope, fun _ _ _ _ _ _ => by unfold denBE; exact pd_nope, fun _ _ _ _ => by unfold denT; exact ptd_nope, fun _ _ _ _ _ _ => by unfold denBT; exact pwd_nope,
  fun _ _ _ _ => by unfold denC; exact pts_nope, fun _ _ _ _ => by unfold denO; exact pod_nope, fun _ _ _ _ => by unfold denA; exact pad_nope, fun _ _ _ _ => by unfold denA; exact pkd_nope, fun _ _ _ _ _ => by unfold denI; exact pid_nope⟩
theorem okF_ok {X : Cx} {sc : Sc} (S : SX X W T sc) {f : Str} : ∀ c, T.okF c f = true → Cls W.K (W.cl c) ∧ NoAttr W.K (W.cl c) f := fun c h => by
  unfold Tab.okF at h
  rw [List.any_eq_true] at h
  obtain ⟨ci, h1, h2⟩ := h
  simp only [Bool.and_eq_true, beq_iff_eq] at h2
  have q2 := (S.cls ci h1).cls
  have q3 := (S.cls ci h1).fld
  rw [S.K] at q2 q3
  rw [← h2.1]
  exact ⟨q2, q3 f (by simpa using h2.2)⟩
theorem ci_mem {x : Str} {ci : Ci} (h : T.ci x = some ci) : ci ∈ T.cls ∧ ci.nm = x := by
  unfold Tab.ci at h
  refine ⟨List.mem_of_find?_eq_some h, ?_⟩
  have := List.find?_some h
  simpa using this
theorem cval_ok {X : Cx} {sc : Sc} (S : SX X W T sc) {x f : Str} {ci : Ci} {p pos : Pos} {d : D} (hc : T.ci x = some ci) (hv : ci.cvals.lookup f = some d) (hg : Gl X x) (hd : (x == ("__debug__" : Str)) = false) : PD X W (pC d) (.Attribute (.Name x p) f pos) := by
  obtain ⟨hm, rfl⟩ := ci_mem hc
  obtain ⟨mc, v, u, c1, c2, c3⟩ := (S.cls ci hm).cvals f d hv
  refine PE.weak (ClX.pe_cval (pe_glob hg (S.cls ci hm).mg (v := .ref (W.cl ci.c)) rfl hd)) fun σ H Q ⟨env, G, rv, env', r, p, k⟩ => ?_
  cases p
  exact ⟨_, mc, v, u, rfl, c1, c2, k v H G (Step.refl r) (c3 G)⟩
theorem msS_ok {X : Cx} {sc : Sc} (S : SX X W T sc) {m : Str} {n : Nat} {ks : List Str} : ∀ c q, T.msS m n ks c = some q → MethAt X W c m q ∧ q.sh.ks = ks ∧ q.sh.n = n ∧ q.sh.good q.ds.length = true ∧ q.ds.all dFlat = true := fun c q h => by
  unfold Tab.msS at h
  simp only [Option.bind_eq_some_iff] at h
  obtain ⟨ci, h1, fi, h2, sh, h3, h⟩ := h
  split at h
  · rename_i hfl
    cases h
    obtain ⟨hm, rfl⟩ := cid_mem h1
    have hn : fi.nm = m := by
      have := List.find?_some h2
      simpa using this
    subst hn
    obtain ⟨s1, s2, s3, s4⟩ := shape_ok h3
    obtain ⟨f, k, fd, ps, its, q1, q2, q3, q4, q5⟩ := (S.cls ci hm).ms fi (List.mem_of_find?_eq_some h2)
    exact ⟨⟨f, k, fd, ps, its, (S.cls ci hm).cls, q1, q2, q3, q4, q5 sh s1⟩, s3, s2, s4, hfl⟩
  · cases h
theorem methS_ok {X : Cx} {sc : Sc} (S : SX X W T sc) {n : Nat} {o : Expr} {m : Str} {ap pos : Pos} {es : List Expr} {kws : List Keyword} {ks : List Str} {P : PF} (ho : PD X W P o) (ha : PAD X W (denA T sc n es) es) (hk : PKD X W (denA T sc n (kws.map (·.value))) kws) (hb : baseB o = true) (hs : es.all notStar = true) (hks : kws? kws = some ks)
    (hn : es.length + kws.length < 29) (hl : (ap.endLine == pos.line) = true) : PD X W (pMethS (T.msS m es.length ks) m P (denA T sc n es) (denA T sc n (kws.map (·.value)))) (.Call (.Attribute o m ap) es kws pos) := by
  have lk := kws_len hks
  refine PE.weak (pe_methS (ms := T.msS m es.length ks) S.gu ho (fun c q h => ⟨(msS_ok S c q h).1, (msS_ok S c q h).2.1⟩) ha hk hb hs hks hn hl (fun z σ H Q q => ?_) fun z σ H Q q => ?_) fun σ H Q h =>
    methS_tE (fun c q h => by rw [(msS_ok S c q h).2.2.1]; exact denA_len) (fun c q h => by rw [(msS_ok S c q h).2.1, ← lk]; exact denA_len) (fun c q h => (msS_ok S c q h).2.2.2.1) (fun c q h => (msS_ok S c q h).2.2.2.2) h
  · subst z; exact denA_nil q
  · rw [kws_nil z] at q; exact denA_nil q
theorem cls_of {X : Cx} {sc : Sc} (S : SX X W T sc) {o : Expr} {ci : Ci} (h : clsOf T sc o = some ci) : ∃ x p, o = .Name x p ∧ Gl X x ∧ (x == ("__debug__" : Str)) = false ∧ ci ∈ T.cls ∧ ci.nm = x := by
  unfold clsOf at h
  split at h
  · rename_i x p
    split at h
    · rename_i hg
      obtain ⟨g1, g2, _⟩ := S.gl hg
      obtain ⟨c1, c2⟩ := ci_mem h
      exact ⟨x, p, rfl, g1, g2, c1, c2⟩
    · cases h
  · cases h
theorem cm_ok {X : Cx} {sc : Sc} (S : SX X W T sc) {o e : Expr} {m : Str} {ap pos : Pos} {es : List Expr} {P : PAF} {ci : Ci} {fi : Fi} (hc : clsOf T sc o = some ci) (hf : ci.cms.find? (fun fi => fi.nm == m) = some fi) (ha : PAD X W P (e :: es)) (hs : (e :: es).all notStar = true) (hn : (e :: es).length < 30) (hl : (ap.endLine == pos.line) = true) :
    PD X W (pCm fi.io fi.F ci.c P) (.Call (.Attribute o m ap) (e :: es) [] pos) := by
  obtain ⟨x, p, rfl, g1, g2, c1, c2⟩ := cls_of S hc
  have hnm : fi.nm = m := by
    have := List.find?_some hf
    simpa using this
  subst c2
  obtain ⟨mc, p', g, r1, r2, r3⟩ := (S.cls ci c1).cms fi (List.mem_of_find?_eq_some hf)
  rw [hnm] at r2
  exact PE.weak (pe_cmethG g1 (S.cls ci c1).mg S.gu r1 r2 r3 ha g2 hs hn hl) fun σ H Q h => cm_tE h
theorem binL_ok {X : Cx} {sc : Sc} (S : SX X W T sc) {nm : String} : ∀ c F, T.binL nm c = some F → ∃ f, OwnBin X.K (W.cl c) f nm ∧ OwnFn X W 2 f F := fun c F h => by
  unfold Tab.binL at h
  simp only [Option.bind_eq_some_iff] at h
  obtain ⟨ci, h1, h2⟩ := h
  obtain ⟨hm, rfl⟩ := cid_mem h1
  obtain ⟨f, q1, q2⟩ := (S.cls ci hm).bins nm F h2
  exact ⟨f, q1, q2.callR S.gu⟩
theorem binR_ok {X : Cx} {sc : Sc} (S : SX X W T sc) {nm : String} : ∀ c F, T.binR nm c = some F → ∃ f, OwnRBin X.K (W.cl c) f nm ∧ OwnFn X W 2 f F := fun c F h => by
  unfold Tab.binR at h
  simp only [Option.bind_eq_some_iff] at h
  obtain ⟨ci, h1, h2⟩ := h
  obtain ⟨hm, rfl⟩ := cid_mem h1
  obtain ⟨f, q1, q2⟩ := (S.cls ci hm).rbins nm F h2
  exact ⟨f, q1, q2.callR S.gu⟩
theorem unL_ok {X : Cx} {sc : Sc} (S : SX X W T sc) {nm : Str} : ∀ c F, T.unL nm c = some F → ∃ f, OwnUn X.K (W.cl c) f nm ∧ OwnAt X W 1 f F := fun c F h => by
  unfold Tab.unL at h
  simp only [Option.bind_eq_some_iff] at h
  obtain ⟨ci, h1, h2⟩ := h
  obtain ⟨hm, rfl⟩ := cid_mem h1
  exact (S.cls ci hm).uns nm F h2
theorem prop_ok {X : Cx} {sc : Sc} (S : SX X W T sc) {nm : Str} : ∀ c F, T.prop nm c = some F → Cls X.K (W.cl c) ∧ ∃ p g, PropOf X.K (W.cl c) nm p g ∧ OwnAt X W 1 g F := fun c F h => by
  unfold Tab.prop at h
  simp only [Option.bind_eq_some_iff] at h
  obtain ⟨ci, h1, h2⟩ := h
  obtain ⟨hm, rfl⟩ := cid_mem h1
  exact ⟨(S.cls ci hm).cls, (S.cls ci hm).props nm F h2⟩
theorem eqL_ok {X : Cx} {sc : Sc} (S : SX X W T sc) : ∀ c F, T.eqL c = some F → (∃ f, OwnEq X.K (W.cl c) f ∧ OwnAt X W 2 f F) ∧ ∀ T ∈ eqTys, PySem.W.notFirst X.K (W.cl c) (.type T) = true := fun c F h => by
  unfold Tab.eqL at h
  simp only [Option.bind_eq_some_iff] at h
  obtain ⟨ci, h1, h2⟩ := h
  obtain ⟨hm, rfl⟩ := cid_mem h1
  exact (S.cls ci hm).eq F h2
theorem binV_ok {X : Cx} {sc : Sc} (S : SX X W T sc) {op : Operator} {f : D → D → Option RV} {a b : Expr} {P P' : PF} {pos : Pos} (hf : binD op = some f) (ho : ownOp op = true) (ha : PD X W P a) (hb : PD X W P' b) : PD X W (pBinV (T.binL op.info.2) (T.binR op.info.2) f P P') (.BinOp a op b pos) := by
  obtain ⟨r, h1, h2⟩ := binD_ok (X := X) (W := W) hf
  have dc : ∃ id, IntDecl op id := by
    cases op <;> first | (cases ho; done) | exact ⟨_, declAdd⟩ | exact ⟨_, declSub⟩ | exact ⟨_, declMul⟩
  obtain ⟨id, dc⟩ := dc
  exact pd_binV (opr_ownL (binL_ok S)) (opr_ownR dc (binR_ok S)) h1 h2 ha hb
theorem cmpP_ok {X : Cx} {sc : Sc} (S : SX X W T sc) {op : CmpOp} {f : D → D → Option RV} {a b : Expr} {P P' : PF} {pos : Pos} (hf : cmpF op = some f) (ha : PD X W P a) (hb : PD X W P' b) (hs : notSet b = true) :
    PD X W (cmpP T op f P P') (.Compare a [op] [b] pos) ∧ PTD X W (bVal (cmpP T op f P P')) (.Compare a [op] [b] pos) := by
  obtain ⟨r, h1, h2⟩ := cmpF_ok S hf
  have hu := S.hu
  have e1 : OpR X (compareOp .Eq) (rOwnEq W W.K false T.eqL) := by
    rw [← S.K]
    exact opr_ownEq (by omega) fun c F h => by
      obtain ⟨⟨f, q1, q2⟩, _⟩ := eqL_ok S c F h
      exact ⟨f, q1, q2.callR S.gu⟩
  have e2 : OpR X (compareOp .NotEq) (rOwnEq W W.K true T.eqL) := by
    rw [← S.K]
    exact opr_ownNe S.gu (by omega) fun c F h => (eqL_ok S c F h).1
  have e3 : ∀ c F, T.eqL c = some F → ∀ T ∈ eqTys, PySem.W.notFirst W.K (W.cl c) (.type T) = true := by
    rw [← S.K]
    exact fun c F h => (eqL_ok S c F h).2
  unfold cmpP
  cases op with
  | Eq => exact ⟨pd_cmpV e1 h1 h2 e3 ha hb hs, ptd_cmpV e1 h1 h2 e3 ha hb hs⟩
  | NotEq => exact ⟨pd_cmpV e2 h1 h2 e3 ha hb hs, ptd_cmpV e2 h1 h2 e3 ha hb hs⟩
  | _ => exact ⟨pd_cmp h1 h2 ha hb hs, ptd_cmp h1 h2 ha hb hs⟩
theorem gcd_ok {X : Cx} {x : Str} {p pos : Pos} {e : Expr} {es : List Expr} {P : PAF} (hg : Gl X x) (hd : (x == ("__debug__" : Str)) = false) (hm : X.mg x = some (.builtin "math.gcd")) (ha : PAD X W P (e :: es)) (hs : (e :: es).all notStar = true) : PD X W (pCall gcdD P) (.Call (.Name x p) (e :: es) [] pos) := by
  have h2 := hs
  rw [List.all_cons, Bool.and_eq_true] at h2
  exact PE.weak (pe_callBfun cr_gcd hg hm ha hd (star_plain h2.1) (noStars h2.2)) fun _ _ _ h => call_tE callD_gcd h
theorem js_ok {X : Cx} {sc : Sc} (S : SX X W T sc) {n : Nat} (ih : ∀ e, PD X W (denE T sc n e) e) : ∀ es : List Expr, PJD X W es (es.map fun e => denE T sc n e)
  | [] => .nil
  | e :: es => .cons (ih e) (js_ok S ih es)
theorem ty_ok {X : Cx} {sc : Sc} (S : SX X W T sc) {x : Str} {pos : Pos} (hx : tys.contains x = true) (hg : Gl X x) (hm : X.mg x = none) (hn : x ≠ "__name__") (hd : (x == ("__debug__" : Str)) = false) : PD X W (pC (.typ (tyOfName x))) (.Name x pos) := by
  have go : ∀ (T : String), bootBuiltins x = some (.type T) → PD X W (pC (.typ T)) (.Name x pos) := fun T hb => pd_flat (pe_bltn (v := .ty T) hg hm hb rfl hn hd) fun _ => .typ T
  have hx' : x = "int" ∨ x = "str" ∨ x = "bool" ∨ x = "list" ∨ x = "tuple" ∨ x = "dict" ∨ x = "set" := by
    simpa [tys] using hx
  rcases hx' with rfl | rfl | rfl | rfl | rfl | rfl | rfl
  · exact go "int" (by decide +kernel)
  · exact go "str" (by decide +kernel)
  · exact go "bool" (by decide +kernel)
  · exact go "list" (by decide +kernel)
  · exact go "tuple" (by decide +kernel)
  · exact go "dict" (by decide +kernel)
  · exact go "set" (by decide +kernel)
theorem free_ok {X : Cx} {sc : Sc} (S : SX X W T sc) {x : Str} {b : Bi} (h : freeB T sc x = true) (hb : bis.lookup x = some b) : Gl X x ∧ X.mg x = none := by
  unfold freeB at h
  simp only [Bool.and_eq_true, Option.isNone_iff_eq_none] at h
  exact ⟨(S.gl h.1).1, S.blt _ _ hb h.2.1 h.2.2⟩
theorem key_ok {X : Cx} {sc : Sc} (S : SX X W T sc) {x : Str} {p pos : Pos} {es : List Expr} {kws : List Keyword} {e : Expr} {P : PF} (h : spc T sc x es kws = some (.key e)) (he : PD X W P e) : PD X W (pSortKey P) (.Call (.Name x p) es kws pos) := by
  unfold spc at h
  split at h
  · rename_i e0 k f fp kp
    split at h
    · rename_i hc
      cases h
      simp only [Bool.and_eq_true, beq_iff_eq] at hc
      obtain ⟨⟨rfl, rfl⟩, h1, h2, h3, h4⟩ := hc
      obtain ⟨g1, m1⟩ := free_ok S h1 (b := .sorted) (by decide +kernel)
      obtain ⟨q1, q2, _⟩ := S.gl h2
      obtain ⟨a, q3, q4⟩ := S.keys _ h4
      exact pd_sortKey S.K q4 (S.rm.mono (by decide)) g1 m1 q1 q3 q2 he h3
    · cases h
  · split at h <;> cases h
  · cases h
theorem ls_ok {X : Cx} {sc : Sc} (S : SX X W T sc) {x : Str} {p pos : Pos} {es : List Expr} {kws : List Keyword} {e : Expr} {P : PF} (h : spc T sc x es kws = some (.ls e)) (he : PD X W P e) : PD X W (pLenSet P) (.Call (.Name x p) es kws pos) := by
  unfold spc at h
  split at h
  · split at h <;> cases h
  · rename_i y yp e0 q2
    split at h
    · rename_i hc
      cases h
      simp only [Bool.and_eq_true, beq_iff_eq] at hc
      obtain ⟨⟨rfl, rfl⟩, h1, h2, h3⟩ := hc
      obtain ⟨g1, m1⟩ := free_ok S h1 (b := .len) (by decide +kernel)
      unfold freeB at h2
      simp only [Bool.and_eq_true, Option.isNone_iff_eq_none] at h2
      exact pd_lenSet S.K S.rm.hd (by have := S.hu; omega) g1 m1 (S.gl h2.1).1 (S.set h2.2.1) he h3
    · cases h
  · cases h
theorem denE_ok {n : Nat} (ih : DenOk T W n) (X : Cx) (sc : Sc) (S : SX X W T sc) (e : Expr) : PD X W (denE T sc (n + 1) e) e := by
  unfold denE
  split
  · exact pd_int
  · exact pd_bl
  · exact pd_non
  · exact pd_str
  · rename_i x pos
    split
    · rename_i i hi
      obtain ⟨h1, h2, h3, h4⟩ := S.slot hi
      exact pd_var (pe_var h1 h2 h3 h4)
    · split
      · rename_i hg
        obtain ⟨g1, g2, g3⟩ := S.gl hg
        split
        · rename_i d hd
          obtain ⟨u, v, h1, h2, h3⟩ := S.cons _ _ hd
          exact pd_flat (pe_glob g1 h1 h2 g2) h3
        · rename_i hd
          split
          · rename_i ci hci
            obtain ⟨hm, rfl⟩ := ci_mem hci
            exact pd_flat (pe_glob g1 (S.cls ci hm).mg (v := .ref (W.cl ci.c)) rfl g2) fun _ => .kls _
          · split
            · rename_i hc
              simp only [Bool.and_eq_true, Option.isNone_iff_eq_none] at hc
              exact ty_ok S hc.2 g1 (S.tyn _ hc.2 hc.1 hd) g3 g2
            · exact pd_nope
      · exact pd_nope
  · split
    · rename_i f hf
      split
      · rename_i ho
        exact binV_ok S hf ho (ih.e X sc S _) (ih.e X sc S _)
      · obtain ⟨r, h1, h2⟩ := binD_ok (X := X) (W := W) hf
        exact pd_bin h1 h2 (ih.e X sc S _) (ih.e X sc S _)
    · exact pd_nope
  · exact pd_not S.K (ih.e X sc S _)
  · obtain ⟨r, h1, h2⟩ := unI_ok (W := W) (X := X)
    exact pd_unV (unr_neg fun c F h => by
      obtain ⟨f, q1, q2⟩ := unL_ok S c F h
      exact ⟨f, q1, q2.callR S.gu⟩) h1 h2 (ih.e X sc S _)
  · exact ih.be X sc S _ _ _
  · exact pd_if (ih.t X sc S _) (ih.e X sc S _) (ih.e X sc S _)
  · split
    · rename_i f hf
      split
      · rename_i hn
        exact (cmpP_ok S hf (ih.e X sc S _) (ih.e X sc S _) hn).1
      · exact pd_nope
    · exact pd_nope
  · split
    · rename_i f f' hf hf'
      split
      · rename_i hn
        obtain ⟨r, h1, h2⟩ := cmpF_ok S hf
        obtain ⟨r', h1', h2'⟩ := cmpF_ok S hf'
        exact pd_chain h1 h2 h1' h2' (ih.e X sc S _) (ih.e X sc S _) (ih.e X sc S _) hn
      · exact pd_nope
    · exact pd_nope
  · split
    · rename_i hc
      simp only [Bool.and_eq_true] at hc
      exact pd_join S.K (ih.e X sc S _) (ih.e X sc S _) hc.1.1 hc.1.2 hc.2
    · exact pd_nope
  · split
    · rename_i hc
      simp only [Bool.and_eq_true, decide_eq_true_eq] at hc
      split
      · rename_i ci hci
        split
        · split
          · rename_i fi hfi
            exact cm_ok S hci hfi (ih.a X sc S _) hc.1.2 (by have := hc.2.1; simp only [List.length_cons, List.length_nil] at this ⊢; omega) hc.2.2
          · exact pd_nope
        · exact pd_nope
      · split
        · rename_i ks hks
          exact methS_ok S (ih.e X sc S _) (ih.a X sc S _) (ih.k X sc S _) hc.1.1 hc.1.2 hks hc.2.1 hc.2.2
        · exact pd_nope
    · exact pd_nope
  · exact pd_lst (ih.a X sc S _)
  · exact pd_dnew
  · exact pd_tup (ih.a X sc S _)
  · exact pd_slice S.K (ih.e X sc S _) (ih.o X sc S _) (ih.o X sc S _)
  · split
    · rename_i hn
      exact pd_ix S.K (ih.e X sc S _) (ih.e X sc S _) hn
    · exact pd_nope
  · exact pd_joined (js_ok S (ih.e X sc S) _)
  · exact pd_fmt (ih.e X sc S _)
  · rename_i x p es kws pos
    split
    · rename_i e hsp
      exact key_ok S hsp (ih.e X sc S e)
    · rename_i e hsp
      exact ls_ok S hsp (ih.e X sc S e)
    · rename_i hsp
      split
      · rename_i hs
        split
        · rename_i ks hks
          split
          · rename_i hg
            obtain ⟨g1, g2, g3⟩ := S.gl hg
            split
            · rename_i fi hf
              split
              · rename_i sh hsh
                exact fnS_ok S hf hsh g1 g2 (ih.a X sc S _) (ih.k X sc S _) hs hks
              · exact pd_nope
            · rename_i hf
              split
              · rename_i ci hci
                split
                · rename_i sh hsh
                  obtain ⟨hm, hx⟩ := ci_mem hci
                  exact mkS_ok S hm hx hsh g1 g2 (ih.a X sc S _) (ih.k X sc S _) hs hks
                · exact pd_nope
              · rename_i hci
                split
                · split
                  · rename_i hgc
                    exact gcd_ok g1 g2 (S.gcd _ hgc hf hci) (ih.a X sc S _) hs
                  · split
                    · rename_i hb
                      have hu := S.hu
                      have hx : x = "repr" := by
                        unfold bis at hb
                        simp only [List.lookup_cons] at hb
                        repeat' (split at hb)
                        all_goals first
                          | (rename_i q; simp only [beq_iff_eq] at q; cases hb; exact q)
                          | cases hb
                      subst hx
                      exact pd_reprV S.K S.gu (by omega) (unL_ok S) g1 (S.blt _ _ hb hf hci) (ih.a X sc S _) hs
                    · rename_i b _ hb
                      exact bis_ok S hb g1 (S.blt _ _ hb hf hci) g3 g2 (ih.a X sc S _) hs
                    · exact pd_nope
                · exact pd_nope
          · split
            · rename_i i hi
              exact mkL_ok S hi (ih.a X sc S _) (ih.k X sc S _) hs hks
            · exact pd_nope
        · exact pd_nope
      · exact pd_nope
  · split
    · rename_i hg
      obtain ⟨g1, g2, g3⟩ := S.gl hg
      split
      · rename_i ci hci
        split
        · rename_i d hd
          exact cval_ok S hci hd g1 g2
        · exact pd_nope
      · exact pd_nope
    · exact pd_attrV S.gu S.K (okF_ok S) (prop_ok S) (ih.e X sc S _) rfl
  · split
    · rename_i hb
      exact pd_attrV S.gu S.K (okF_ok S) (prop_ok S) (ih.e X sc S _) hb
    · exact pd_nope
  · rename_i elt tg iter scope pos
    split
    · rename_i hb
      by_cases hn : notSet iter = true
      · exact lc_ok S hb hn (ih.i X sc S _ _) (fun _ _ _ _ _ => pts_yes) fun s H C cl fp => ih.e _ _ (S.blk hb s H C cl fp) _
      · exact lc_set (by simpa using hn) fun env r h => denI_set h
    · exact pd_nope
  · rename_i elt tg iter c scope pos
    split
    · rename_i hb
      by_cases hn : notSet iter = true
      · exact lc_ok S hb hn (ih.i X sc S _ _) (fun s H C cl fp => pts_one (ih.t _ _ (S.blk hb s H C cl fp) _)) fun s H C cl fp => ih.e _ _ (S.blk hb s H C cl fp) _
      · exact lc_set (by simpa using hn) fun env r h => denI_set h
    · exact pd_nope
  · rename_i elt tg iter ifs tg1 iter1 ifs1 scope pos
    split
    · rename_i hc
      simp only [Bool.and_eq_true] at hc
      obtain ⟨hb, hn, hn1⟩ := hc
      refine PE.weak (pe_lc2 S.calm (by rw [S.N]; exact S.nd) (ih.i X sc S tg iter) (S.blkOk hb) (vs1 := inSlots (sc.blk scope) ((ownOf sc.N scope).map (fun p : Str × Nat => p.2)) tg1) (fun i hi => ?_) (fun s H C cl fp => denGc_ok (S.blk hb s H C cl fp) tg) (fun s H C cl fp => ih.c _ _ (S.blk hb s H C cl fp) ifs)
        (fun s H C cl fp => ih.i _ _ (S.blk hb s H C cl fp) tg1 iter1) (fun s H C cl fp => denGc_ok (S.blk hb s H C cl fp) tg1) (fun s H C cl fp => ih.c _ _ (S.blk hb s H C cl fp) ifs1) (fun s H C cl fp => ih.e _ _ (S.blk hb s H C cl fp) elt) (foldSet hn) (fun env => foldSet hn1)) fun σ H Q h => lc2_tE h
      unfold inSlots at hi
      have := (List.mem_filter.mp hi).2
      simpa using this
    · exact pd_nope
  · exact pd_nope
theorem denOk_succ {n : Nat} (ih : DenOk T W n) : DenOk T W (n + 1) := by
  refine ⟨denE_ok ih, fun X sc S op vs pos => ?_, fun X sc S e => ?_, fun X sc S op vs pos => ?_, fun X sc S ifs => ?_, fun X sc S e => ?_, fun X sc S es => ?_, fun X sc S kws => ?_, fun X sc S tg e => ?_⟩
  · unfold denBE
    split
    · exact pd_one (ih.e X sc S _)
    · exact pd_and S.K (ih.e X sc S _) (ih.be X sc S _ _ _)
    · exact pd_or S.K (ih.e X sc S _) (ih.be X sc S _ _ _)
    · exact pd_nope
  · unfold denT
    split
    · exact ptd_not (ih.t X sc S _)
    · exact (ih.bt X sc S _ _ _).pt
    · split
      · rename_i f hf
        split
        · rename_i hn
          exact (cmpP_ok S hf (ih.e X sc S _) (ih.e X sc S _) hn).2
        · exact ptd_nope
      · exact ptd_nope
    · split
      · rename_i f f' hf hf'
        split
        · rename_i hn
          obtain ⟨r, h1, h2⟩ := cmpF_ok S hf
          obtain ⟨r', h1', h2'⟩ := cmpF_ok S hf'
          exact ptd_chain h1 h2 h1' h2' (ih.e X sc S _) (ih.e X sc S _) (ih.e X sc S _) hn
        · exact ptd_nope
      · exact ptd_nope
    · exact ptd_truth S.K (ih.e X sc S _) fun _ => rfl
    · exact ptd_truth S.K (ih.e X sc S _) fun _ => rfl
    · exact ptd_truth S.K (ih.e X sc S _) fun _ => rfl
    · exact ptd_truth S.K (ih.e X sc S _) fun _ => rfl
    · exact ptd_truth S.K (ih.e X sc S _) fun _ => rfl
    · exact ptd_nope
  · unfold denBT
    split
    · cases op with
      | And => exact pwd_and1 (ih.t X sc S _)
      | Or => exact pwd_or1 (ih.t X sc S _)
    · exact pwd_and (ih.t X sc S _) (ih.bt X sc S _ _ _)
    · exact pwd_or (ih.t X sc S _) (ih.bt X sc S _ _ _)
    · exact pwd_nope
  · unfold denC
    split
    · exact pts_yes
    · exact pts_one (ih.t X sc S _)
    · exact pts_nope
  · unfold denO
    split
    · exact pod_none
    · exact pod_some (ih.e X sc S _)
  · unfold denA
    split
    · exact pad_nil
    · split
      · rename_i hs
        exact pad_cons (ih.e X sc S _) (ih.a X sc S _) (star_plain hs)
      · exact pad_nope
  · unfold denA
    cases kws with
    | nil => exact pkd_nil
    | cons k r =>
      obtain ⟨nm, e, kp⟩ := k
      show PKD X W (if notStar e = true then aCons (denE T sc n e) (denA T sc n (r.map (·.value))) else nope) _
      split
      · exact pkd_cons (ih.e X sc S _) (ih.k X sc S _)
      · exact pkd_nope
  · have rn : ∀ x : Str, (x == ("range" : Str)) = true → (T.fn x).isNone = true → x = "range" ∧ X.mg "range" = none := fun x h1 h2 => by
      simp only [beq_iff_eq] at h1
      subst h1
      exact ⟨rfl, S.rng (by simpa using h2)⟩
    have en : ∀ x : Str, (x == ("enumerate" : Str)) = true → (T.fn x).isNone = true → x = "enumerate" ∧ X.mg "enumerate" = none := fun x h1 h2 => by
      simp only [beq_iff_eq] at h1
      subst h1
      exact ⟨rfl, S.enm (by simpa using h2)⟩
    have zn : ∀ x : Str, (x == ("zip" : Str)) = true → (T.fn x).isNone = true → x = "zip" ∧ X.mg "zip" = none := fun x h1 h2 => by
      simp only [beq_iff_eq] at h1
      subst h1
      exact ⟨rfl, S.zip (by simpa using h2)⟩
    unfold denI
    split
    · split
      · rename_i hx
        split
        · rename_i hc
          simp only [Bool.and_eq_true] at hc
          obtain ⟨rfl, hm⟩ := rn _ hx hc.1.2
          exact pid_range1 (S.gl hc.1.1).1 hm (ih.a X sc S _) hc.2
        · exact pid_nope
      · split
        · rename_i hx
          split
          · split
            · rename_i hc
              simp only [Bool.and_eq_true] at hc
              obtain ⟨rfl, hm⟩ := en _ hx hc.1.2
              exact pid_enum S.K (S.gl hc.1.1).1 hm (ih.a X sc S _) hc.2
            · exact pid_nope
          · exact pid_nope
        · exact pid_walkV S.K S.gu (S.rm.mono (by decide)) S.walk (ih.e X sc S _)
    · split
      · rename_i hx
        split
        · rename_i hc
          simp only [Bool.and_eq_true] at hc
          obtain ⟨rfl, hm⟩ := rn _ hx hc.1.2
          exact pid_range2 (S.gl hc.1.1).1 hm (ih.a X sc S _) hc.2.1 hc.2.2
        · exact pid_nope
      · split
        · rename_i hx
          split
          · split
            · rename_i hc
              simp only [Bool.and_eq_true] at hc
              obtain ⟨rfl, hm⟩ := zn _ hx hc.1.2
              exact pid_zip S.K (S.gl hc.1.1).1 hm (ih.a X sc S _) hc.2.1 hc.2.2
            · exact pid_nope
          · exact pid_nope
        · exact pid_walkV S.K S.gu (S.rm.mono (by decide)) S.walk (ih.e X sc S _)
    · exact pid_nope
    · exact pid_walkV S.K S.gu (S.rm.mono (by decide)) S.walk (ih.e X sc S _)
theorem denOk : ∀ n, DenOk T W n
  | 0 => denOk_zero
  | n + 1 => denOk_succ (denOk n)
end
end Den
end

section
set_option Elab.async false
set_option linter.all false
set_option maxRecDepth 100000
set_option maxHeartbeats 4000000
/-! DenO2: a, b = x, y and a, b, c = x, y, z. -/
namespace Den
open PySem L2
section
variable {W : Pw} {T : Tab} {X : Cx} {sc : Sc} {E : Entry}
def sPar2 (np i j : Nat) (P : PAF) : SF := fun env => do
  let (rvs, e1) ← P env
  if ownB np env e1 then
    match dts rvs with
    | some [d1, d2] => if !pinned np e1 i && !pinned np (e1.set i (.dat d1)) j then some (.nx ((e1.set i (.dat d1)).set j (.dat d2))) else none
    | _ => none
  else none
theorem par2_tS {i j : Nat} {P : PAF} {D : Ends} {σ : St} {H : Hp} (h : tS W E (sPar2 E.np i j P) D σ H) : tPar i j (tA W P) D σ H := by
  obtain ⟨env, G, o, r0, p, k⟩ := h
  have r := r0.rel
  unfold sPar2 at p
  simp only [Option.bind_eq_bind, Option.bind_eq_some_iff, Prod.exists] at p
  obtain ⟨rvs, e1, h1, p⟩ := p
  split at p
  · rename_i hb
    split at p
    · rename_i d1 d2 hd
      split at p
      · rename_i hp
        simp only [Bool.and_eq_true, Bool.not_eq_true'] at hp
        cases p
        refine ⟨env, G, rvs, e1, r, h1, fun vs H1 G1 s q => ?_⟩
        obtain ⟨G2, s2, rp⟩ := Step.frozen r s q hd
        cases rp with
        | cons q1 t => cases t with
          | cons q2 t =>
            cases t
            have a1 := StepS.setDat (np := E.np) s2.rel q1 hp.1
            exact ⟨_, _, rfl, k _ _ _ (r0.trans ((s2.toS r (ownB_ok hb)).trans (a1.trans (StepS.setDat a1.rel q2 hp.2)))) s2.ext.same⟩
      · cases p
    · cases p
  · cases p
def sPar3 (np i j l : Nat) (P : PAF) : SF := fun env => do
  let (rvs, e1) ← P env
  if ownB np env e1 then
    match dts rvs with
    | some [d1, d2, d3] => if !pinned np e1 i && (!pinned np (e1.set i (.dat d1)) j && !pinned np ((e1.set i (.dat d1)).set j (.dat d2)) l) then some (.nx (((e1.set i (.dat d1)).set j (.dat d2)).set l (.dat d3))) else none
    | _ => none
  else none
theorem par3_tS {i j l : Nat} {P : PAF} {D : Ends} {σ : St} {H : Hp} (h : tS W E (sPar3 E.np i j l P) D σ H) : tPar3 i j l (tA W P) D σ H := by
  obtain ⟨env, G, o, r0, p, k⟩ := h
  have r := r0.rel
  unfold sPar3 at p
  simp only [Option.bind_eq_bind, Option.bind_eq_some_iff, Prod.exists] at p
  obtain ⟨rvs, e1, h1, p⟩ := p
  split at p
  · rename_i hb
    split at p
    · rename_i d1 d2 d3 hd
      split at p
      · rename_i hp
        simp only [Bool.and_eq_true, Bool.not_eq_true'] at hp
        cases p
        refine ⟨env, G, rvs, e1, r, h1, fun vs H1 G1 s q => ?_⟩
        obtain ⟨G2, s2, rp⟩ := Step.frozen r s q hd
        cases rp with
        | cons q1 t => cases t with
          | cons q2 t => cases t with
            | cons q3 t =>
              cases t
              have a1 := StepS.setDat (np := E.np) s2.rel q1 hp.1
              have a2 := StepS.setDat (np := E.np) a1.rel q2 hp.2.1
              exact ⟨_, _, _, rfl, k _ _ _ (r0.trans ((s2.toS r (ownB_ok hb)).trans (a1.trans (a2.trans (StepS.setDat a2.rel q3 hp.2.2))))) s2.ext.same⟩
      · cases p
    · cases p
  · cases p
/-- the stores that Python swaps: plain local names of one row, values not all constants -/
def parB (sc : Sc) (xs : List (Str × Pos)) (vs : List Expr) : Bool :=
  xs.all (fun x => sc.names.lookup x.1 == some .local && x.2.line == ((xs.head?.map (·.2.line)).getD 0)) && ((xs.map (·.1)).eraseDups.length == xs.length && (vs.all notStar && (!vs.all (foldedForSure 8) && !vs.all (constantsAlone 8))))
theorem blk_fn {env : Env} (h : env.scope.kind = .function) : env.blockKind = .function := by unfold Env.blockKind; rw [h]; rfl
theorem swapped2 {x y : Str} {px py pt p2 : Pos} {kt k2 : Nat} {a b : Expr} (S : SX X W T sc) (hk : X.env.scope.kind = .function) (h : parB sc [(x, px), (y, py)] [a, b] = true) :
    swappedStores [.Tuple [.Name x px, .Name y py] kt pt] (.Tuple [a, b] k2 p2) X.env = pure (some [x, y]) := by
  unfold parB at h
  simp only [Bool.and_eq_true, List.all_cons, List.all_nil, Bool.and_true, beq_iff_eq, Bool.not_eq_true'] at h
  obtain ⟨⟨⟨h1, h2⟩, h3, h4⟩, h5, ⟨h6, h7⟩, h8, h9⟩ := h
  have lc : ∀ z : Str, sc.names.lookup z = some .local → X.env.kindOf z = some .local := fun z hz => by
    rcases S.vis _ _ hz with v | ⟨v, _⟩
    · exact v
    · cases v
  have l4 : py.line = px.line := h4
  have e5 : ([x, y] : List Str).eraseDups.length = 2 := h5
  unfold swappedStores
  simp only [blk_fn hk, List.any_cons, List.any_nil, List.filterMap_cons, List.filterMap_nil, lc x h1, lc y h3, l4, List.head?_cons, Option.map_some, Option.getD_some, Expr.pos, beq_self_eq_true, Bool.and_self, if_true, List.length_cons, List.length_nil, e5, List.all_cons, List.all_nil, Bool.and_true, h8, h9, Bool.or_false]
  rw [if_neg (by decide), if_neg]
  · rfl
  · simp only [Bool.or_eq_true, not_or]
    exact ⟨by cases a <;> first | (cases h6; done) | simp, by cases b <;> first | (cases h7; done) | simp⟩
theorem swapped3 {x y z : Str} {px py pz pt p2 : Pos} {kt k2 : Nat} {a b c : Expr} (S : SX X W T sc) (hk : X.env.scope.kind = .function) (h : parB sc [(x, px), (y, py), (z, pz)] [a, b, c] = true) :
    swappedStores [.Tuple [.Name x px, .Name y py, .Name z pz] kt pt] (.Tuple [a, b, c] k2 p2) X.env = pure (some [x, y, z]) := by
  unfold parB at h
  simp only [Bool.and_eq_true, List.all_cons, List.all_nil, Bool.and_true, beq_iff_eq, Bool.not_eq_true'] at h
  obtain ⟨⟨⟨h1, h2⟩, ⟨h3, h4⟩, h3', h4'⟩, h5, ⟨h6, h7, h7'⟩, h8, h9⟩ := h
  have lc : ∀ z : Str, sc.names.lookup z = some .local → X.env.kindOf z = some .local := fun z hz => by
    rcases S.vis _ _ hz with v | ⟨v, _⟩
    · exact v
    · cases v
  have l4 : py.line = px.line := h4
  have l5 : pz.line = px.line := h4'
  have e5 : ([x, y, z] : List Str).eraseDups.length = 3 := h5
  unfold swappedStores
  simp only [blk_fn hk, List.any_cons, List.any_nil, List.filterMap_cons, List.filterMap_nil, lc x h1, lc y h3, lc z h3', l4, l5, List.head?_cons, Option.map_some, Option.getD_some, Expr.pos, beq_self_eq_true, Bool.and_self, if_true, List.length_cons, List.length_nil, e5, List.all_cons, List.all_nil, Bool.and_true, h8, h9, Bool.or_false]
  rw [if_neg (by decide), if_neg]
  · rfl
  · simp only [Bool.or_eq_true, not_or]
    exact ⟨by cases a <;> first | (cases h6; done) | simp, by cases b <;> first | (cases h7; done) | simp, by cases c <;> first | (cases h7'; done) | simp⟩
theorem psd_par2 (S : SX X W T sc) {x y : Str} {i j : Nat} {px py pt p2 pos : Pos} {kt k2 : Nat} {a b : Expr} {P : PAF} (h : parB sc [(x, px), (y, py)] [a, b] = true) (hi : sc.slot x = some i) (hj : sc.slot y = some j) (hij : i ≠ j) (ha : PAD X W P [a, b]) :
    PSD X W E (sPar2 E.np i j P) (.Assign [.Tuple [.Name x px, .Name y py] kt pt] (.Tuple [a, b] k2 p2) pos) := by
  have h0 := h
  unfold parB at h0
  simp only [Bool.and_eq_true, List.all_cons, List.all_nil, Bool.and_true, beq_iff_eq] at h0
  have lc : ∀ z : Str, sc.names.lookup z = some .local → X.env.scope.names.lookup z = some .local := fun z hz => by
    rcases S.vis _ _ hz with v | ⟨v, _⟩
    · exact v
    · cases v
  refine PS.weak ⟨fun pins s σ H D I q => ?_⟩ fun _ _ _ q => par2_tS q
  exact (ps_par S.calm (by rw [S.N]; exact S.nd) (S.slot hi).1 (S.slot hj).1 hij (lc x h0.1.1.1) (lc y h0.1.2.1) ha (swapped2 S I.ok.kind h) rfl).run pins s σ H D I q
theorem psd_par3 (S : SX X W T sc) {x y z : Str} {i j l : Nat} {px py pz pt p2 pos : Pos} {kt k2 : Nat} {a b c : Expr} {P : PAF} (h : parB sc [(x, px), (y, py), (z, pz)] [a, b, c] = true) (hi : sc.slot x = some i) (hj : sc.slot y = some j) (hl : sc.slot z = some l) (hij : i ≠ j) (hil : i ≠ l) (hjl : j ≠ l) (ha : PAD X W P [a, b, c]) :
    PSD X W E (sPar3 E.np i j l P) (.Assign [.Tuple [.Name x px, .Name y py, .Name z pz] kt pt] (.Tuple [a, b, c] k2 p2) pos) := by
  have h0 := h
  unfold parB at h0
  simp only [Bool.and_eq_true, List.all_cons, List.all_nil, Bool.and_true, beq_iff_eq] at h0
  have lc : ∀ z : Str, sc.names.lookup z = some .local → X.env.scope.names.lookup z = some .local := fun z hz => by
    rcases S.vis _ _ hz with v | ⟨v, _⟩
    · exact v
    · cases v
  refine PS.weak ⟨fun pins s σ H D I q => ?_⟩ fun _ _ _ q => par3_tS q
  exact (ps_par3 S.calm (by rw [S.N]; exact S.nd) (S.slot hi).1 (S.slot hj).1 (S.slot hl).1 hij hil hjl (lc x h0.1.1.1) (lc y h0.1.2.1.1) (lc z h0.1.2.2.1) ha (swapped3 S I.ok.kind h) rfl).run pins s σ H D I q
end
end Den
end

section
set_option Elab.async false
set_option linter.all false
set_option maxRecDepth 100000
set_option maxHeartbeats 8000000
/-! DenP: statements, and the def whole. -/
namespace Den
open PySem L2

/-- methods that change a list of one's own -/
inductive Mt where
  | append | extend | clear | reverse
  deriving DecidableEq
def Mt.f : Mt → D → List D → Option (D × D)
  | .append => appendD
  | .extend => extendD
  | .clear => clearD
  | .reverse => reverseD
/-- name.m(..) as a statement -/
def denM (T : Tab) (sc : Sc) (n : Nat) (x m : Str) (args : List Expr) (al cl : Nat) : PF := match sc.slot x with
  | none => nope
  | some i => if al == cl then (match args with
    | [] => if m == ("clear" : Str) then pMut0 i clearD else if m == ("reverse" : Str) then pMut0 i reverseD else nope
    | [a] => if notStar a then (if m == ("append" : Str) then pMut i appendD (denA T sc n [a]) else if m == ("extend" : Str) then pMut i extendD (denA T sc n [a]) else nope) else nope
    | _ => nope) else nope
def locB (sc : Sc) (x : Str) : Bool := sc.names.lookup x == some .local || sc.names.lookup x == some .cell
/-- one target -/
def denG1 (T : Tab) (sc : Sc) (n : Nat) : Expr → GF
  | .Name x _ => match sc.slot x with
    | some i => if locB sc x then gSet sc.np i else fun _ _ => none
    | none => fun _ _ => none
  | .Subscript (.Name x _) e _ => match sc.slot x with
    | some i => if notSlice e then gIx2 i (denE T sc n e) else fun _ _ => none
    | none => fun _ _ => none
  | _ => fun _ _ => none
def denGs (T : Tab) (sc : Sc) (n : Nat) : List Expr → List D → Env' → Option Env'
  | [] => gsNil
  | e :: es => if notStar e then gsCons (denG1 T sc n e) (denGs T sc n es) else fun _ _ => none
def denG (T : Tab) (sc : Sc) (n : Nat) : Expr → GF
  | .Tuple es _ _ => if es.all notStar then gTupF es.length (denGs T sc n es) else fun _ _ => none
  | e => denG1 T sc n e
/-- a comprehension that is stored into a name -/
def lcB (sc : Sc) (x : Str) (px : Pos) : Expr → Bool
  | .ListComp _ [⟨_, iter, _, _⟩] scope cp => sc.names.lookup x == some .local && px.line == cp.line && !(scope.names.any fun (n, k) => n == x && (k == .local || k == .cell)) && notSet iter
  | _ => false
def isTup : Expr → Bool
  | .Tuple .. => true
  | _ => false
mutual
def denS (T : Tab) (sc : Sc) : Nat → Stmt → SF
  | 0, _ => nope
  | n + 1, st => match st with
    | .Assign [.Name x px] e pos => (match sc.slot x with
      | some i => if locB sc x then (if isComp e then (if lcB sc x px e then sSet sc.np i (sc.mu.contains i) (denE T sc n e) else nope) else sSet sc.np i (sc.mu.contains i) (denE T sc n e)) else nope
      | none => nope)
    | .Assign [.Tuple [.Name x px, .Name y py] _ _] (.Tuple [a, b] _ _) _ => (match sc.slot x, sc.slot y with
      | some i, some j => if parB sc [(x, px), (y, py)] [a, b] && decide (i ≠ j) then sPar2 sc.np i j (denA T sc n [a, b]) else nope
      | _, _ => nope)
    | .Assign [.Tuple [.Name x px, .Name y py, .Name z pz] _ _] (.Tuple [a, b, c] _ _) _ => (match sc.slot x, sc.slot y, sc.slot z with
      | some i, some j, some l => if parB sc [(x, px), (y, py), (z, pz)] [a, b, c] && (decide (i ≠ j) && (decide (i ≠ l) && decide (j ≠ l))) then sPar3 sc.np i j l (denA T sc n [a, b, c]) else nope
      | _, _, _ => nope)
    | .Assign [.Tuple ts k tp] e pos => if isComp e || isTup e then nope else sAsg sc.np (denE T sc n e) (denG T sc n (.Tuple ts k tp))
    | .Assign [.Subscript a b sp] e pos => if isComp e then nope else sAsg sc.np (denE T sc n e) (denG T sc n (.Subscript a b sp))
    | .Assign [.Attribute (.Name x xp) f ap] e pos => (match sc.slot x with
      | some i => if isComp e then nope else sFldF sc.np i T.okF f (denE T sc n e)
      | none => nope)
    | .Expr (.Call (.Attribute (.Name x _) m ap) args [] cp) _ => sExp sc.np (denM T sc n x m args ap.endLine cp.line)
    | .Expr e _ => if isComp e then nope else sExp sc.np (denE T sc n e)
    | .If c a b _ => sIf (denT T sc n c) sc.np (denSs T sc n a) (denSs T sc n b)
    | .For tg iter body [] _ => if notSet iter then sFor sc.np (denI T sc n tg iter) (denG T sc n tg) (denSs T sc n body) else nope
    | .While c body [] _ => sWhile sc.np (denT T sc n c) (denSs T sc n body) 4096
    | .Return (some e) _ => sRet sc.np (denE T sc n e)
    | .Return none _ => fun env => some (.rt (.dat .non) env)
    | .Pass _ => fun env => some (.nx env)
    | .Break _ => fun env => some (.bk env)
    | .Continue _ => fun env => some (.ct env)
    | _ => nope
def denSs (T : Tab) (sc : Sc) : Nat → List Stmt → SF
  | 0, _ => nope
  | n + 1, sts => match sts with
    | [] => sNil
    | st :: r => sSeq (denS T sc n st) (denSs T sc n r)
end

/-- a def's rows: ahead of each the lists that are let go of -/
def denTop (T : Tab) (sc : Sc) (n : Nat) : List (List Nat) → List Stmt → SF
  | _, [] => sNil
  | [], st :: r => sSeq (denS T sc n st) (denTop T sc n [] r)
  | is :: fz, st :: r => sFz sc.np is (sSeq (denS T sc n st) (denTop T sc n fz r))
section
variable {W : Pw} {T : Tab} {X : Cx} {sc : Sc} {E : Entry}
theorem psd_nope {st : Stmt} : PSD X W E nope st := ⟨fun pins s σ H D I ⟨env, G, o, _, p, _⟩ => by cases p⟩
theorem pssd_nope {st : List Stmt} : PSsD X W E nope st := ⟨fun pins s σ H D I ⟨env, G, o, _, p, _⟩ => by cases p⟩
theorem gt_nope {np : Nat} {e : Expr} : PGD X W np (fun _ _ => none) e := ⟨fun pins s σ H v u Q I r ⟨env, G, d, env', _, _, p, _⟩ => by cases p⟩
theorem loc_ok (S : SX X W T sc) {x : Str} (h : locB sc x = true) : Loc X.env.scope x ∧ (X.fn x = true ∨ X.env.scope.names.lookup x = some .local) := by
  unfold locB at h
  simp only [Bool.or_eq_true, beq_iff_eq] at h
  rcases h with h | h
  · rcases S.vis _ _ h with v | ⟨v, _⟩
    · exact ⟨.inl v, .inr v⟩
    · cases v
  · rcases S.vis _ _ h with v | ⟨v, _⟩
    · exact ⟨.inr v, .inl (S.fn _ h)⟩
    · cases v
theorem sub_plain {o i : Expr} {pos : Pos} {env : Env} (h : notSlice i = true) (v : Value) : assign (.Subscript o i pos) env v = (do
      let ov ← holding [v] (eval o env)
      let iv ← holding [v, ov] (eval i env)
      standAt pos
      holding [v, ov, iv] (setItem ov iv v)
      release [v, ov, iv] []) := by
  cases i <;> first | (cases h; done) | rfl
theorem denG1_ok (S : SX X W T sc) {n : Nat} : ∀ e, PGD X W sc.np (denG1 T sc n e) e := by
  intro e
  unfold denG1
  split
  · split
    · rename_i i hi
      split
      · rename_i hl
        obtain ⟨h1, _⟩ := S.slot hi
        obtain ⟨l1, l2⟩ := loc_ok S hl
        exact pgd_name (pg_name (by rw [S.N]; exact S.nd) h1 l1 l2)
      · exact gt_nope
    · exact gt_nope
  · split
    · rename_i i hi
      obtain ⟨h1, h2, h3, h4⟩ := S.slot hi
      split
      · rename_i hs
        refine PG.weak (pg_sub (pe_var h1 h2 h3 h4) ((denOk (T := T) (W := W) n).e X sc S _) (PSet.or set_list (set_dict (by have := S.hu; omega))) (sub_plain hs)) fun v σ H Q h => ix2_tG h
      · exact gt_nope
    · exact gt_nope
  · exact gt_nope
theorem gtup_ok (S : SX X W T sc) {np : Nat} {es : List Expr} {k n : Nat} {pos : Pos} {P : List D → Env' → Option Env'} (hp : PG X (.Tuple es k pos) (gTup X.K n (tGs W np P))) : PGD X W np (gTupF n P) (.Tuple es k pos) := PG.weak hp fun v σ H Q ⟨env, G, d, env', r, q, p, kk⟩ => by
  unfold gTupF at p
  split at p
  · split at p
    · rename_i hn
      cases q with
      | tup ha ra => exact ⟨_, _, rfl, SqT.of (r.sub _ _ ha), by rw [ra.length]; exact hn, env, G, _, env', r, ra, p, kk⟩
    · cases p
  · cases p
theorem asg_plain {e : Expr} {es : List Expr} {env : Env} (h : notStar e = true) : assignEach (e :: es) env = (false, assign e env) :: assignEach es env := by
  cases e <;> first | rfl | cases h
theorem gts_nope {np : Nat} {es : List Expr} : PGsD X W np (fun _ _ => none) es := ⟨fun pins s σ H v u Q I r ⟨env, G, d, env', _, _, p, _⟩ => by cases p⟩
theorem denGs_ok (S : SX X W T sc) {n : Nat} : ∀ es, PGsD X W sc.np (denGs T sc n es) es
  | [] => pgsd_nil
  | e :: es => by
    unfold denGs
    split
    · rename_i hs
      exact pgsd_cons (g := tG W sc.np (denG1 T sc n e)) (gs := tGs W sc.np (denGs T sc n es)) (pgs_cons (denG1_ok S e) (denGs_ok S es) (by rw [asg_plain hs]; rfl))
    · exact gts_nope
theorem stars_no {env : Env} : ∀ {es : List Expr}, es.all notStar = true → (assignEach es env).any (·.1) = false
  | [], _ => rfl
  | e :: es, h => by
    rw [List.all_cons, Bool.and_eq_true] at h
    rw [asg_plain h.1, List.any_cons, stars_no h.2]
    rfl
theorem stars_all {env : Env} : ∀ {es : List Expr}, es.all notStar = true → (assignEach es env).length = es.length
  | [], _ => rfl
  | e :: es, h => by
    rw [List.all_cons, Bool.and_eq_true] at h
    rw [asg_plain h.1, List.length_cons, List.length_cons, stars_all h.2]
theorem denG_ok (S : SX X W T sc) {n : Nat} : ∀ e, PGD X W sc.np (denG T sc n e) e := by
  intro e
  unfold denG
  split
  · rename_i es k pos
    split
    · rename_i hs
      refine gtup_ok S (pg_tup S.calm (denGs_ok S es) (stars_all hs) ?_)
      rw [List.findIdx?_eq_none_iff]
      intro x hx
      have := stars_no (env := X.env) hs
      rw [List.any_eq_false] at this
      simpa using this x hx
    · exact gt_nope
  · exact denG1_ok S e
theorem swaps_no {e : Expr} {t : Option Expr} {l : Nat} {env : Env} (h : isComp e = false) : swapsWith e t l env = pure false := by
  cases e <;> first | rfl | cases h
theorem mut_ok (S : SX X W T sc) {n : Nat} {x m : Str} {args : List Expr} {ap xp cp : Pos} : PD X W (denM T sc n x m args ap.endLine cp.line) (.Call (.Attribute (.Name x xp) m ap) args [] cp) := by
  unfold denM
  split
  · exact pd_nope
  · rename_i i hi
    obtain ⟨h1, h2, h3, h4⟩ := S.slot hi
    have hv := pe_var (pos := xp) h1 h2 h3 h4
    split
    · rename_i hl
      split
      · split
        · rename_i hm
          simp only [beq_iff_eq] at hm
          subst hm
          exact PE.weak (pe_bm0 PySem.F.plainAttrs_list PySem.F.slot_list_clear PySem.F.type_list_clear mt_clear hv rfl hl) fun σ H Q h => mut0_tE mutd_clear h S.K
        · split
          · rename_i hm
            simp only [beq_iff_eq] at hm
            subst hm
            exact PE.weak (pe_bm0 PySem.F.plainAttrs_list PySem.F.slot_list_reverse PySem.F.type_list_reverse mt_reverse hv rfl hl) fun σ H Q h => mut0_tE mutd_reverse h S.K
          · exact pd_nope
      · rename_i a
        split
        · rename_i hs
          have hss : [a].all notStar = true := by simp [hs]
          have ha := (denOk (T := T) (W := W) n).a X sc S [a]
          split
          · rename_i hm
            simp only [beq_iff_eq] at hm
            subst hm
            exact PE.weak (pe_bm PySem.F.plainAttrs_list PySem.F.slot_list_append PySem.F.type_list_append mt_append hv ha rfl (bm_few hss (by simp)) hl (star_plain hs) rfl) fun σ H Q h => mut_tE mutd_append h S.K
          · split
            · rename_i hm
              simp only [beq_iff_eq] at hm
              subst hm
              exact PE.weak (pe_bm PySem.F.plainAttrs_list PySem.F.slot_list_extend PySem.F.type_list_extend mt_extend hv ha rfl (bm_few hss (by simp)) hl (star_plain hs) rfl) fun σ H Q h => mut_tE mutd_extend h S.K
            · exact pd_nope
        · exact pd_nope
      · exact pd_nope
    · exact pd_nope
theorem psd_exp {e : Expr} {P : PF} {pos : Pos} (h : PD X W P e) (hc : isComp e = false) : PSD X W E (sExp E.np P) (.Expr e pos) := PS.weak (ps_expr h (swaps_no hc)) fun _ _ _ q => exp_tS q
theorem psd_set (S : SX X W T sc) {x : Str} {i : Nat} {e : Expr} {mu : Bool} {P : PF} {px pos : Pos} (h : PD X W P e) (hi : sc.slot x = some i) (hl : locB sc x = true) (hc : isComp e = false) : PSD X W E (sSet E.np i mu P) (.Assign [.Name x px] e pos) := by
  obtain ⟨h1, _⟩ := S.slot hi
  obtain ⟨l1, l2⟩ := loc_ok S hl
  exact PS.weak (ps_set (by rw [S.N]; exact S.nd) h1 l1 h (swaps_no hc) l2) fun _ _ _ q => set_tS q
end
end Den
end

section
set_option Elab.async false
set_option linter.all false
set_option maxRecDepth 100000
set_option maxHeartbeats 8000000
/-! DenQ: statements are sound. -/
namespace Den
open PySem L2
section
variable {W : Pw} {T : Tab} {X : Cx} {sc : Sc} {E : Entry}
theorem psd_rtn {pos : Pos} : PSD X W E (fun env => some (.rt (.dat .non) env)) (.Return none pos) := PS.weak ps_retN fun D σ H ⟨env, G, o, r, p, k⟩ => by
  cases p
  exact k _ _ _ _ r (Same.refl _) .non
theorem psd_pass {pos : Pos} : PSD X W E (fun env => some (.nx env)) (.Pass pos) := PS.weak ps_pass fun D σ H ⟨env, G, o, r, p, k⟩ => by
  cases p
  exact k _ _ _ r (Same.refl _)
theorem psd_break {pos : Pos} : PSD X W E (fun env => some (.bk env)) (.Break pos) := PS.weak ps_break fun D σ H ⟨env, G, o, r, p, k⟩ => by
  cases p
  exact k _ _ _ r (Same.refl _)
theorem psd_cont {pos : Pos} : PSD X W E (fun env => some (.ct env)) (.Continue pos) := PS.weak ps_continue fun D σ H ⟨env, G, o, r, p, k⟩ => by
  cases p
  exact k _ _ _ r (Same.refl _)
theorem psd_setLc (S : SX X W T sc) {x : Str} {i : Nat} {elt tg iter : Expr} {ifs : List Expr} {scope : Scope} {px pos cp : Pos} {mu : Bool} {w : IF} {c : BF} {e : PF} (hi : sc.slot x = some i) (hl : lcB sc x px (.ListComp elt [⟨tg, iter, ifs, 0⟩] scope cp) = true)
    (hb : blkB sc scope = true) (hw : PID X W tg w iter)
    (ht : ∀ (s : Shared) (H : Hp) (C : Addr) (cl : List (Str × Addr)) (fp : List Addr), PTs (X.blk s H scope (compEnvC scope cl C X.env) fp) ifs (tT W c))
    (he : ∀ (s : Shared) (H : Hp) (C : Addr) (cl : List (Str × Addr)) (fp : List Addr), PD (X.blk s H scope (compEnvC scope cl C X.env) fp) W e elt) :
    PSD X W E (sSet E.np i mu (pLc ((ownOf sc.N scope).map (fun p : Str × Nat => p.2)) w (denGc (sc.blk scope) ((ownOf sc.N scope).map (fun p : Str × Nat => p.2)) tg) c e)) (.Assign [.Name x px] (.ListComp elt [⟨tg, iter, ifs, 0⟩] scope cp) pos) := by
  obtain ⟨h1, _⟩ := S.slot hi
  unfold lcB at hl
  simp only [Bool.and_eq_true, beq_iff_eq, Bool.not_eq_true'] at hl
  obtain ⟨⟨⟨l1, l2⟩, l3⟩, l4⟩ := hl
  have ly : X.env.scope.names.lookup x = some .local := by
    rcases S.vis _ _ l1 with v | ⟨v, _⟩
    · exact v
    · cases v
  refine PS.weak (t := tAsg (tLc (tI W w) (tGc W ((ownOf sc.N scope).map (fun p : Str × Nat => p.2)) (denGc (sc.blk scope) ((ownOf sc.N scope).map (fun p : Str × Nat => p.2)) tg)) (tT W c) (tE W e) ((ownOf sc.N scope).map (fun p : Str × Nat => p.2))) (gName i)) ⟨fun pins s σ H D I h => ?_⟩ fun D σ H q => lc_tE (set_tS (i := i) (mu := mu) q)
  exact (ps_setLc S.calm (by rw [S.N]; exact S.nd) h1 ly (sw_true I.ok.kind ly (by simp [l2]) l3) hw (S.blkOk hb) (fun s H C cl fp => denGc_ok (S.blk hb s H C cl fp) tg) ht he (foldSet l4)).run pins s σ H D I h
theorem setLc_ok (S : SX X W T sc) (hnp : E.np = sc.np) {n : Nat} {x : Str} {i : Nat} {e : Expr} {px pos : Pos} {mu : Bool} (hi : sc.slot x = some i) (hl : lcB sc x px e = true) : PSD X W E (sSet sc.np i mu (denE T sc n e)) (.Assign [.Name x px] e pos) := by
  rw [← hnp]
  have no : PSD X W E (sSet E.np i mu nope) (.Assign [.Name x px] e pos) := ⟨fun pins s σ H D I ⟨env, G, o, _, p, _⟩ => by cases p⟩
  cases n with
  | zero => unfold denE; exact no
  | succ n =>
    have D := denOk (T := T) (W := W) n
    cases e <;> first | (cases hl; done) | skip
    rename_i elt gs scope cp
    unfold denE
    split <;> rename_i h0 <;> first | (cases h0; done) | skip
    · cases h0
      rename_i tg iter
      split
      · rename_i hb
        exact psd_setLc S hi hl hb (D.i X sc S tg iter) (fun s H C cl fp => pts_yes) fun s H C cl fp => D.e _ _ (S.blk hb s H C cl fp) elt
      · exact no
    · cases h0
      rename_i tg iter c
      split
      · rename_i hb
        exact psd_setLc S hi hl hb (D.i X sc S tg iter) (fun s H C cl fp => pts_one (D.t _ _ (S.blk hb s H C cl fp) c)) fun s H C cl fp => D.e _ _ (S.blk hb s H C cl fp) elt
      · exact no
    · cases h0
      cases hl
    · exact no
theorem swst_no {t : Expr} {e : Expr} {env : Env} (h : isTup e = false) : swappedStores [t] e env = pure none := by
  cases e <;> first | (cases h; done) | (cases t <;> rfl)
theorem swst_sub {a b e : Expr} {sp : Pos} {env : Env} : swappedStores [.Subscript a b sp] e env = pure none := by
  cases e <;> rfl
structure DsOk (T : Tab) (W : Pw) (E : Entry) (X : Cx) (sc : Sc) (n : Nat) : Prop where
  s : ∀ st, PSD X W E (denS T sc n st) st
  ss : ∀ sts, PSsD X W E (denSs T sc n sts) sts
theorem dsOk_zero : DsOk T W E X sc 0 := ⟨fun _ => by unfold denS; exact psd_nope, fun _ => by unfold denSs; exact pssd_nope⟩
theorem denS_ok (S : SX X W T sc) (hp : PassesOwn (model X.prog X.w) X.A X.env X.xe) (hnp : E.np = sc.np) (hE : E.Good) {n : Nat} (ih : DsOk T W E X sc n) (st : Stmt) : PSD X W E (denS T sc (n + 1) st) st := by
  have D := denOk (T := T) (W := W) n
  unfold denS
  split
  · rename_i x px e pos
    split
    · rename_i i hi
      split
      · rename_i hl
        split
        · split
          · rename_i hc
            exact setLc_ok S hnp hi hc
          · exact psd_nope
        · rename_i hc
          rw [← hnp]
          exact psd_set S (D.e X sc S e) hi hl (by simpa using hc)
      · exact psd_nope
    · exact psd_nope
  · rename_i x px y py kt pt a b k2 p2 pos
    split
    · rename_i i j hi hj
      split
      · rename_i hc
        simp only [Bool.and_eq_true, decide_eq_true_eq] at hc
        rw [← hnp]
        exact psd_par2 S hc.1 hi hj hc.2 (D.a X sc S _)
      · exact psd_nope
    · exact psd_nope
  · rename_i x px y py z pz kt pt a b c k2 p2 pos
    split
    · rename_i i j l hi hj hl
      split
      · rename_i hc
        simp only [Bool.and_eq_true, decide_eq_true_eq] at hc
        rw [← hnp]
        exact psd_par3 S hc.1 hi hj hl hc.2.1 hc.2.2.1 hc.2.2.2 (D.a X sc S _)
      · exact psd_nope
    · exact psd_nope
  · rename_i ts k tp e pos _ _
    split
    · exact psd_nope
    · rename_i hc
      simp only [Bool.or_eq_true, not_or, Bool.not_eq_true] at hc
      rw [← hnp]
      have hg := denG_ok (T := T) (W := W) S (n := n) (.Tuple ts k tp)
      rw [← hnp] at hg
      exact PS.weak (ps_asg (D.e X sc S e) hg (by unfold swapsWithSole; exact swaps_no hc.1) (swst_no hc.2)) fun _ _ _ q => asg_tS q
  · rename_i a b sp e pos
    split
    · exact psd_nope
    · rename_i hc
      rw [← hnp]
      have hg := denG_ok (T := T) (W := W) S (n := n) (.Subscript a b sp)
      rw [← hnp] at hg
      exact PS.weak (ps_asg (D.e X sc S e) hg (by unfold swapsWithSole; exact swaps_no (by simpa using hc)) swst_sub) fun _ _ _ q => asg_tS q
  · rename_i x xp f ap e pos
    split
    · rename_i i hi
      split
      · exact psd_nope
      · rename_i hc
        rw [← hnp]
        obtain ⟨h1, h2, h3, h4⟩ := S.slot hi
        refine PS.weak (ps_fld (pe_var (pos := xp) h1 h2 h3 h4) (D.e X sc S e) (swaps_no (by simpa using hc))) fun _ _ _ q => ?_
        rw [S.K]
        exact fldS_tS (okF_ok S) q
    · exact psd_nope
  · rw [← hnp]
    exact psd_exp (mut_ok S) rfl
  · rename_i e _ _
    split
    · exact psd_nope
    · rename_i hc
      rw [← hnp]
      exact psd_exp (D.e X sc S e) (by simpa using hc)
  · rename_i c a b pos
    rw [← hnp]
    exact PS.weak (ps_if (D.t X sc S c) (ih.ss a) (ih.ss b)) fun _ _ _ q => if_tS q
  · rename_i tg iter body pos
    split
    · rename_i hn
      rw [← hnp]
      have hg := denG_ok (T := T) (W := W) S (n := n) tg
      rw [← hnp] at hg
      exact PS.weak (ps_for hp S.calm (D.i X sc S tg iter) hg (ih.ss body) (foldSet hn)) fun _ _ _ q => for_tS q
    · exact psd_nope
  · rename_i c body pos
    rw [← hnp]
    exact PS.weak (ps_while hp (D.t X sc S c) (ih.ss body)) fun _ _ _ q => while_tS q
  · rename_i e pos
    rw [← hnp]
    exact PS.weak (ps_ret (D.e X sc S e)) fun _ _ _ q => ret_tS hE q
  · exact psd_rtn
  · exact psd_pass
  · exact psd_break
  · exact psd_cont
  · exact psd_nope
theorem denSs_ok {n : Nat} (ih : DsOk T W E X sc n) (sts : List Stmt) : PSsD X W E (denSs T sc (n + 1) sts) sts := by
  unfold denSs
  split
  · exact pssd_nil
  · rename_i st r
    exact pssd_cons (ih.s st) (ih.ss r)
theorem dsOk (S : SX X W T sc) (hp : PassesOwn (model X.prog X.w) X.A X.env X.xe) (hnp : E.np = sc.np) (hE : E.Good) : ∀ n, DsOk T W E X sc n
  | 0 => dsOk_zero
  | n + 1 => ⟨denS_ok S hp hnp hE (dsOk S hp hnp hE n), denSs_ok (dsOk S hp hnp hE n)⟩
theorem denTop_ok (S : SX X W T sc) (hp : PassesOwn (model X.prog X.w) X.A X.env X.xe) (hnp : E.np = sc.np) (hE : E.Good) {n : Nat} : ∀ (fz : List (List Nat)) (sts : List Stmt), PSsD X W E (denTop T sc n fz sts) sts
  | fz, [] => by cases fz <;> exact pssd_nil
  | [], st :: r => pssd_cons ((dsOk S hp hnp hE n).s st) (denTop_ok S hp hnp hE [] r)
  | is :: fz, st :: r => by
    unfold denTop
    rw [← hnp]
    exact PSs.weak (pssd_cons ((dsOk S hp hnp hE n).s st) (denTop_ok S hp hnp hE fz r)) fun _ _ _ q => fz_tS hE q
end
end Den
end

section
set_option Elab.async false
set_option linter.all false
set_option maxRecDepth 100000
set_option maxHeartbeats 2000000
/-! DenR: a def's promise by its text. -/
namespace Den
open PySem L2
/-- a def of the program -/
structure Df where
  nm : Str
  ps : List Str
  N : List Str
  names : List (Str × NameKind)
  mu : List Nat
  io : List Bool
  ds : List D
  shs : List Shp
  fz : List (List Nat)
  body : List Stmt
def Df.sc (d : Df) : Sc := ⟨d.N, d.names, d.ps.length, d.mu⟩
def Df.F (T : Tab) (n : Nat) (d : Df) : DF := fnF d.N.length (denTop T d.sc n d.fz d.body)
def Df.fi (T : Tab) (n : Nat) (d : Df) : Fi := ⟨d.nm, d.io, d.F T n, d.ps, d.ds, d.shs⟩
end Den
end

section
set_option Elab.async false
set_option linter.all false
set_option maxRecDepth 100000
set_option maxHeartbeats 4000000
/-! DenS: a def's promise by its text, the table that grows by it. -/
namespace Den
open PySem L2 PyProof.Rows
section
variable (P : Program) (w : World) (K : PySem.W.Frag) (mg : Str → Option Value) (base : Heap) (W : Pw)
/-- an own def at f, for calls that have Room k -/
def OwnK (k n : Nat) (f : Addr) (F : DF) : Prop := ∃ j fd ps, FnG P w K mg base j f fd ps (spF W n F) ∧ j + 1 ≤ k ∧ Binds K fd ps []
structure ClsK (k : Nat) (ci : Ci) : Prop where
  here : mg ci.nm = some (.ref (W.cl ci.c))
  cls : Cls K (W.cl ci.c)
  fld : ∀ f ∈ ci.flds, NoAttr K (W.cl ci.c) f
  ini : ∃ f j fd ps its dv, Mk K (W.cl ci.c) f ∧ FnG P w K mg base j f fd ps (spF W (ci.ini.io.length + 1) ci.ini.F) ∧ j + 1 ≤ k ∧ Vals dv its ∧ (∀ G, RpAll W G dv ci.ini.ds) ∧ ∀ sh ∈ ci.ini.shs, ShOk1 K fd ps its sh
  ms : ∀ fi ∈ ci.ms, ∃ f j fd ps its, Meth K (W.cl ci.c) fi.nm f ∧ FnG P w K mg base j f fd ps (spF W (fi.io.length + 1) fi.F) ∧ j + 1 ≤ k ∧ Vals (fi.ds.map dV) its ∧ ∀ sh ∈ fi.shs, ShOk1 K fd ps its sh
  cms : ∀ fi ∈ ci.cms, ∃ mc p g, ClX.CRead K (W.cl ci.c) mc ∧ ClX.CMet K (W.cl ci.c) mc fi.nm p g ∧ OwnK P w K mg base W k (fi.io.length + 1) g fi.F
  props : ∀ f F, ci.props.lookup f = some F → ∃ p g, PropOf K (W.cl ci.c) f p g ∧ OwnK P w K mg base W k 1 g F
  bins : ∀ nm F, ci.bins.lookup nm = some F → ∃ f, OwnBin K (W.cl ci.c) f nm ∧ OwnK P w K mg base W k 2 f F
  rbins : ∀ nm F, ci.rbins.lookup nm = some F → ∃ f, OwnRBin K (W.cl ci.c) f nm ∧ OwnK P w K mg base W k 2 f F
  uns : ∀ nm F, ci.uns.lookup nm = some F → ∃ f, OwnUn K (W.cl ci.c) f nm ∧ OwnK P w K mg base W k 1 f F
  eq : ∀ F, ci.eq = some F → (∃ f, OwnEq K (W.cl ci.c) f ∧ OwnK P w K mg base W k 2 f F) ∧ ∀ T ∈ eqTys, PySem.W.notFirst K (W.cl ci.c) (.type T) = true
  cvals : ∀ f d, ci.cvals.lookup f = some d → (∃ mc v u, ClX.CRead K (W.cl ci.c) mc ∧ ClX.CVal K (W.cl ci.c) mc f v u ∧ ∀ G, Rp W G v d)
/-- a def of the module -/
def FnK (k : Nat) (fi : Fi) : Prop := ∃ a j fd its dv, FnG P w K mg base j a fd fi.ps (spF W fi.io.length fi.F) ∧ j ≤ k ∧ Vals dv its ∧ (∀ G, RpAll W G dv fi.ds) ∧ (∀ sh ∈ fi.shs, ShOk K fd fi.ps its sh) ∧ mg fi.nm = some (.ref a) ∧ PySem.W.keepIn K (.ref a) = true
/-- what is known of the program's globals, for calls that have Room k -/
structure TF (T : Tab) (k : Nat) : Prop where
  fns : ∀ fi ∈ T.fns, FnK P w K mg base W k fi
  cons : ∀ x d, T.cons.lookup x = some d → ∃ u v, mg x = some u ∧ RelV v u ∧ ∀ G, Rp W G v d
  blt : ∀ x b, bis.lookup x = some b → T.fn x = none → T.ci x = none → mg x = none
  tyn : ∀ x, tys.contains x = true → T.fn x = none → T.cons.lookup x = none → mg x = none
  cls : ∀ ci ∈ T.cls, ClsK P w K mg base W k ci
  isi : IsiOk W T.isi
  gcd : ∀ x, T.gcds.contains x = true → T.fn x = none → T.ci x = none → mg x = some (.builtin "math.gcd")
  rng : T.fn "range" = none → mg "range" = none
  enm : T.fn "enumerate" = none → mg "enumerate" = none
  zip : T.fn "zip" = none → mg "zip" = none
  set : T.fn "set" = none → mg "set" = none
  big : 4 ≤ k
  keys : ∀ x, T.keys.contains x = true → ∃ a, mg x = some (.ref a) ∧ KeyLen P w K mg base a
  walk : ∀ c fld, T.own c = some fld → ∃ f, PySem.W.findIn K (.ref (W.cl c)) "__iter__" = some (some (.ref f)) ∧ PySem.W.isFn K (.ref f) = true ∧ IterFld P w K mg base (W.cl c) f fld
end
section
variable {P : Program} {w : World} {mg : Str → Option Value} {base : Heap} {W : Pw} {T : Tab} {j k : Nat}
theorem OwnK.mono {n : Nat} {f : Addr} {F : DF} (h : OwnK P w W.K mg base W j n f F) (hk : j ≤ k) : OwnK P w W.K mg base W k n f F := by
  obtain ⟨i, fd, ps, h1, h2, h3⟩ := h
  exact ⟨i, fd, ps, h1, by omega, h3⟩
theorem FnK.mono {fi : Fi} (h : FnK P w W.K mg base W j fi) (hk : j ≤ k) : FnK P w W.K mg base W k fi := by
  obtain ⟨a, i, fd, its, dv, h1, h2, h3⟩ := h
  exact ⟨a, i, fd, its, dv, h1, by omega, h3⟩
theorem ClsK.mono {ci : Ci} (h : ClsK P w W.K mg base W j ci) (hk : j ≤ k) : ClsK P w W.K mg base W k ci := by
  refine ⟨h.here, h.cls, h.fld, ?_, fun fi hf => ?_, fun fi hf => ?_, fun f F hf => ?_, fun f F hf => ?_, fun f F hf => ?_, fun f F hf => ?_, fun F hf => ?_, h.cvals⟩
  · obtain ⟨f, i, fd, ps, its, dv, h4, h5, h6, h7⟩ := h.ini
    exact ⟨f, i, fd, ps, its, dv, h4, h5, by omega, h7⟩
  · obtain ⟨f, i, fd, ps, its, q1, q2, q3, q4⟩ := h.ms fi hf; exact ⟨f, i, fd, ps, its, q1, q2, by omega, q4⟩
  · obtain ⟨mc, p, g, q1, q2, q3⟩ := h.cms fi hf; exact ⟨mc, p, g, q1, q2, q3.mono hk⟩
  · obtain ⟨p, g, q1, q2⟩ := h.props f F hf; exact ⟨p, g, q1, q2.mono hk⟩
  · obtain ⟨g, q1, q2⟩ := h.bins f F hf; exact ⟨g, q1, q2.mono hk⟩
  · obtain ⟨g, q1, q2⟩ := h.rbins f F hf; exact ⟨g, q1, q2.mono hk⟩
  · obtain ⟨g, q1, q2⟩ := h.uns f F hf; exact ⟨g, q1, q2.mono hk⟩
  · obtain ⟨⟨g, q1, q2⟩, q3⟩ := h.eq F hf; exact ⟨⟨g, q1, q2.mono hk⟩, q3⟩
theorem TF.mono (h : TF P w W.K mg base W T j) (hk : j ≤ k) : TF P w W.K mg base W T k :=
  ⟨fun fi hf => (h.fns fi hf).mono hk, h.cons, h.blt, h.tyn, fun ci hc => (h.cls ci hc).mono hk, h.isi, h.gcd, h.rng, h.enm, h.zip, h.set, Nat.le_trans h.big hk, h.keys, h.walk⟩
theorem OwnK.at_ {X : Cx} {n : Nat} {f : Addr} {F : DF} (h : OwnK X.prog X.w X.K X.mg X.base W k n f F) (hr : Room k X.A) : OwnAt X W n f F := by
  obtain ⟨i, fd, ps, h1, h2, h3⟩ := h
  exact ⟨i, fd, ps, h1, hr.mono h2, h3⟩
theorem ClsK.ok {X : Cx} {ci : Ci} (h : ClsK X.prog X.w X.K X.mg X.base W k ci) (hr : Room k X.A) : ClsOk X W ci := by
  refine ⟨h.here, h.cls, h.fld, ?_, fun fi hf => ?_, fun fi hf => ?_, fun f F hf => ?_, fun f F hf => ?_, fun f F hf => ?_, fun f F hf => ?_, fun F hf => ?_, h.cvals⟩
  · obtain ⟨f, i, fd, ps, its, dv, h4, h5, h6, h7⟩ := h.ini
    exact ⟨f, i, fd, ps, its, dv, h4, h5, hr.mono h6, h7⟩
  · obtain ⟨f, i, fd, ps, its, q1, q2, q3, q4⟩ := h.ms fi hf; exact ⟨f, i, fd, ps, its, q1, q2, hr.mono q3, q4⟩
  · obtain ⟨mc, p, g, q1, q2, q3⟩ := h.cms fi hf; exact ⟨mc, p, g, q1, q2, q3.at_ hr⟩
  · obtain ⟨p, g, q1, q2⟩ := h.props f F hf; exact ⟨p, g, q1, q2.at_ hr⟩
  · obtain ⟨g, q1, q2⟩ := h.bins f F hf; exact ⟨g, q1, q2.at_ hr⟩
  · obtain ⟨g, q1, q2⟩ := h.rbins f F hf; exact ⟨g, q1, q2.at_ hr⟩
  · obtain ⟨g, q1, q2⟩ := h.uns f F hf; exact ⟨g, q1, q2.at_ hr⟩
  · obtain ⟨⟨g, q1, q2⟩, q3⟩ := h.eq F hf; exact ⟨⟨g, q1, q2.at_ hr⟩, q3⟩
/-- the place of a def's body -/
theorem TF.sx (h : TF P w W.K mg base W T k) {N ps : List Str} {scope : Scope} (S : FnScope N ps scope) {mu : List Nat} {qual : Str} {f : Addr} {cdv : Value} {A : Around} {outer : List Env} {s : Shared} {H : Hp} {E : XK}
    (hg : (A.deeper (envOfC qual scope s.heap.objs.size f cdv)).guards = some []) (hr : Room k (A.deeper (envOfC qual scope s.heap.objs.size f cdv))) :
    SX (cxOf CX0 P w W.K mg base N qual scope f cdv A outer s H E).nox W T ⟨N, scope.names, ps.length, mu⟩ := by
  refine ⟨rfl, S.nd, rfl, rfl, fun x kd q => .inl q, fun x q => rfl, hg, ?_, fun fi hf => ?_, h.cons, h.blt, h.tyn, fun ci hc => ?_, h.isi, h.gcd, h.rng, h.enm, h.zip, h.set, hr.mono h.big, h.keys, fun c fld hc => ⟨h.walk c fld hc⟩⟩
  · have := hr.un
    show (A.deeper (envOfC qual scope s.heap.objs.size f cdv)).units + 200 < cLine
    omega
  · obtain ⟨a, j, fd, its, dv, h1, h2, h3⟩ := h.fns fi hf
    exact ⟨a, j, fd, its, dv, h1, hr.mono h2, h3⟩
  · exact (h.cls ci hc).ok hr
/-- THE RULE of a def by its text -/
theorem den_def (h : TF P w W.K mg base W T k) (d : Df) {f : Addr} {name qual : Str} {params : Arguments} {scope : Scope} {dV kV doc pm cdv ct oc : Value} {an od : Option Addr} {osl : Array (Option Value)}
    (lk : W.K.lookup f = some ⟨oc, od, .func (PySem.W.fnOf name qual params d.body scope dV kV doc pm an cdv ct), osl⟩) (hcd : PySem.W.codeIn W.K cdv qual = true) (S : FnScope d.N d.ps scope) (hn : scope.names = d.names) (n : Nat) :
    FnG P w W.K mg base (k + 1) f (PySem.W.fnOf name qual params d.body scope dV kV doc pm an cdv ct) d.ps (spF W d.ps.length (d.F T n)) := by
  unfold Df.F Df.sc
  rw [← hn]
  exact fng_den lk hcd S fun A outer s H E Ent hg hr good hnp => denTop_ok (h.sx S hg hr) PassesOwn.never hnp good d.fz d.body
end
end Den
end

section
set_option Elab.async false
set_option linter.all false
set_option maxRecDepth 100000
set_option maxHeartbeats 4000000
/-! DenU: the law is called with the script: by a promise that holds where nothing is just being shown. -/
namespace Den
open PySem L2 PySem.Spec PyProof.Rows
section
variable {P : Program} {w : World} {K : PySem.W.Frag} {mg mb : Str → Option Value} {s1 : Shared} {a : Addr} {us : List Value}
/-- at most the script is tracked -/
structure Alone (K : PySem.W.Frag) (H : Hp) (a : Addr) : Prop where
  one : ∀ b, H b ≠ none → b = a
  off : H a ≠ none → K.lookup a = none
theorem Alone.not_at {H : Hp} (al : Alone K H a) {b : Addr} (h : b ≠ a) : H b = none := by
  cases e : H b with
  | none => rfl
  | some u => exact (h (al.one b (by rw [e]; simp))).elim
/-- a dict of the heap isn't the script -/
theorem Alone.dict {H : Hp} (al : Alone K H a) {oa : Obj} (ha : s1.heap.get? a = some oa) (hd : ∀ es ep, oa.data ≠ .dict es ep) {b : Addr} {o : Obj} {es : Array DictEntry} {ep : Nat} (e : s1.heap.get? b = some o) (d : o.data = .dict es ep) : H b = none := by
  by_cases z : b = a
  · subst z
    have q : oa = o := Option.some.inj (ha.symm.trans e)
    exact (hd es ep (by rw [q]; exact d)).elim
  · exact al.not_at z
theorem Alone.env0 {H : Hp} (al : Alone K H a) {oa : Obj} (ha : s1.heap.get? a = some oa) (hd : ∀ es ep, oa.data ≠ .dict es ep) (KX : K.In s1.heap) (hns : s1.heap.Ns mainGlobals mg) (hb : s1.heap.Ns builtinsNs mb)
    (hbb : ∀ x : Str, x ≠ "__name__" → mb x = bootBuiltins x) (hlim : s1.heap.NoLimit) (hg : s1.gens = #[]) (hok : HOk P w H s1.heap) :
    K.In (hidT s1.heap H) ∧ (hidT s1.heap H).Ns mainGlobals mg ∧ Env0 P w K mg (hidT s1.heap H) callerA [] s1 H := by
  have nsOf : ∀ {b : Addr} {m : Str → Option Value}, s1.heap.Ns b m → (hidT s1.heap H).Ns b m := by
    intro b m h
    obtain ⟨o, es, ep, e, d, r⟩ := h
    exact ⟨o, es, ep, hidT_get e (al.dict ha hd e d), d, r⟩
  have kin : K.In (hidT s1.heap H) := by
    intro b o e
    apply hidT_get (KX b o e)
    by_cases z : b = a
    · cases q : H a with
      | none => rw [z]; exact q
      | some u =>
        have := al.off (by rw [q]; simp)
        rw [z, this] at e
        cases e
    · exact al.not_at z
  obtain ⟨mc, l1, l2⟩ := hlim
  refine ⟨kin, nsOf hns, ?_⟩
  constructor
  · rfl
  · exact ⟨kin, nsOf hns, ⟨mb, nsOf hb, hbb⟩, mc, nsOf l1, l2⟩
  · exact fun b o e => of_hidT e
  · exact Nat.le_of_eq (hidT_size _ _)
  · trivial
  · intro b h
    cases h
  · exact hok
  · exact .of_eq hg
/-- what a law's call must end in -/
abbrev LawEnd (s1 : Shared) (r : Result) (s' : Shared) : Prop := r = .ok (.ret (.bool true)) ∧ OldK s1.heap s'.heap ∧ s'.os = s1.os ∧ AllBare s'.gens
theorem lawG_core {k : Nat} {fa : Addr} {fd : FuncData} {x : Str} {sp : Sp} {H : Hp} {oa : Obj} (al : Alone K H a) (ha : s1.heap.get? a = some oa) (hd : ∀ es ep, oa.data ≠ .dict es ep)
    (KX : K.In s1.heap) (hns : s1.heap.Ns mainGlobals mg) (hb : s1.heap.Ns builtinsNs mb) (hbb : ∀ x : Str, x ≠ "__name__" → mb x = bootBuiltins x) (hlim : s1.heap.NoLimit) (hg : s1.gens = #[]) (hr : Room k callerA)
    (F : ∀ base : Heap, K.In base → base.Ns mainGlobals mg → FnG P w K mg base k fa fd [x] sp) (hbind : ∀ (s : Shared) (u : Value), BindsTo s fd ⟨[u], []⟩ [(x, u)])
    (hO : Only H) (hok : HOk P w H s1.heap) (hsp : sp [.ref a] H (fun v _ => v = .bl true) fun _ _ _ => False) :
    codeAny (model P w) callerA (.call (.ref fa) ⟨[.ref a], []⟩) (LawEnd s1) s1 := by
  obtain ⟨kin, nsG, e0⟩ := al.env0 (P := P) (w := w) ha hd KX hns hb hbb hlim hg hok
  apply codeAny_mono ((F _ kin nsG).run callerA [] s1 H ⟨[.ref a], []⟩ [.ref a] [.ref a] _ _ rfl hr e0 (hbind s1 (.ref a)) (.cons rfl .nil) hsp)
  intro r s' h
  cases r with
  | error e => exact h.elim
  | ok fl =>
    cases fl with
    | ret u =>
      obtain ⟨v, H', os, bare, un, hok', rv, q⟩ := h
      have qv : v = .bl true := q
      subst qv
      cases (show u = Value.bool true from rv)
      refine ⟨rfl, OldK.of_keep ?_, os, bare⟩
      intro b o e
      cases qb : H b with
      | none => exact un.keep b o e qb (fun z => nomatch z) (fun z => nomatch z)
      | some t =>
        rcases hO b with z | ⟨ob, xs, z⟩
        · rw [qb] at z; cases z
        · have h1 := (hok b _ z).1
          have h2 := (hok' b _ (un.frzs b ob _ z)).1
          have h3 : o = ob := Option.some.inj (e.symm.trans h1)
          rw [h3]
          exact h2
    | next => exact h.elim
    | brk => exact h.elim
    | cont => exact h.elim

theorem lawG {k : Nat} {fa : Addr} {fd : FuncData} {x : Str} {sp : Sp} {ns : List Int} (ha : s1.heap.get? a = some { cls := .type "list", data := .seq us.toArray }) (hi : IntsAre us ns) (hl : ns.length ≤ sizeLine)
    (KX : K.In s1.heap) (hns : s1.heap.Ns mainGlobals mg) (hb : s1.heap.Ns builtinsNs mb) (hbb : ∀ x : Str, x ≠ "__name__" → mb x = bootBuiltins x) (hlim : s1.heap.NoLimit) (hg : s1.gens = #[]) (hr : Room k callerA)
    (F : ∀ base : Heap, K.In base → base.Ns mainGlobals mg → FnG P w K mg base k fa fd [x] sp) (hbind : ∀ (s : Shared) (u : Value), BindsTo s fd ⟨[u], []⟩ [(x, u)])
    (hsp : ∀ H : Hp, Only H → SqL K H a (ns.map V.int) → sp [.ref a] H (fun v _ => v = .bl true) fun _ _ _ => False) :
    codeAny (model P w) callerA (.call (.ref fa) ⟨[.ref a], []⟩) (LawEnd s1) s1 := by
  have rv : Vals (ns.map V.int) us := vals_ints hi
  have nd : ∀ es ep, (Data.seq us.toArray 0) ≠ .dict es ep := fun _ _ z => nomatch z
  have ln : us.length = ns.length := hi.length
  cases hk : K.lookup a with
  | some o =>
    have eo : o = { cls := .type "list", data := .seq us.toArray } := Option.some.inj ((KX a o hk).symm.trans ha)
    subst eo
    have al : Alone K (fun _ => none) a := ⟨fun b z => (z rfl).elim, fun z => (z rfl).elim⟩
    refine lawG_core al ha nd KX hns hb hbb hlim hg hr F hbind (fun _ => .inl rfl) (fun b u z => nomatch z) (hsp _ (fun _ => .inl rfl) (.inr ?_))
    exact ⟨_, us.toArray, _, hk, rfl, rfl, rfl, by rw [List.size_toArray, ln]; exact hl, by simpa using rv⟩
  | none =>
    let S : HO := .frz { cls := .type "list", data := .seq us.toArray } (.lst (ns.map V.int))
    let H : Hp := fun b => if b = a then some S else none
    have hA : H a = some S := if_pos rfl
    have hN : ∀ b, b ≠ a → H b = none := fun b z => if_neg z
    have al : Alone K H a := ⟨fun b z => Classical.byContradiction fun q => z (hN b q), fun _ => hk⟩
    have hO : Only H := fun b => by
      by_cases z : b = a
      · exact .inr ⟨_, _, by rw [z]; exact hA⟩
      · exact .inl (hN b z)
    refine lawG_core al ha nd KX hns hb hbb hlim hg hr F hbind hO (fun b u z => ?_) (hsp H hO (.inl (.inr ⟨_, hA⟩)))
    by_cases q : b = a
    · subst q
      have eu : u = S := Option.some.inj (z.symm.trans hA)
      subst eu
      exact ⟨ha, by rw [List.length_map]; exact hl, us, _, rv, ha⟩
    · rw [hN b q] at z; cases z
end
/-- the walk that a law's head leaves, by what the text makes of a script -/
theorem walkG {l : PySem.W.OpenLaw} {n k : Nat} {q : Program} {loose : List Str} {XP : (Str → Option Value) → Heap → Prop} {YP : World → Heap → Prop} {d : DefRec} {x : Str} {F : DF}
    (hn : l.most = some n) (hn2 : n ≤ sizeLine) (hdf : d.params.defaults = []) (hr : Room k callerA)
    (hF : ∀ (w : World) (mg : Str → Option Value) (fa : Addr) (h : Heap), YP w h → h.Ns mainGlobals mg → mg d.name = some (.ref fa) →
      ∃ (W : Pw) (fd : FuncData), W.K.In h ∧ (∀ (s : Shared) (u : Value), BindsTo s fd ⟨[u], []⟩ [(x, u)]) ∧ ∀ base : Heap, W.K.In base → base.Ns mainGlobals mg → FnG l.prog w W.K mg base k fa fd [x] (spF W 1 F))
    (tr : ∀ ns : List Int, ns.length ≤ n → (∀ i ∈ ns, Builtin.Int.intBits i ≤ 1048576) → ∃ e, F [.dat (.scr ns)] = some (.dat (.bl true), e)) :
    PySem.W.WalkO q loose XP YP l.row.toRowW d [] (fun f vs => PySem.call f vs) := by
  refine Att.attach_callB hn hdf ?_
  intro w s0 s1 mg mb fa o pm cd doc a vs ns G Y ho hd hcd hmg hobj hints hlen hbits hg
  obtain ⟨W, fd, KX, hb, hFF⟩ := hF w mg fa _ Y G.T.g hmg
  refine lawG hobj hints (Nat.le_trans hlen hn2) KX G.T.g G.T.b G.T.builtins G.T.nolimit hg hr hFF hb fun H hO hS => ⟨rfl, ?_⟩
  obtain ⟨e, he⟩ := tr ns hlen hbits
  have rel : Rel W [some (.ref a)] [.dat (.scr ns)] H H := by
    refine ⟨rfl, fun b u h => h, fun i s hs => ?_, fun i j dd s b h1 h2 h3 h4 h5 => ?_, fun i j dd s b h1 _ _ _ => ?_⟩
    · match i, hs with
      | 0, hs => cases hs; exact ⟨.ref a, rfl, .scr hS⟩
    · match i, h1 with
      | 0, h1 => cases h1
    · match i, h1 with
      | 0, h1 => cases h1
  refine ⟨[.dat (.scr ns)], H, .dat (.bl true), e, rel, he, fun v H' G' s o => ?_⟩
  have o' : Rp W G' v (.bl true) := o
  cases o'
  rfl
end Den
end

section
set_option Elab.async false
set_option linter.all false
set_option maxRecDepth 100000
set_option maxHeartbeats 4000000
/-! DenT: the program's table, made again and again by its own text. -/
namespace Den
open PySem L2 PyProof.Rows
structure Cdf where
  nm : Str
  c : Nat
  flds : List Str
  ini : Df
  cvals : List (Str × D)
  ms : List Df
  cms : List Df
  props : List (Str × Df)
  bins : List (String × Df)
  rbins : List (String × Df)
  uns : List (Str × Df)
  eq : Option Df
structure Prg where
  fuel : Nat
  dfs : List Df
  cons : List (Str × D)
  cls : List Cdf
  isi : IsiT
  gcds : List Str
  keys : List Str := []
  walk : List (Nat × Str) := []
/-- a method's def: its first parameter is self -/
def Df.mi (T : Tab) (n : Nat) (d : Df) : Fi := ⟨d.nm, d.io.tail, d.F T n, d.ps.tail, d.ds, d.shs⟩
def Cdf.ci (T : Tab) (n : Nat) (c : Cdf) : Ci := ⟨c.nm, c.c, c.flds, c.ini.mi T n, c.cvals, c.ms.map (·.mi T n), c.cms.map (·.mi T n), c.props.map fun p => (p.1, p.2.F T n), c.bins.map fun p => (p.1, p.2.F T n), c.rbins.map fun p => (p.1, p.2.F T n), c.uns.map fun p => (p.1, p.2.F T n), c.eq.map fun d => d.F T n⟩
def tabS (p : Prg) (T : Tab) : Tab := ⟨p.dfs.map (·.fi T p.fuel), p.cons, p.cls.map (·.ci T p.fuel), p.isi, p.gcds, p.keys, p.walk⟩
def tab (p : Prg) : Nat → Tab
  | 0 => ⟨[], p.cons, [], p.isi, p.gcds, [], []⟩
  | i + 1 => tabS p (tab p i)
/-! ### what K holds of them -/
/-- the def d stands at f -/
def DefAt (K : PySem.W.Frag) (d : Df) (f : Addr) (fd : FuncData) : Prop := ∃ name qual params scope dV kV doc pm cdv ct oc an od osl, fd = PySem.W.fnOf name qual params d.body scope dV kV doc pm an cdv ct ∧ K.lookup f = some ⟨oc, od, .func fd, osl⟩ ∧ PySem.W.codeIn K cdv qual = true ∧
  FnScope d.N d.ps scope ∧ scope.names = d.names
def IoB (d : Df) : Prop := d.io.length = d.ps.length ∧ d.ps ≠ []
section
variable {P : Program} {w : World} {mg : Str → Option Value} {base : Heap} {W : Pw} {p : Prg} {k : Nat}
theorem DefAt.fng {T : Tab} {d : Df} {f : Addr} {fd : FuncData} (D : DefAt W.K d f fd) (h : TF P w W.K mg base W T k) (n : Nat) : FnG P w W.K mg base (k + 1) f fd d.ps (spF W d.ps.length (d.F T n)) := by
  obtain ⟨name, qual, params, scope, dV, kV, doc, pm, cdv, ct, oc, an, od, osl, rfl, lk, hcd, S, hn⟩ := D
  exact den_def h d lk hcd S hn n
/-- a def by all its arguments by place -/
def OwnD (K : PySem.W.Frag) (n : Nat) (f : Addr) (d : Df) : Prop := ∃ fd, DefAt K d f fd ∧ d.ps.length = n ∧ Binds K fd d.ps []
theorem OwnD.own {T : Tab} {d : Df} {f : Addr} {n m : Nat} (D : OwnD W.K n f d) (h : TF P w W.K mg base W T k) : OwnK P w W.K mg base W (k + 2) n f (d.F T m) := by
  obtain ⟨fd, D, e, b⟩ := D
  subst e
  exact ⟨k + 1, fd, d.ps, D.fng h m, by omega, b⟩
structure ClsD (K : PySem.W.Frag) (mg : Str → Option Value) (W : Pw) (c : Cdf) : Prop where
  here : mg c.nm = some (.ref (W.cl c.c))
  cls : Cls K (W.cl c.c)
  fld : ∀ f ∈ c.flds, NoAttr K (W.cl c.c) f
  ini : IoB c.ini ∧ ∃ f fd its dv, Mk K (W.cl c.c) f ∧ DefAt K c.ini f fd ∧ Vals dv its ∧ (∀ G, RpAll W G dv c.ini.ds) ∧ ∀ sh ∈ c.ini.shs, ShOk1 K fd c.ini.ps its sh
  ms : ∀ d ∈ c.ms, IoB d ∧ ∃ f fd its, Meth K (W.cl c.c) d.nm f ∧ DefAt K d f fd ∧ Vals (d.ds.map dV) its ∧ ∀ sh ∈ d.shs, ShOk1 K fd d.ps its sh
  cms : ∀ d ∈ c.cms, IoB d ∧ ∃ mc p g, ClX.CRead K (W.cl c.c) mc ∧ ClX.CMet K (W.cl c.c) mc d.nm p g ∧ OwnD K d.ps.length g d
  props : ∀ q ∈ c.props, ∃ p g, PropOf K (W.cl c.c) q.1 p g ∧ OwnD K 1 g q.2
  bins : ∀ q ∈ c.bins, ∃ f, OwnBin K (W.cl c.c) f q.1 ∧ OwnD K 2 f q.2
  rbins : ∀ q ∈ c.rbins, ∃ f, OwnRBin K (W.cl c.c) f q.1 ∧ OwnD K 2 f q.2
  uns : ∀ q ∈ c.uns, ∃ f, OwnUn K (W.cl c.c) f q.1 ∧ OwnD K 1 f q.2
  eq : ∀ d, c.eq = some d → (∃ f, OwnEq K (W.cl c.c) f ∧ OwnD K 2 f d) ∧ ∀ T ∈ eqTys, PySem.W.notFirst K (W.cl c.c) (.type T) = true
  cvals : ∀ f d, c.cvals.lookup f = some d → (∃ mc v u, ClX.CRead K (W.cl c.c) mc ∧ ClX.CVal K (W.cl c.c) mc f v u ∧ ∀ G, Rp W G v d)
def FnD (K : PySem.W.Frag) (mg : Str → Option Value) (W : Pw) (d : Df) : Prop := IoB d ∧ ∃ f fd its dv, DefAt K d f fd ∧ Vals dv its ∧ (∀ G, RpAll W G dv d.ds) ∧ (∀ sh ∈ d.shs, ShOk K fd d.ps its sh) ∧ mg d.nm = some (.ref f) ∧ PySem.W.keepIn K (.ref f) = true
structure PrgOk (K : PySem.W.Frag) (mg : Str → Option Value) (W : Pw) (p : Prg) : Prop where
  fns : ∀ d ∈ p.dfs, FnD K mg W d
  cons : ∀ x d, p.cons.lookup x = some d → ∃ u v, mg x = some u ∧ RelV v u ∧ ∀ G, Rp W G v d
  blt : ∀ x b, bis.lookup x = some b → mg x = none
  tyn : ∀ x, tys.contains x = true → mg x = none
  cls : ∀ c ∈ p.cls, ClsD K mg W c
  isi : IsiOk W p.isi
  gcd : ∀ x, p.gcds.contains x = true → mg x = some (.builtin "math.gcd")
  rng : mg "range" = none
  enm : mg "enumerate" = none
  zip : mg "zip" = none
  set : mg "set" = none
  keys : ∀ x, p.keys.contains x = true → ∃ f, mg x = some (.ref f) ∧ ∀ P w base, KeyLen P w K mg base f
  walk : ∀ c fld, p.walk.lookup c = some fld → ∃ f, PySem.W.findIn K (.ref (W.cl c)) "__iter__" = some (some (.ref f)) ∧ PySem.W.isFn K (.ref f) = true ∧ ∀ P w base, IterFld P w K mg base (W.cl c) f fld
theorem lookup_map {α β γ : Type} [BEq α] [LawfulBEq α] {f : β → γ} {x : α} {z : γ} : ∀ {l : List (α × β)}, (l.map fun q => (q.1, f q.2)).lookup x = some z → ∃ y, (x, y) ∈ l ∧ z = f y
  | [], h => by cases h
  | (a, b) :: l, h => by
    rw [List.map_cons, List.lookup_cons] at h
    by_cases e : x == a
    · simp only [e] at h
      cases h
      exact ⟨b, by rw [beq_iff_eq] at e; rw [e]; exact List.mem_cons_self, rfl⟩
    · have e' : (x == a) = false := by simpa using e
      simp only [e'] at h
      obtain ⟨y, h1, h2⟩ := lookup_map h
      exact ⟨y, List.mem_cons_of_mem _ h1, h2⟩
theorem tail_len {d : Df} (h : IoB d) : d.io.tail.length + 1 = d.ps.length := by
  obtain ⟨h1, h2⟩ := h
  have : d.ps.length ≠ 0 := fun z => h2 (List.length_eq_zero_iff.mp z)
  rw [List.length_tail]
  omega
theorem clsK_of {T : Tab} {c : Cdf} {m : Nat} (C : ClsD W.K mg W c) (h : TF P w W.K mg base W T k) : ClsK P w W.K mg base W (k + 2) (c.ci T m) := by
  have own : ∀ {d : Df} {f : Addr}, OwnD W.K d.ps.length f d → IoB d → OwnK P w W.K mg base W (k + 2) ((d.mi T m).io.length + 1) f (d.mi T m).F := fun {d f} D hb => by
    have q := D.own (m := m) h
    rw [← tail_len hb] at q
    exact q
  refine ⟨C.here, C.cls, C.fld, ?_, fun fi hf => ?_, fun fi hf => ?_, fun f F hf => ?_, fun f F hf => ?_, fun f F hf => ?_, fun f F hf => ?_, fun F hf => ?_, C.cvals⟩
  · obtain ⟨hb, f, fd, its, dv, M, D, v1, v2, sh⟩ := C.ini
    have q := D.fng h m
    rw [← tail_len hb] at q
    exact ⟨f, k + 1, fd, c.ini.ps, its, dv, M, q, by omega, v1, v2, sh⟩
  · obtain ⟨d, hd, rfl⟩ := List.mem_map.mp hf
    obtain ⟨hb, f, fd, its, q1, D, v1, sh⟩ := C.ms d hd
    have q := D.fng h m
    rw [← tail_len hb] at q
    exact ⟨f, k + 1, fd, d.ps, its, q1, q, by omega, v1, sh⟩
  · obtain ⟨d, hd, rfl⟩ := List.mem_map.mp hf
    obtain ⟨hb, mc, p, g, q1, q2, q3⟩ := C.cms d hd
    exact ⟨mc, p, g, q1, q2, own q3 hb⟩
  · obtain ⟨d, hd, rfl⟩ := lookup_map (f := fun d : Df => d.F T m) hf
    obtain ⟨p, g, q1, q2⟩ := C.props _ hd
    exact ⟨p, g, q1, q2.own h⟩
  · obtain ⟨d, hd, rfl⟩ := lookup_map (f := fun d : Df => d.F T m) hf
    obtain ⟨g, q1, q2⟩ := C.bins _ hd
    exact ⟨g, q1, q2.own h⟩
  · obtain ⟨d, hd, rfl⟩ := lookup_map (f := fun d : Df => d.F T m) hf
    obtain ⟨g, q1, q2⟩ := C.rbins _ hd
    exact ⟨g, q1, q2.own h⟩
  · obtain ⟨d, hd, rfl⟩ := lookup_map (f := fun d : Df => d.F T m) hf
    obtain ⟨g, q1, q2⟩ := C.uns _ hd
    exact ⟨g, q1, q2.own h⟩
  · have hf' : (c.eq.map fun d => d.F T m) = some F := hf
    simp only [Option.map_eq_some_iff] at hf'
    obtain ⟨d, hd, rfl⟩ := hf'
    obtain ⟨⟨g, q1, q2⟩, q3⟩ := C.eq d hd
    exact ⟨⟨g, q1, q2.own h⟩, q3⟩
theorem tab_ok (h : PrgOk W.K mg W p) : ∀ i, TF P w W.K mg base W (tab p i) (2 * i + 4)
  | 0 => ⟨fun fi hf => absurd (show fi ∈ ([] : List Fi) from hf) (List.not_mem_nil), h.cons, fun x b e _ _ => h.blt x b e, fun x e _ _ => h.tyn x e, fun ci hc => absurd (show ci ∈ ([] : List Ci) from hc) (List.not_mem_nil), h.isi, fun x e _ _ => h.gcd x e, fun _ => h.rng, fun _ => h.enm, fun _ => h.zip, fun _ => h.set, by omega, fun x e => (by cases (show ([] : List Str).contains x = true from e)), fun c fld e => (by cases (show ([] : List (Nat × Str)).lookup c = some fld from e))⟩
  | i + 1 => by
    have t := tab_ok h i
    refine ⟨fun fi hf => ?_, h.cons, fun x b e _ _ => h.blt x b e, fun x e _ _ => h.tyn x e, fun ci hc => ?_, h.isi, fun x e _ _ => h.gcd x e, fun _ => h.rng, fun _ => h.enm, fun _ => h.zip, fun _ => h.set, by omega, fun x e => ?_, fun c fld e => ?_⟩
    rotate_right
    · obtain ⟨f, q1, q2, q3⟩ := h.walk c fld e
      exact ⟨f, q1, q2, q3 _ _ _⟩
    rotate_right
    · obtain ⟨f, q1, q2⟩ := h.keys x e
      exact ⟨f, q1, q2 _ _ _⟩
    · obtain ⟨d, hd, rfl⟩ := List.mem_map.mp hf
      obtain ⟨hb, f, fd, its, dv, D, v1, v2, sh, m1, kp⟩ := h.fns d hd
      have q := D.fng t p.fuel
      rw [← hb.1] at q
      exact ⟨f, 2 * i + 4 + 1, fd, its, dv, q, by omega, v1, v2, sh, m1, kp⟩
    · obtain ⟨c, hc2, rfl⟩ := List.mem_map.mp hc
      exact clsK_of (h.cls c hc2) t
end
end Den
end

section
set_option Elab.async false
set_option linter.all false
set_option maxRecDepth 100000
set_option maxHeartbeats 4000000
/-! DenV: from what the head knows to what the table asks. -/
namespace Den
open PySem L2 PyProof.Rows
def AllP {α : Type} (P : α → Prop) : List α → Prop
  | [] => True
  | a :: l => P a ∧ AllP P l
theorem allP {α : Type} {P : α → Prop} : ∀ {l : List α}, AllP P l → ∀ a ∈ l, P a
  | [], _, a, h => by cases h
  | b :: l, ⟨h1, h2⟩, a, h => by
    rcases List.mem_cons.mp h with e | e
    · rw [e]; exact h1
    · exact allP h2 a e
/-- the def at hand -/
abbrev fdOf (name qual : Str) (st : Stmt) (dV kV doc pm : Value) (an : Option Addr) (cdv ct : Value) : FuncData := PySem.W.fnOf name qual (defArgs st) (defBody st) (defScope st) dV kV doc pm an cdv ct
/-- what is decided of a def by its text alone -/
structure DfSt (d : Df) (st : Stmt) : Prop where
  body : d.body = defBody st
  S : FnScope d.N d.ps (defScope st)
  names : (defScope st).names = d.names
  io : IoB d
/-- its calls without defaults -/
def ShsN (d : Df) (st : Stmt) : Prop := ∀ (K : PySem.W.Frag) (name qual : Str) (kV doc pm : Value) (an : Option Addr) (cdv ct : Value), d.ds = [] ∧ AllP (ShOk K (fdOf name qual st .none kV doc pm an cdv ct) d.ps []) d.shs
def ShsM (d : Df) (st : Stmt) : Prop := ∀ (K : PySem.W.Frag) (name qual : Str) (kV doc pm : Value) (an : Option Addr) (cdv ct : Value), d.ds = [] ∧ AllP (ShOk1 K (fdOf name qual st .none kV doc pm an cdv ct) d.ps []) d.shs
/-- .. with defaults -/
def ShsD (d : Df) (st : Stmt) : Prop := ∀ (K : PySem.W.Frag) (name qual : Str) (kV doc pm : Value) (an : Option Addr) (cdv ct : Value) (T : Addr) (o : Obj) (its : List Value) (n : Nat), K.lookup T = some o → o.data = .seq its.toArray n → its.length = d.ds.length → AllP (ShOk K (fdOf name qual st (.ref T) kV doc pm an cdv ct) d.ps its) d.shs
def ShsE (d : Df) (st : Stmt) : Prop := ∀ (K : PySem.W.Frag) (name qual : Str) (kV doc pm : Value) (an : Option Addr) (cdv ct : Value) (T : Addr) (o : Obj) (its : List Value) (n : Nat), K.lookup T = some o → o.data = .seq its.toArray n → its.length = d.ds.length → AllP (ShOk1 K (fdOf name qual st (.ref T) kV doc pm an cdv ct) d.ps its) d.shs
def BndN (d : Df) (st : Stmt) : Prop := ∀ (K : PySem.W.Frag) (name qual : Str) (kV doc pm : Value) (an : Option Addr) (cdv ct : Value), Binds K (fdOf name qual st .none kV doc pm an cdv ct) d.ps []
section
variable {K : PySem.W.Frag} {h : Heap} {mg : Str → Option Value} {W : Pw} {d : Df} {st : Stmt} {f : Addr} {name qual : Str} {dw kV doc pm cdv ct oc : Value} {an od : Option Addr} {osl : Array (Option Value)}
theorem defAt_of (D : DfSt d st) (l : K.lookup f = some ⟨oc, od, .func (fdOf name qual st dw kV doc pm an cdv ct), osl⟩) (c : PySem.W.codeIn K cdv qual = true) : DefAt K d f (fdOf name qual st dw kV doc pm an cdv ct) := by
  refine ⟨name, qual, defArgs st, defScope st, dw, kV, doc, pm, cdv, ct, oc, an, od, osl, ?_, l, c, D.S, D.names⟩
  rw [D.body]
theorem fnD_of (D : DfSt d st) (B : ShsN d st) (X : K.In h) (G : h.Ns mainGlobals mg) (a : PySem.W.nsIn K mainGlobals d.nm = some (some (.ref f))) (l : K.lookup f = some ⟨oc, od, .func (fdOf name qual st .none kV doc pm an cdv ct), osl⟩) (c : PySem.W.codeIn K cdv qual = true) (k : PySem.W.keepIn K (.ref f) = true) : FnD K mg W d := by
  obtain ⟨e, b⟩ := B K name qual kV doc pm an cdv ct
  exact ⟨D.io, f, _, [], [], defAt_of D l c, .nil, fun G => by rw [e]; exact .nil, allP b, PySem.W.mg_of X G a, k⟩
theorem ownD_of {n : Nat} (D : DfSt d st) (B : BndN d st) (hn : d.ps.length = n) (l : K.lookup f = some ⟨oc, od, .func (fdOf name qual st .none kV doc pm an cdv ct), osl⟩) (c : PySem.W.codeIn K cdv qual = true) : OwnD K n f d := ⟨_, defAt_of D l c, hn, B K name qual kV doc pm an cdv ct⟩
/-- a method -/
theorem msD_of {C : Addr} (D : DfSt d st) (B : ShsM d st) (a : PySem.W.findIn K (.ref C) d.nm = some (some (.ref f))) (i : PySem.W.isFn K (.ref f) = true) (k : PySem.W.keepIn K (.ref f) = true) (l : K.lookup f = some ⟨oc, od, .func (fdOf name qual st .none kV doc pm an cdv ct), osl⟩) (c : PySem.W.codeIn K cdv qual = true) :
    IoB d ∧ ∃ f fd its, Meth K C d.nm f ∧ DefAt K d f fd ∧ Vals (d.ds.map dV) its ∧ ∀ sh ∈ d.shs, ShOk1 K fd d.ps its sh := by
  obtain ⟨e, b⟩ := B K name qual kV doc pm an cdv ct
  exact ⟨D.io, f, _, [], ⟨a, i, k⟩, defAt_of D l c, by rw [e]; exact .nil, allP b⟩
/-- __init__ without defaults -/
theorem iniN_of {C : Addr} (D : DfSt d st) (B : ShsM d st) (mk : PySem.W.makesIn K C = true) (a : PySem.W.findIn K (.ref C) "__init__" = some (some (.ref f))) (i : PySem.W.isFn K (.ref f) = true) (k : PySem.W.keepIn K (.ref C) = true) (l : K.lookup f = some ⟨oc, od, .func (fdOf name qual st .none kV doc pm an cdv ct), osl⟩) (c : PySem.W.codeIn K cdv qual = true) :
    IoB d ∧ ∃ f fd its dv, Mk K C f ∧ DefAt K d f fd ∧ Vals dv its ∧ (∀ W G, RpAll W G dv d.ds) ∧ ∀ sh ∈ d.shs, ShOk1 K fd d.ps its sh := by
  obtain ⟨e, b⟩ := B K name qual kV doc pm an cdv ct
  exact ⟨D.io, f, _, [], [], ⟨mk, a, i, k⟩, defAt_of D l c, .nil, fun W G => by rw [e]; exact .nil, allP b⟩
theorem iniD_of {C T : Addr} {o : Obj} {its : List Value} {n : Nat} (D : DfSt d st) (B : ShsE d st) (hfl : d.ds.all dFlat = true) (mk : PySem.W.makesIn K C = true) (a : PySem.W.findIn K (.ref C) "__init__" = some (some (.ref f))) (i : PySem.W.isFn K (.ref f) = true) (k : PySem.W.keepIn K (.ref C) = true)
    (l : K.lookup f = some ⟨oc, od, .func (fdOf name qual st (.ref T) kV doc pm an cdv ct), osl⟩) (c : PySem.W.codeIn K cdv qual = true) (lT : K.lookup T = some o) (oT : o.data = .seq its.toArray n) (v : Vals (d.ds.map dV) its) :
    IoB d ∧ ∃ f fd its dv, Mk K C f ∧ DefAt K d f fd ∧ Vals dv its ∧ (∀ W G, RpAll W G dv d.ds) ∧ ∀ sh ∈ d.shs, ShOk1 K fd d.ps its sh :=
  ⟨D.io, f, _, its, _, ⟨mk, a, i, k⟩, defAt_of D l c, v, fun W G => dV_rp hfl, allP (B K name qual kV doc pm an cdv ct T o its n lT oT (by have := v.length; simpa using this.symm))⟩
theorem cmsD_of {C p : Addr} {mc : Value} {rest : List Value} (D : DfSt d st) (B : BndN d st) (r : PySem.W.readsIn K C mc = true) (ga : PySem.W.specialIn K (.ref C) "__getattribute__" = some (some (.builtin "type.__getattribute__")))
    (a : PySem.W.findCls K (.ref C) mc d.nm = some (.get (.builtin "classmethod.__get__") (.ref p) .none (.ref C))) (rc : PySem.W.recIn K p "classmethod" = some (.ref f :: rest)) (fi : PySem.W.fnIn K f = true)
    (l : K.lookup f = some ⟨oc, od, .func (fdOf name qual st .none kV doc pm an cdv ct), osl⟩) (c : PySem.W.codeIn K cdv qual = true) : IoB d ∧ ∃ mc p g, ClX.CRead K C mc ∧ ClX.CMet K C mc d.nm p g ∧ OwnD K d.ps.length g d :=
  ⟨D.io, mc, p, f, ⟨r, ga⟩, ⟨a, ⟨rest, rc⟩, fi⟩, ownD_of D B rfl l c⟩
theorem propD_of {C p : Addr} {x : Str} {rest : List Value} (D : DfSt d st) (B : BndN d st) (h1 : d.ps.length = 1) (a : PySem.W.findIn K (.ref C) x = some (some (.ref p))) (g : PySem.W.specialIn K (.ref p) "__get__" = some (some (.builtin "property.__get__"))) (tk : PySem.W.takesIn K (.ref p) = some true)
    (rc : PySem.W.recIn K p "property" = some (.ref f :: rest)) (l : K.lookup f = some ⟨oc, od, .func (fdOf name qual st .none kV doc pm an cdv ct), osl⟩) (c : PySem.W.codeIn K cdv qual = true) : ∃ p g, PropOf K C x p g ∧ OwnD K 1 g d :=
  ⟨p, f, ⟨a, g, tk, ⟨rest, rc⟩⟩, ownD_of D B h1 l c⟩
theorem binD_of {C : Addr} {nm : String} {rc fo ro : Option Value} (D : DfSt d st) (B : BndN d st) (h2 : d.ps.length = 2) (a : PySem.W.findIn K (.ref C) (PySem.dunder nm) = some (some (.ref f))) (i : PySem.W.isFn K (.ref f) = true) (sf : PySem.W.selfFirst K C = true)
    (r : PySem.W.findIn K (.ref C) (dunderR nm) = some rc) (hr : rc = none ∨ ∃ g : Addr, rc = some (.ref g)) (i1 : PySem.W.findIn K (.type "int") (PySem.dunder nm) = some fo) (i2 : PySem.W.findIn K (.type "int") (dunderR nm) = some ro) (sb : PySem.W.subIn K (.type "int") (.ref C) = some false)
    (l : K.lookup f = some ⟨oc, od, .func (fdOf name qual st .none kV doc pm an cdv ct), osl⟩) (c : PySem.W.codeIn K cdv qual = true) : ∃ f, OwnBin K C f nm ∧ OwnD K 2 f d := ⟨f, ⟨a, i, sf, ⟨rc, r, hr⟩, ⟨fo, i1⟩, ⟨ro, i2⟩, sb⟩, ownD_of D B h2 l c⟩
theorem rbinD_of {C g : Addr} {nm : String} (D : DfSt d st) (B : BndN d st) (h2 : d.ps.length = 2) (a : PySem.W.findIn K (.ref C) (dunderR nm) = some (some (.ref f))) (i : PySem.W.isFn K (.ref f) = true) (sf : PySem.W.selfFirst K C = true)
    (r : PySem.W.findIn K (.ref C) (PySem.dunder nm) = some (some (.ref g))) (sb : PySem.W.subIn K (.ref C) (.type "int") = some false)
    (l : K.lookup f = some ⟨oc, od, .func (fdOf name qual st .none kV doc pm an cdv ct), osl⟩) (c : PySem.W.codeIn K cdv qual = true) : ∃ f, OwnRBin K C f nm ∧ OwnD K 2 f d := ⟨f, ⟨a, i, sf, ⟨g, r⟩, sb⟩, ownD_of D B h2 l c⟩
theorem unD_of {C : Addr} {nm : Str} (D : DfSt d st) (B : BndN d st) (h1 : d.ps.length = 1) (a : PySem.W.findIn K (.ref C) nm = some (some (.ref f))) (i : PySem.W.isFn K (.ref f) = true)
    (l : K.lookup f = some ⟨oc, od, .func (fdOf name qual st .none kV doc pm an cdv ct), osl⟩) (c : PySem.W.codeIn K cdv qual = true) : ∃ f, OwnUn K C f nm ∧ OwnD K 1 f d := ⟨f, ⟨a, i⟩, ownD_of D B h1 l c⟩
theorem eqD_of {C : Addr} (D : DfSt d st) (B : BndN d st) (h2 : d.ps.length = 2) (a : PySem.W.findIn K (.ref C) "__eq__" = some (some (.ref f))) (i : PySem.W.isFn K (.ref f) = true) (ne : PySem.W.findIn K (.ref C) "__ne__" = some (some (.builtin "object.__ne__"))) (ob : PySem.W.mroIn K C (.type "object") = some true)
    (l : K.lookup f = some ⟨oc, od, .func (fdOf name qual st .none kV doc pm an cdv ct), osl⟩) (c : PySem.W.codeIn K cdv qual = true) (nf : AllP (fun T => PySem.W.notFirst K C (.type T) = true) eqTys) : (∃ f, OwnEq K C f ∧ OwnD K 2 f d) ∧ ∀ T ∈ eqTys, PySem.W.notFirst K C (.type T) = true :=
  ⟨⟨f, ⟨a, i, ne, ob⟩, ownD_of D B h2 l c⟩, allP nf⟩
/-- .. whatever its defaults, none of them used -/
def ShsA (d : Df) (st : Stmt) : Prop := ∀ (K : PySem.W.Frag) (name qual : Str) (kV doc pm : Value) (an : Option Addr) (cdv ct : Value) (T : Addr) (o : Obj) (its : List Value) (n : Nat), K.lookup T = some o → o.data = .seq its.toArray n → its.length = 1 → d.ds = [] ∧ AllP (ShOk1 K (fdOf name qual st (.ref T) kV doc pm an cdv ct) d.ps []) d.shs
theorem iniA_of {C T : Addr} {o : Obj} {its : List Value} {n : Nat} (D : DfSt d st) (B : ShsA d st) (mk : PySem.W.makesIn K C = true) (a : PySem.W.findIn K (.ref C) "__init__" = some (some (.ref f))) (i : PySem.W.isFn K (.ref f) = true) (k : PySem.W.keepIn K (.ref C) = true)
    (l : K.lookup f = some ⟨oc, od, .func (fdOf name qual st (.ref T) kV doc pm an cdv ct), osl⟩) (c : PySem.W.codeIn K cdv qual = true) (lT : K.lookup T = some o) (oT : o.data = .seq its.toArray n) (hl : its.length = 1) :
    IoB d ∧ ∃ f fd its dv, Mk K C f ∧ DefAt K d f fd ∧ Vals dv its ∧ (∀ W G, RpAll W G dv d.ds) ∧ ∀ sh ∈ d.shs, ShOk1 K fd d.ps its sh := by
  obtain ⟨e, b⟩ := B K name qual kV doc pm an cdv ct T o its n lT oT hl
  exact ⟨D.io, f, _, [], [], ⟨mk, a, i, k⟩, defAt_of D l c, .nil, fun W G => by rw [e]; exact .nil, allP b⟩
/-- a class's constant -/
theorem cvalD_of {C : Addr} {mc u : Value} {v : V} {dd : D} {x : Str} (r : PySem.W.readsIn K C mc = true) (ga : PySem.W.specialIn K (.ref C) "__getattribute__" = some (some (.builtin "type.__getattribute__"))) (cv : ClX.CVal K C mc x v u) (rp : ∀ W G, Rp W G v dd) :
    ∃ mc v u, ClX.CRead K C mc ∧ ClX.CVal K C mc x v u ∧ ∀ W G, Rp W G v dd := ⟨mc, v, u, ⟨r, ga⟩, cv, rp⟩
/-- a def that is a key of texts -/
def KeySt (st : Stmt) (x : Str) : Prop := ∃ p1 p2 p3 p4 k p5 p6, defBody st = [.Return (some (.Tuple [.Call (.Name "len" p1) [.Name x p2] [] p3, .Name x p4] k p5)) p6]
theorem keyD_of {x : Str} (D : DfSt d st) (B : BndN d st) (ks : KeySt st x) (hN : d.N = [x]) (hp : d.ps = [x]) (h1 : (defScope st).names.lookup x = some .local) (h2 : (defScope st).names.lookup ("len" : Str) = some .globalImplicit) (h3 : (x == ("__debug__" : Str)) = false) (X : K.In h) (G : h.Ns mainGlobals mg) (hm : mg "len" = none)
    (a : PySem.W.nsIn K mainGlobals d.nm = some (some (.ref f))) (l : K.lookup f = some ⟨oc, od, .func (fdOf name qual st .none kV doc pm an cdv ct), osl⟩) (c : PySem.W.codeIn K cdv qual = true) :
    ∃ f, mg d.nm = some (.ref f) ∧ ∀ P w base, KeyLen P w K mg base f := by
  refine ⟨f, PySem.W.mg_of X G a, fun P w base => ?_⟩
  obtain ⟨p1, p2, p3, p4, k, p5, p6, e⟩ := ks
  have S := D.S
  rw [hN, hp] at S
  have b := B K name qual kV doc pm an cdv ct
  rw [hp] at b
  unfold fdOf at l b
  rw [e] at l b
  exact keyLen_of l c S b h1 h2 hm h3
/-- a class walked by the list at fld -/
def WalkSt (st : Stmt) (x fld : Str) : Prop := ∃ p1 p2 p3 p4 p5, defBody st = [.Return (some (.Call (.Name "iter" p1) [.Attribute (.Name x p2) fld p3] [] p4)) p5]
theorem walkD_of {C : Addr} {x fld : Str} (D : DfSt d st) (B : BndN d st) (ks : WalkSt st x fld) (hN : d.N = [x]) (hp : d.ps = [x]) (h1 : (defScope st).names.lookup x = some .local) (h2 : (defScope st).names.lookup ("iter" : Str) = some .globalImplicit) (h3 : (x == ("__debug__" : Str)) = false) (h4 : (x == ("__classdict__" : Str)) = false)
    (X : K.In h) (G : h.Ns mainGlobals mg) (hm : PySem.W.nsIn K mainGlobals "iter" = some none) (cl : Cls K C) (na : NoAttr K C fld) (a : PySem.W.findIn K (.ref C) "__iter__" = some (some (.ref f))) (i : PySem.W.isFn K (.ref f) = true) (l : K.lookup f = some ⟨oc, od, .func (fdOf name qual st .none kV doc pm an cdv ct), osl⟩) (c : PySem.W.codeIn K cdv qual = true) :
    ∃ f, PySem.W.findIn K (.ref C) "__iter__" = some (some (.ref f)) ∧ PySem.W.isFn K (.ref f) = true ∧ ∀ P w base, IterFld P w K mg base C f fld := by
  refine ⟨f, a, i, fun P w base => ?_⟩
  obtain ⟨p1, p2, p3, p4, p5, e⟩ := ks
  have S := D.S
  rw [hN, hp] at S
  have b := B K name qual kV doc pm an cdv ct
  rw [hp] at b
  unfold fdOf at l b
  rw [e] at l b
  exact iterFld_of l c S b h1 h2 (PySem.W.mg_none_of X G hm) h3 h4 cl na
/-- the law itself -/
structure LawD (K : PySem.W.Frag) (mg : Str → Option Value) (d : Df) (x : Str) : Prop where
  ex : ∃ f fd, DefAt K d f fd ∧ mg d.nm = some (.ref f) ∧ d.ps = [x] ∧ ∀ (s : Shared) (u : Value), BindsTo s fd ⟨[u], []⟩ [(x, u)]
def LawB (st : Stmt) (x : Str) : Prop := ∀ (name qual : Str) (kV doc pm : Value) (an : Option Addr) (cdv ct : Value) (s : Shared) (u : Value), BindsTo s (fdOf name qual st .none kV doc pm an cdv ct) ⟨[u], []⟩ [(x, u)]
theorem lawD_of {x : Str} (D : DfSt d st) (B : LawB st x) (hp : d.ps = [x]) (X : K.In h) (G : h.Ns mainGlobals mg) (a : PySem.W.nsIn K mainGlobals d.nm = some (some (.ref f))) (l : K.lookup f = some ⟨oc, od, .func (fdOf name qual st .none kV doc pm an cdv ct), osl⟩) (c : PySem.W.codeIn K cdv qual = true) : LawD K mg d x :=
  ⟨f, _, defAt_of D l c, PySem.W.mg_of X G a, hp, B name qual kV doc pm an cdv ct⟩
end
/-- from the table to the law's promise -/
theorem end_of {P : Program} {w : World} {h : Heap} {mg : Str → Option Value} {W : Pw} {p : Prg} {dl : Df} {x : Str} {fa : Addr} {n : Nat} (X : W.K.In h) (hfa : mg dl.nm = some (.ref fa)) (L : LawD W.K mg dl x) (ok : PrgOk W.K mg W p) :
    ∃ (W : Pw) (fd : FuncData), W.K.In h ∧ (∀ (s : Shared) (u : Value), BindsTo s fd ⟨[u], []⟩ [(x, u)]) ∧ ∀ base : Heap, W.K.In base → base.Ns mainGlobals mg → FnG P w W.K mg base (2 * n + 5) fa fd [x] (spF W 1 (dl.F (tab p n) p.fuel)) := by
  obtain ⟨f, fd, D, m, hp, b⟩ := L.ex
  rw [hfa] at m
  cases m
  refine ⟨W, fd, X, b, fun base _ _ => ?_⟩
  have q := D.fng (tab_ok (base := base) (P := P) (w := w) ok n) p.fuel
  rw [hp] at q
  exact q
theorem mem_of_lookup {α β : Type} [BEq α] [LawfulBEq α] {x : α} {z : β} : ∀ {l : List (α × β)}, l.lookup x = some z → (x, z) ∈ l
  | [], h => by cases h
  | (a, b) :: l, h => by
    rw [List.lookup_cons] at h
    by_cases e : x == a
    · simp only [e] at h
      cases h
      rw [beq_iff_eq] at e
      rw [e]; exact List.mem_cons_self
    · have e' : (x == a) = false := by simpa using e
      simp only [e'] at h
      exact List.mem_cons_of_mem _ (mem_of_lookup h)
theorem ty_eq {a b : Ty} (h : (a == b) = true) : a = b := by
  cases a with
  | inl x => cases b with
    | inl y => have h2 : x = y := eq_of_beq (show (x == y) = true from h); rw [h2]
    | inr y => cases h
  | inr x => cases b with
    | inl y => cases h
    | inr y => have h2 : x = y := eq_of_beq (show (x == y) = true from h); rw [h2]
theorem ty_rfl (a : Ty) : (a == a) = true := by
  cases a with
  | inl x => exact beq_self_eq_true x
  | inr x => exact beq_self_eq_true x
theorem ty_lawful : LawfulBEq Ty := { eq_of_beq := ty_eq, rfl := ty_rfl _ }
theorem isi_mem {t u : Ty} {b : Bool} {tb : IsiT} (h : tb.lookup (t, u) = some b) : ((t, u), b) ∈ tb := by
  have := ty_lawful
  exact mem_of_lookup h
theorem isiOk_of {W : Pw} {tb : IsiT} {cs : List Nat} (a : AllP (fun e => PySem.W.kitOne W.K (tyVal W e.1.1) (tyVal W e.1.2) = some e.2) tb) (b : AllP (fun c => IsiC W.K (W.cl c)) cs) (hc : (tb.all fun e => match e.1.1 with
    | .inl _ => true
    | .inr c => cs.contains c) = true) : IsiOk W tb := by
  refine ⟨fun t u r h => allP a _ (isi_mem h), fun c u r h => ?_⟩
  have m := List.all_eq_true.mp hc _ (isi_mem h)
  exact allP b c (by simpa using m)
/-- an own class at C -/
structure ClsC (K : PySem.W.Frag) (mg : Str → Option Value) (C : Addr) (c : Cdf) : Prop where
  here : mg c.nm = some (.ref C)
  pg : PySem.W.plainGet K C Str.empty = true
  hd : PySem.W.hasDictIn K C = true
  po : PySem.W.plainOver K C = true
  sa : PySem.W.findIn K (.ref C) "__setattr__" = some (some (.builtin "object.__setattr__"))
  fld : AllP (fun f => PySem.W.findIn K (.ref C) f = some none) c.flds
  ini : IoB c.ini ∧ ∃ f fd its dv, Mk K C f ∧ DefAt K c.ini f fd ∧ Vals dv its ∧ (∀ W G, RpAll W G dv c.ini.ds) ∧ ∀ sh ∈ c.ini.shs, ShOk1 K fd c.ini.ps its sh
  ms : AllP (fun d => IoB d ∧ ∃ f fd its, Meth K C d.nm f ∧ DefAt K d f fd ∧ Vals (d.ds.map dV) its ∧ ∀ sh ∈ d.shs, ShOk1 K fd d.ps its sh) c.ms
  cms : AllP (fun d => IoB d ∧ ∃ mc p g, ClX.CRead K C mc ∧ ClX.CMet K C mc d.nm p g ∧ OwnD K d.ps.length g d) c.cms
  props : AllP (fun q => ∃ p g, PropOf K C q.1 p g ∧ OwnD K 1 g q.2) c.props
  bins : AllP (fun q => ∃ f, OwnBin K C f q.1 ∧ OwnD K 2 f q.2) c.bins
  rbins : AllP (fun q => ∃ f, OwnRBin K C f q.1 ∧ OwnD K 2 f q.2) c.rbins
  uns : AllP (fun q => ∃ f, OwnUn K C f q.1 ∧ OwnD K 1 f q.2) c.uns
  eq : ∀ d, c.eq = some d → (∃ f, OwnEq K C f ∧ OwnD K 2 f d) ∧ ∀ T ∈ eqTys, PySem.W.notFirst K C (.type T) = true
  cvals : AllP (fun q => ∃ mc v u, ClX.CRead K C mc ∧ ClX.CVal K C mc q.1 v u ∧ ∀ W G, Rp W G v q.2) c.cvals
theorem ClsC.clsD {K : PySem.W.Frag} {mg : Str → Option Value} {W : Pw} {C : Addr} {c : Cdf} (h : ClsC K mg C c) (e : W.cl c.c = C) : ClsD K mg W c := by
  subst e
  refine ⟨h.here, ⟨h.pg, h.hd, h.po, h.sa⟩, allP h.fld, ?_, allP h.ms, allP h.cms, allP h.props, allP h.bins, allP h.rbins, allP h.uns, h.eq, fun f d q => ?_⟩
  · obtain ⟨q1, f, fd, its, dv, q2, q3, q4, q5, q6⟩ := h.ini
    exact ⟨q1, f, fd, its, dv, q2, q3, q4, fun G => q5 W G, q6⟩
  · obtain ⟨mc, v, u, q1, q2, q3⟩ := allP h.cvals _ (mem_of_lookup q)
    exact ⟨mc, v, u, q1, q2, fun G => q3 W G⟩
end Den
end

section
set_option Elab.async false
set_option linter.all false
set_option maxRecDepth 100000
set_option maxHeartbeats 4000000
/-! DenEv: what a denotation answers, rule by rule. -/
namespace Den
open PySem L2
inductive SetAt {α : Type} : List α → Nat → α → List α → Prop
  | zero {a : α} {l : List α} {x : α} : SetAt (a :: l) 0 x (x :: l)
  | succ {a : α} {l : List α} {i : Nat} {x : α} {l' : List α} : SetAt l i x l' → SetAt (a :: l) (i + 1) x (a :: l')
theorem SetAt.eq {α : Type} {x : α} : ∀ {l : List α} {i : Nat} {l' : List α}, SetAt l i x l' → l.set i x = l'
  | _, _, _, .zero => rfl
  | _, _, _, .succ h => by rw [List.set_cons_succ, SetAt.eq h]
section
variable {env e1 e2 e3 e4 : Env'} {P P' P'' : PF} {A A' : PAF}
theorem ev_c {d : D} : pC d env = some (.dat d, env) := rfl
theorem ev_vd {i : Nat} {d : D} (h : env[i]? = some (.dat d)) : pVar i env = some (.dat d, env) := by unfold pVar; rw [h]
theorem ev_vo {i : Nat} {d : D} (h : env[i]? = some (.own d)) : pVar i env = some (.slot i, env) := by unfold pVar; rw [h]
theorem ev_vb {i : Nat} {d : D} (h : env[i]? = some (.bor d)) : pVar i env = some (.slot i, env) := by unfold pVar; rw [h]
theorem ev_bin {f : D → D → Option RV} {a b z : RV} {x y : D} (h1 : P env = some (a, e1)) (h2 : P' e1 = some (b, e2)) (h3 : a.cont e2 = some x) (h4 : b.cont e2 = some y) (h5 : f x y = some z) : pBin f P P' env = some (z, e2) := by
  simp only [pBin, h1, h2, h3, h4, h5, Option.bind_eq_bind, Option.bind_some]
/-- what stands behind the operands -/
def binK (l r : Nat → Option DF) (f : D → D → Option RV) (a b : RV) (e2 : Env') : Option (RV × Env') := match a.cls with
  | some c => (l c).bind fun F => if sideB c b then fnTail [false, false] F [a, b] e2 else none
  | none => match b.cls with
    | some c => (r c).bind fun F => if intB a then fnTail [false, false] F [b, a] e2 else none
    | none => (a.cont e2).bind fun x => (b.cont e2).bind fun y => (f x y).bind fun z => some (z, e2)
theorem ev_binV {l r : Nat → Option DF} {f : D → D → Option RV} {a b : RV} {o : RV × Env'} (h1 : P env = some (a, e1)) (h2 : P' e1 = some (b, e2)) (h3 : binK l r f a b e2 = some o) : pBinV l r f P P' env = some o := by
  unfold pBinV
  rw [h1]; show Option.bind (P' e1) _ = _
  rw [h2]; exact h3
theorem binK_l {l r : Nat → Option DF} {f : D → D → Option RV} {a b : RV} {c : Nat} {F : DF} {o : RV × Env'} (h1 : a.cls = some c) (h2 : l c = some F) (h3 : sideB c b = true) (h4 : fnTail [false, false] F [a, b] e2 = some o) : binK l r f a b e2 = some o := by
  unfold binK
  rw [h1]; show Option.bind (l c) _ = _
  rw [h2]; show (if _ then _ else _) = _
  rw [if_pos h3]; exact h4
theorem binK_r {l r : Nat → Option DF} {f : D → D → Option RV} {a b : RV} {c : Nat} {F : DF} {o : RV × Env'} (h0 : a.cls = none) (h1 : b.cls = some c) (h2 : r c = some F) (h3 : intB a = true) (h4 : fnTail [false, false] F [b, a] e2 = some o) : binK l r f a b e2 = some o := by
  unfold binK
  rw [h0]; show (match b.cls with | some c => _ | none => _) = _
  rw [h1]; show Option.bind (r c) _ = _
  rw [h2]; show (if _ then _ else _) = _
  rw [if_pos h3]; exact h4
theorem binK_d {l r : Nat → Option DF} {f : D → D → Option RV} {a b z : RV} {x y : D} (h0 : a.cls = none) (h1 : b.cls = none) (h3 : a.cont e2 = some x) (h4 : b.cont e2 = some y) (h5 : f x y = some z) : binK l r f a b e2 = some (z, e2) := by
  unfold binK
  rw [h0]; show (match b.cls with | some c => _ | none => _) = _
  rw [h1]; show Option.bind _ _ = _
  simp only [h3, h4, h5, Option.bind_some]
def unK (l : Nat → Option DF) (f : D → Option RV) (a : RV) (e1 : Env') : Option (RV × Env') := match a.cls with
  | some c => (l c).bind fun F => fnTail [false] F [a] e1
  | none => (a.cont e1).bind fun x => (f x).bind fun z => some (z, e1)
theorem ev_unV {l : Nat → Option DF} {f : D → Option RV} {a : RV} {o : RV × Env'} (h1 : P env = some (a, e1)) (h3 : unK l f a e1 = some o) : pUnV l f P env = some o := by
  unfold pUnV
  rw [h1]; exact h3
theorem unK_l {l : Nat → Option DF} {f : D → Option RV} {a : RV} {c : Nat} {F : DF} {o : RV × Env'} (h1 : a.cls = some c) (h2 : l c = some F) (h4 : fnTail [false] F [a] e1 = some o) : unK l f a e1 = some o := by
  unfold unK
  rw [h1]; show Option.bind (l c) _ = _
  rw [h2]; exact h4
theorem unK_d {l : Nat → Option DF} {f : D → Option RV} {a z : RV} {x : D} (h0 : a.cls = none) (h3 : a.cont e1 = some x) (h5 : f x = some z) : unK l f a e1 = some (z, e1) := by
  unfold unK
  rw [h0]; show Option.bind _ _ = _
  simp only [h3, h5, Option.bind_some]
def cmpK (neg : Bool) (l : Nat → Option DF) (f : D → D → Option RV) (a b : RV) (e2 : Env') : Option (RV × Env') := match a.cls with
  | some c => (l c).bind fun F => if eqSideB c b then trO neg (fnTail [false, false] F [a, b] e2) else none
  | none => (a.cont e2).bind fun x => (b.cont e2).bind fun y => (f x y).bind fun z => some (z, e2)
theorem ev_cmpV {neg : Bool} {l : Nat → Option DF} {f : D → D → Option RV} {a b : RV} {o : RV × Env'} (h1 : P env = some (a, e1)) (h2 : P' e1 = some (b, e2)) (h3 : cmpK neg l f a b e2 = some o) : pCmpV neg l f P P' env = some o := by
  unfold pCmpV
  rw [h1]; show Option.bind (P' e1) _ = _
  rw [h2]; exact h3
theorem cmpK_l {neg : Bool} {l : Nat → Option DF} {f : D → D → Option RV} {a b : RV} {c : Nat} {F : DF} {v : Bool} (h1 : a.cls = some c) (h2 : l c = some F) (h3 : eqSideB c b = true) (h4 : fnTail [false, false] F [a, b] e2 = some (.dat (.bl v), e3)) : cmpK neg l f a b e2 = some (.dat (.bl (if neg then !v else v)), e3) := by
  unfold cmpK
  rw [h1]; show Option.bind (l c) _ = _
  rw [h2]; show (if _ then _ else _) = _
  rw [if_pos h3, h4]; rfl
theorem cmpK_d {neg : Bool} {l : Nat → Option DF} {f : D → D → Option RV} {a b z : RV} {x y : D} (h0 : a.cls = none) (h3 : a.cont e2 = some x) (h4 : b.cont e2 = some y) (h5 : f x y = some z) : cmpK neg l f a b e2 = some (z, e2) := by
  unfold cmpK
  rw [h0]; show Option.bind _ _ = _
  simp only [h3, h4, h5, Option.bind_some]
def attrK (l : Nat → Option DF) (ok : Nat → Str → Bool) (f : Str) (a : RV) (e1 : Env') : Option (RV × Env') := match a.cls with
  | some c => (match l c with
    | some F => fnTail [false] F [a] e1
    | none => fldV ok f a e1)
  | none => fldV ok f a e1
theorem ev_attrV {l : Nat → Option DF} {ok : Nat → Str → Bool} {f : Str} {a : RV} {o : RV × Env'} (h1 : P env = some (a, e1)) (h3 : attrK l ok f a e1 = some o) : pAttrV l ok f P env = some o := by
  unfold pAttrV
  rw [h1]; exact h3
theorem attrK_l {l : Nat → Option DF} {ok : Nat → Str → Bool} {f : Str} {a : RV} {c : Nat} {F : DF} {o : RV × Env'} (h1 : a.cls = some c) (h2 : l c = some F) (h4 : fnTail [false] F [a] e1 = some o) : attrK l ok f a e1 = some o := by
  unfold attrK
  rw [h1]; show (match l c with | some F => _ | none => _) = _
  rw [h2]; exact h4
theorem fldV_of {ok : Nat → Str → Bool} {f : Str} {a : RV} {c : Nat} {fs : List (Str × D)} {z : D} (h1 : a.cont e1 = some (.obj c fs)) (h2 : ok c f = true) (h3 : fs.lookup f = some z) : fldV ok f a e1 = some (.dat z, e1) := by
  unfold fldV
  rw [h1]; show (if _ then _ else _) = _
  rw [if_pos h2, h3]; rfl
theorem attrK_f {l : Nat → Option DF} {ok : Nat → Str → Bool} {f : Str} {a : RV} {c : Nat} {o : RV × Env'} (h1 : a.cls = some c) (h2 : l c = none) (h4 : fldV ok f a e1 = some o) : attrK l ok f a e1 = some o := by
  unfold attrK
  rw [h1]; show (match l c with | some F => _ | none => _) = _
  rw [h2]; exact h4
theorem attrK_s {l : Nat → Option DF} {ok : Nat → Str → Bool} {f : Str} {a : RV} {o : RV × Env'} (h1 : a.cls = none) (h4 : fldV ok f a e1 = some o) : attrK l ok f a e1 = some o := by
  unfold attrK
  rw [h1]; exact h4
def reprK (l : Nat → Option DF) (rs : List RV) (e1 : Env') : Option (RV × Env') := match rs with
  | [ra] => (match ra.cls with
    | some c => (l c).bind fun F => strsO (fnTail [false] F [ra] e1)
    | none => (ra.cont e1).bind fun d => (reprD [d]).bind fun z => some (z, e1))
  | _ => none
theorem ev_reprV {l : Nat → Option DF} {rs : List RV} {o : RV × Env'} (h1 : A env = some (rs, e1)) (h3 : reprK l rs e1 = some o) : pReprV l A env = some o := by
  unfold pReprV
  rw [h1]; exact h3
theorem reprK_l {l : Nat → Option DF} {a : RV} {c : Nat} {F : DF} {x : Str} (h1 : a.cls = some c) (h2 : l c = some F) (h4 : fnTail [false] F [a] e1 = some (.dat (.str x), e2)) : reprK l [a] e1 = some (.dat (.str x), e2) := by
  unfold reprK
  dsimp only
  rw [h1]; show Option.bind (l c) _ = _
  rw [h2]; show strsO _ = _
  rw [h4]; rfl
theorem reprK_d {l : Nat → Option DF} {a z : RV} {x : D} (h0 : a.cls = none) (h3 : a.cont e1 = some x) (h5 : reprD [x] = some z) : reprK l [a] e1 = some (z, e1) := by
  unfold reprK
  dsimp only
  rw [h0]; show Option.bind _ _ = _
  simp only [h3, h5, Option.bind_some]
inductive BackAt : Env' → List Bool → List RV → List SV → Env' → Prop
  | nil {env : Env'} : BackAt env [] [] [] env
  | slot {env e1 e2 : Env'} {j : Nat} {d : D} {io : List Bool} {rvs : List RV} {outs : List SV} : SetAt env j (.own d) e1 → BackAt e1 io rvs outs e2 → BackAt env (true :: io) (.slot j :: rvs) (.own d :: outs) e2
  | own {env e2 : Env'} {d d' : D} {io : List Bool} {rvs : List RV} {outs : List SV} : BackAt env io rvs outs e2 → BackAt env (true :: io) (.own d :: rvs) (.own d' :: outs) e2
  | dat {env e2 : Env'} {r : RV} {s : SV} {io : List Bool} {rvs : List RV} {outs : List SV} : BackAt env io rvs outs e2 → BackAt env (false :: io) (r :: rvs) (s :: outs) e2
theorem BackAt.eq {env e2 : Env'} {io : List Bool} {rvs : List RV} {outs : List SV} (h : BackAt env io rvs outs e2) : backE env io rvs outs = some e2 := by
  induction h with
  | nil => rfl
  | slot h1 _ ih => rw [← ih, ← h1.eq]; rfl
  | own _ ih => rw [← ih]; rfl
  | @dat env e2 r s io rvs outs _ ih => rw [← ih]; cases r <;> cases s <;> rfl
theorem bne_self (s : Str) : (!(s == s)) = false := by simp
theorem tail_of {io : List Bool} {F : DF} {rvs : List RV} {pe outs : List SV} {rv : RV} {d : D} (h0 : io.length = rvs.length) (h00 : onceB io rvs [] = true) (h1 : passE e1 io rvs = some pe) (h2 : F pe = some (rv, outs)) (h3' : BackAt e1 io rvs outs e2) (h4 : rv.dt = some d) : fnTail io F rvs e1 = some (rv, e2) := by
  have h3 := h3'.eq
  unfold fnTail
  rw [if_pos ⟨h0, h00⟩, h1]; show Option.bind (F pe) _ = _
  rw [h2]; show Option.bind (backE e1 io rvs outs) _ = _
  rw [h3]
  cases rv <;> first | rfl | cases h4
theorem pFn_tail {io : List Bool} {F : DF} : pFn io F A env = (A env).bind fun a => fnTail io F a.1 a.2 := by
  unfold pFn fnTail
  cases A env with
  | none => rfl
  | some a =>
    obtain ⟨rvs, e1⟩ := a
    show (if _ then _ else _) = (if _ then _ else _)
    split
    · show Option.bind _ _ = Option.bind _ _
      cases passE e1 io rvs with
      | none => rfl
      | some pe =>
        show Option.bind (F pe) _ = Option.bind (F pe) _
        cases F pe with
        | none => rfl
        | some r =>
          show Option.bind (backE e1 io rvs r.2) _ = Option.bind (backE e1 io rvs r.2) _
          cases backE e1 io rvs r.2 with
          | none => rfl
          | some e2 => obtain ⟨rv, o⟩ := r; cases rv <;> rfl
    · rfl
theorem ev_aNil : aNil env = some ([], env) := rfl
theorem ev_aCons {r : RV} {rs : List RV} (h1 : P env = some (r, e1)) (h2 : A e1 = some (rs, e2)) : aCons P A env = some (r :: rs, e2) := by
  simp only [aCons, h1, h2, Option.bind_eq_bind, Option.bind_some]
theorem ev_aApp {rs rs' : List RV} (h1 : A env = some (rs, e1)) (h2 : A' e1 = some (rs', e2)) : aApp A A' env = some (rs ++ rs', e2) := by
  simp only [aApp, h1, h2, Option.bind_eq_bind, Option.bind_some]
theorem ev_aSel {m : Nat} {is : List Nat} {ds : List D} {rs sel : List RV} (h1 : A env = some (rs, e1)) (h2 : rs.length = m) (h3 : pick is (rs ++ ds.map RV.dat) = sel) : aSel m is ds A env = some (sel, e1) := by
  simp only [aSel, h1, h2, h3, Option.bind_eq_bind, Option.bind_some, if_true]
theorem ev_fnS {io : List Bool} {F : DF} {sh : Shp} {ds : List D} {rs : List RV} {o : RV × Env'} (h1 : aSel (sh.n + sh.ks.length) sh.is ds (aApp A A') env = some (rs, e1)) (h2 : fnTail io F rs e1 = some o) : pFnS io F sh ds A A' env = some o := by
  unfold pFnS
  rw [pFn_tail, h1]; exact h2
theorem ev_cm {io : List Bool} {F : DF} {c : Nat} {rs : List RV} {o : RV × Env'} (h1 : aCons (pC (.kls c)) A env = some (rs, e1)) (h2 : fnTail (false :: io) F rs e1 = some o) : pCm io F c A env = some o := by
  unfold pCm
  rw [pFn_tail, h1]; exact h2
theorem ev_mkS {c : Nat} {io : List Bool} {F : DF} {sh : Shp} {ds : List D} {rs : List RV} {pe outs : List SV} {d : D} (h1 : aSel (sh.n + sh.ks.length) sh.is ds (aApp A A') env = some (rs, e1)) (h2 : io.length = rs.length) (h3 : onceB (true :: io) (.own (.obj c []) :: rs) [] = true)
    (h4 : passE e1 (true :: io) (.own (.obj c []) :: rs) = some pe) (h5 : F pe = some (.dat .non, .own d :: outs)) (h6' : BackAt e1 (true :: io) (.own (.obj c []) :: rs) (.own d :: outs) e2) : pMkS c io F sh ds A A' env = some (.own d, e2) := by
  have h6 := h6'.eq
  unfold pMkS pMk
  rw [h1]; show (if _ then _ else _) = _
  rw [if_pos ⟨h2, h3⟩, h4]; show Option.bind (F pe) _ = _
  rw [h5]; show Option.bind (backE _ _ _ _) _ = _
  rw [h6]; rfl
theorem ev_mkL {i c : Nat} {mk : Nat → Option PF} {o : RV × Env'} (h1 : env[i]? = some (.dat (.kls c))) (h2 : mk c = some P) (h3 : P env = some o) : pMkL i mk env = some o := by
  unfold pMkL
  rw [h1]; show (match mk c with | some P => _ | none => _) = _
  rw [h2]; exact h3
theorem ev_methS {ms : Nat → Option Mi} {m : Str} {a : RV} {c : Nat} {fs : List (Str × D)} {q : Mi} {rs : List RV} {o : RV × Env'} (h1 : P env = some (a, e1)) (h2 : a.objf = some (c, fs)) (h3 : ms c = some q) (h4 : fs.lookup m = none) (h5 : aSel (q.sh.n + q.sh.ks.length) q.sh.is q.ds (aApp A A') e1 = some (rs, e2)) (h6 : fnTail (false :: q.io) q.F (a :: rs) e2 = some o) : pMethS ms m P A A' env = some o := by
  unfold pMethS
  rw [h1]; show (match a.objf with | some (c, fs) => _ | none => _) = _
  rw [h2]; show Option.bind (ms c) _ = _
  rw [h3]; show (if _ then _ else _) = _
  rw [if_pos h4, h5]; exact h6
theorem ev_call {f : List D → Option RV} {rs : List RV} {ds : List D} {z : RV} (h1 : A env = some (rs, e1)) (h2 : conts e1 rs = some ds) (h3 : f ds = some z) : pCall f A env = some (z, e1) := by
  simp only [pCall, h1, h2, h3, Option.bind_eq_bind, Option.bind_some]
theorem ev_tup {rs : List RV} {ds : List D} (h1 : A env = some (rs, e1)) (h2 : dts rs = some ds) (h3 : Nat.ble ds.length sizeLine = true) : pTup A env = some (.dat (.tup ds), e1) := by
  simp only [pTup, h1, h2, Option.bind_eq_bind, Option.bind_some, if_pos (Nat.le_of_ble_eq_true h3)]
theorem ev_lst {rs : List RV} {ds : List D} (h1 : A env = some (rs, e1)) (h2 : dts rs = some ds) (h3 : Nat.ble ds.length sizeLine = true) : pLst A env = some (.own (.lst ds), e1) := by
  simp only [pLst, h1, h2, Option.bind_eq_bind, Option.bind_some, if_pos (Nat.le_of_ble_eq_true h3)]
theorem ev_not {a : RV} {x : D} {b : Bool} (h1 : P env = some (a, e1)) (h2 : a.cont e1 = some x) (h3 : truthD x = some b) : pNot P env = some (.dat (.bl (!b)), e1) := by
  simp only [pNot, pUn, h1, h2, h3, Option.bind_eq_bind, Option.bind_some, Option.map_some]
def iteK {α : Type} (b : Bool) (x y : α) : α := if b then x else y
theorem iteK_t {α : Type} {b : Bool} {x y o : α} (h : b = true) (h1 : x = o) : iteK b x y = o := by subst h; exact h1
theorem iteK_f {α : Type} {b : Bool} {x y o : α} (h : b = false) (h1 : y = o) : iteK b x y = o := by subst h; exact h1
theorem ev_if {c : BF} {b : Bool} {o : RV × Env'} (h1 : c env = some (b, e1)) (h2 : iteK b (P e1) (P' e1) = some o) : pIf c P P' env = some o := by
  unfold pIf
  rw [h1]; exact h2
theorem ev_and {a : RV} {x : D} {b : Bool} {o : RV × Env'} (h1 : P env = some (a, e1)) (h2 : a.cont e1 = some x) (h3 : truthD x = some b) (h4 : iteK b (P' e1) (some (a, e1)) = some o) : pAnd P P' env = some o := by
  simp only [pAnd, h1, h2, h3, Option.bind_eq_bind, Option.bind_some]
  exact h4
theorem ev_or {a : RV} {x : D} {b : Bool} {o : RV × Env'} (h1 : P env = some (a, e1)) (h2 : a.cont e1 = some x) (h3 : truthD x = some b) (h4 : iteK b (some (a, e1)) (P' e1) = some o) : pOr P P' env = some o := by
  simp only [pOr, h1, h2, h3, Option.bind_eq_bind, Option.bind_some]
  exact h4
theorem ev_bVal {b : Bool} (h1 : P env = some (.dat (.bl b), e1)) : bVal P env = some (b, e1) := by
  unfold bVal
  rw [h1]
theorem ev_bTruth {a : RV} {x : D} {b : Bool} (h1 : P env = some (a, e1)) (h2 : a.cont e1 = some x) (h3 : truthD x = some b) : bTruth P env = some (b, e1) := by
  simp only [bTruth, h1, h2, h3, Option.bind_eq_bind, Option.bind_some]
section
variable {c c' : BF} {b : Bool}
theorem ev_bNot (h1 : c env = some (b, e1)) : bNot c env = some (!b, e1) := by unfold bNot; rw [h1]; rfl
theorem ev_bAnd {o : Bool × Env'} (h1 : c env = some (b, e1)) (h2 : iteK b (c' e1) (some (false, e1)) = some o) : bAnd c c' env = some o := by
  unfold bAnd
  rw [h1]; exact h2
theorem ev_bOr {o : Bool × Env'} (h1 : c env = some (b, e1)) (h2 : iteK b (some (true, e1)) (c' e1) = some o) : bOr c c' env = some o := by
  unfold bOr
  rw [h1]; exact h2
end
theorem ev_zip {ds es : List D} (h1 : A env = some ([.dat (.lst ds), .dat (.lst es)], e1)) : iZipF A env = some (zipD ds es, e1) := by
  simp only [iZipF, h1, Option.bind_eq_bind, Option.bind_some]
theorem ev_walk {r : RV} {ds : List D} (h1 : P env = some (r, e1)) (h2 : itemsD r = some ds) : iWalk P env = some (ds, e1) := by
  simp only [iWalk, h1, h2, Option.bind_eq_bind, Option.bind_some]
theorem ev_rng1 {j : Int} (h1 : A env = some ([.dat (.int j)], e1)) (h2 : -(2 ^ 62) ≤ j ∧ j < 2 ^ 62) : iRange1 A env = some (rangeD 0 j.toNat, e1) := by
  simp only [iRange1, h1, Option.bind_eq_bind, Option.bind_some, if_pos h2]
inductive WipeAt (env : Env') : List Nat → Env' → Prop
  | nil : WipeAt env [] env
  | cons {i : Nat} {vs : List Nat} {e1 e2 : Env'} : WipeAt env vs e1 → SetAt e1 i .und e2 → WipeAt env (i :: vs) e2
theorem WipeAt.eq {env e : Env'} {vs : List Nat} (h : WipeAt env vs e) : wipeE env vs = e := by
  induction h with
  | nil => rfl
  | cons h1 h2 ih => unfold wipeE; rw [ih, h2.eq]
theorem ev_lc {vs : List Nat} {w : IF} {g : GF} {c : BF} {ds ys : List D} (h1 : w env = some (ds, e1)) (h2 : Nat.ble ds.length sizeLine = true) (hw : WipeAt e1 vs e3) (h3 : lcF vs g c P ds e3 = some (ys, e2)) : pLc vs w g c P env = some (.own (.lst ys), e2) := by
  rw [← hw.eq] at h3
  simp only [pLc, h1, h3, Option.bind_eq_bind, Option.bind_some, if_pos (Nat.le_of_ble_eq_true h2)]
theorem lc_nil {vs : List Nat} {g : GF} {c : BF} : lcF vs g c P [] env = some ([], env) := rfl
theorem lc_cons {vs : List Nat} {g : GF} {c : BF} {d y : D} {ds ys : List D} {r : RV} {e5 : Env'} (h1 : g d env = some e1) (h2 : c e1 = some (true, e2)) (h3 : P e2 = some (r, e3)) (h4 : r.dt = some y) (hw : WipeAt e3 vs e5) (h5 : lcF vs g c P ds e5 = some (ys, e4)) : lcF vs g c P (d :: ds) env = some (y :: ys, e4) := by
  rw [← hw.eq] at h5
  simp only [lcF, h1, h2, h3, h4, h5, Option.bind_eq_bind, Option.bind_some, if_true]
theorem ev_gset {np i : Nat} {d : D} (h1 : pinned np env i = false) (h2 : SetAt env i (.dat d) e1) : gSet np i d env = some e1 := by
  unfold gSet
  rw [h1, h2.eq]; rfl
theorem ev_gtup {n : Nat} {Q : List D → Env' → Option Env'} {ds : List D} (h1 : ds.length = n) (h2 : Q ds env = some e1) : gTupF n Q (.tup ds) env = some e1 := by
  unfold gTupF
  dsimp only
  rw [if_pos h1]; exact h2
theorem ev_gsc {g : GF} {Q : List D → Env' → Option Env'} {d : D} {ds : List D} (h1 : g d env = some e1) (h2 : Q ds e1 = some e2) : gsCons g Q (d :: ds) env = some e2 := by
  unfold gsCons
  dsimp only
  rw [h1]; exact h2
theorem ev_gsn : gsNil [] env = some env := rfl
theorem ev_gix {i j : Nat} {d0 d : D} {k : Int} {xs xs' : List D} (h0 : env[i]? = some (.own d0)) (h1 : P env = some (.dat (.int k), e1)) (h2 : ownB env.length env e1 = true) (h3 : e1[i]? = some (.own (.lst xs))) (h4 : ixN xs.length k = some j) (h5 : SetAt xs j d xs') (h6 : SetAt e1 i (.own (.lst xs')) e2) : gIx2 i P d env = some e2 := by
  unfold gIx2
  rw [h0, h1]
  simp only [h2, h3, h4, h5.eq, h6.eq, if_true, Option.map_some]
def setSV : Bool → RV → Option SV
  | _, .dat d => some (.dat d)
  | true, .own d => some (.own d)
  | false, .own d => some (.dat d)
  | _, .slot _ => none
variable {S S' : SF} {np : Nat} {o : Out}
theorem ev_set {i : Nat} {mu : Bool} {r : RV} {s : SV} (h1 : P env = some (r, e1)) (h2 : ownB np env e1 = true) (h3 : pinned np e1 i = false) (h4 : setSV mu r = some s) (h5 : SetAt e1 i s e2) : sSet np i mu P env = some (.nx e2) := by
  unfold sSet
  rw [h1]
  simp only [Option.bind_eq_bind, Option.bind_some]
  rw [if_pos (by rw [h3]; simp only [Bool.not_false, Bool.and_true]; exact h2)]
  cases mu <;> cases r <;> cases h4 <;> simp only [h5.eq, if_true, Bool.false_eq_true, if_false]
theorem ev_par2 {i j : Nat} {rs : List RV} {d1 d2 : D} (h1 : A env = some (rs, e1)) (h2 : ownB np env e1 = true) (h3 : dts rs = some [d1, d2]) (h4 : pinned np e1 i = false) (h5 : SetAt e1 i (.dat d1) e2) (h6 : pinned np e2 j = false) (h7 : SetAt e2 j (.dat d2) e3) : sPar2 np i j A env = some (.nx e3) := by
  unfold sPar2
  rw [h1]
  simp only [Option.bind_eq_bind, Option.bind_some, h2, h3, h4, h5.eq, h6, h7.eq, if_true, Bool.not_false, Bool.and_true]
theorem ev_par3 {i j l : Nat} {rs : List RV} {d1 d2 d3 : D} (h1 : A env = some (rs, e1)) (h2 : ownB np env e1 = true) (h3 : dts rs = some [d1, d2, d3]) (h4 : pinned np e1 i = false) (h5 : SetAt e1 i (.dat d1) e2) (h6 : pinned np e2 j = false) (h7 : SetAt e2 j (.dat d2) e3) (h8 : pinned np e3 l = false) (h9 : SetAt e3 l (.dat d3) e4) : sPar3 np i j l A env = some (.nx e4) := by
  unfold sPar3
  rw [h1]
  simp only [Option.bind_eq_bind, Option.bind_some, h2, h3, h4, h5.eq, h6, h7.eq, h8, h9.eq, if_true, Bool.not_false, Bool.and_true]
theorem ev_asg {g : GF} {d : D} (h1 : P env = some (.dat d, e1)) (h2 : ownB np env e1 = true) (h3 : g d e1 = some e2) : sAsg np P g env = some (.nx e2) := by
  unfold sAsg
  rw [h1]
  simp only [Option.bind_eq_bind, Option.bind_some, h2, h3, if_true, Option.map_some]
theorem ev_exp {r : RV} (h1 : P env = some (r, e1)) (h2 : ownB np env e1 = true) : sExp np P env = some (.nx e1) := by
  unfold sExp
  rw [h1]
  simp only [Option.bind_eq_bind, Option.bind_some, h2, if_true]
theorem ev_mut {i : Nat} {f : D → List D → Option (D × D)} {xs ds : List D} {rs : List RV} {d d' ret : D} (h0 : env[i]? = some (.own (.lst xs))) (h1 : A env = some (rs, e1)) (h2 : dts rs = some ds) (h3 : e1[i]? = some (.own d)) (h4 : f d ds = some (ret, d')) (h5 : SetAt e1 i (.own d') e2) : pMut i f A env = some (.dat ret, e2) := by
  unfold pMut
  rw [h0]
  simp only [h1, h2, h3, h4, h5.eq, Option.bind_eq_bind, Option.bind_some]
theorem ev_sif {c : BF} {b : Bool} (h1 : c env = some (b, e1)) (h2 : ownB np env e1 = true) (h3 : iteK b (S e1) (S' e1) = some o) : sIf c np S S' env = some o := by
  unfold sIf
  rw [h1]; show (if _ then _ else _) = _
  rw [if_pos h2]; exact h3
def seqK (S' : SF) : Out → Option Out
  | .nx e => S' e
  | o => some o
theorem ev_seq {o1 : Out} (h1 : S env = some o1) (h2 : seqK S' o1 = some o) : sSeq S S' env = some o := by
  unfold sSeq
  rw [h1]
  cases o1 <;> exact h2
theorem seqK_nx (h : S' e1 = some o) : seqK S' (.nx e1) = some o := h
theorem ev_snil : sNil env = some (.nx env) := rfl
theorem fz_nil : fzE np env [] = env := rfl
theorem fz_own {i : Nat} {is : List Nat} {d : D} (h1 : env[i]? = some (.own d)) (h2 : Nat.ble np i = true) (h3 : SetAt env i (.dat d) e1) (h4 : fzE np e1 is = e2) : fzE np env (i :: is) = e2 := by
  have : ¬ i < np := Nat.not_lt.mpr (Nat.le_of_ble_eq_true h2)
  unfold fzE
  rw [h1]
  simp only [this, if_false, h3.eq, h4]
theorem ev_fz {is : List Nat} (h1 : fzE np env is = e1) (h2 : S e1 = some o) : sFz np is S env = some o := by
  unfold sFz
  rw [h1]; exact h2
def retK (np : Nat) (e1 : Env') : RV → Option Out
  | .dat d => some (.rt (.dat d) e1)
  | .own d => some (.rt (.own d) e1)
  | .slot i => match e1[i]? with
    | some (.own d) => if i < np then none else some (.rt (.own d) (e1.set i .und))
    | _ => none
theorem ev_ret {r : RV} (h1 : P env = some (r, e1)) (h2 : ownB np env e1 = true) (h3 : retK np e1 r = some o) : sRet np P env = some o := by
  unfold sRet
  rw [h1]
  simp only [Option.bind_eq_bind, Option.bind_some, h2, if_true]
  cases r <;> exact h3
theorem ev_fld {i c : Nat} {ok : Nat → Str → Bool} {f : Str} {r : RV} {y : D} {fs fs' : List (Str × D)} (h1 : P env = some (r, e1)) (h2 : ownB np env e1 = true) (h3 : r.dt = some y) (h4 : e1[i]? = some (.own (.obj c fs))) (h5 : ok c f = true) (h6 : Nat.blt fs.length 900 = true) (h7 : putD f y fs = fs') (h8 : SetAt e1 i (.own (.obj c fs')) e2) : sFldF np i ok f P env = some (.nx e2) := by
  have h6' : fs.length < 900 := Nat.le_of_ble_eq_true h6
  unfold sFldF
  rw [h1]
  simp only [Option.bind_eq_bind, Option.bind_some, h2, h3, h4, h5, h6', h7, h8.eq, decide_true, Bool.and_true, if_true]
def fnK (pe : List SV) : Out → Option (RV × List SV)
  | .rt (.dat d) env' => some (.dat d, outsOf pe env')
  | .rt (.own d) env' => some (.own d, outsOf pe env')
  | .nx env' => some (.dat .non, outsOf pe env')
  | _ => none
inductive Pad : List SV → Nat → Env' → Prop
  | nil : Pad [] 0 []
  | und {k : Nat} {l : Env'} : Pad [] k l → Pad [] (k + 1) (.und :: l)
  | undp {pe : List SV} {k : Nat} {l : Env'} : Pad pe k l → Pad (.und :: pe) (k + 1) (.und :: l)
  | dat {d : D} {pe : List SV} {k : Nat} {l : Env'} : Pad pe k l → Pad (.dat d :: pe) (k + 1) (.dat d :: l)
  | own {d : D} {pe : List SV} {k : Nat} {l : Env'} : Pad pe k l → Pad (.own d :: pe) (k + 1) (.own d :: l)
  | bor {d : D} {pe : List SV} {k : Nat} {l : Env'} : Pad pe k l → Pad (.bor d :: pe) (k + 1) (.bor d :: l)
theorem Pad.nn : ∀ {pe : List SV} {m : Nat} {e : Env'}, Pad pe m e → noNst pe = true
  | _, _, _, .nil => rfl
  | _, _, _, .und h => rfl
  | _, _, _, .undp (pe := pe) h => Pad.nn (pe := pe) h
  | _, _, _, .dat (pe := pe) h => Pad.nn (pe := pe) h
  | _, _, _, .own (pe := pe) h => Pad.nn (pe := pe) h
  | _, _, _, .bor (pe := pe) h => Pad.nn (pe := pe) h
theorem Pad.eq : ∀ {pe : List SV} {m : Nat} {e : Env'}, Pad pe m e → pe ++ List.replicate (m - pe.length) .und = e
  | _, _, _, .nil => rfl
  | _, _, _, .und h => by
    have := Pad.eq h
    simp only [List.length_nil, Nat.sub_zero, List.nil_append] at this ⊢
    rw [List.replicate_succ, this]
  | _, _, _, .undp h => by
    have := Pad.eq h
    rw [List.length_cons, Nat.add_sub_add_right, List.cons_append, this]
  | _, _, _, .dat h => by
    have := Pad.eq h
    rw [List.length_cons, Nat.add_sub_add_right, List.cons_append, this]
  | _, _, _, .own h => by
    have := Pad.eq h
    rw [List.length_cons, Nat.add_sub_add_right, List.cons_append, this]
  | _, _, _, .bor h => by
    have := Pad.eq h
    rw [List.length_cons, Nat.add_sub_add_right, List.cons_append, this]
theorem ev_fn {m : Nat} {pe : List SV} {e0 : Env'} {o : Out} {r : RV × List SV} (hp : Pad pe m e0) (h1 : S e0 = some o) (h2 : fnK pe o = some r) : fnF m S pe = some r := by
  unfold fnF
  rw [hp.nn, if_neg (by decide), hp.eq, h1]
  cases o with
  | rt rv e => cases rv <;> exact h2
  | _ => exact h2
/-- a for that never stops: what holds of the place, row by row -/
theorem loop_inv {g : GF} {I : Nat → Env' → Prop} : ∀ (ds : List D) (k : Nat) (env : Env'), I k env → (∀ i env d, ds[i]? = some d → I (k + i) env → ∃ e1 e2, g d env = some e1 ∧ S e1 = some (.nx e2) ∧ I (k + i + 1) e2) → ∃ e', loopF g S ds env = some (.nx e') ∧ I (k + ds.length) e'
  | [], k, env, h, _ => ⟨env, rfl, h⟩
  | d :: ds, k, env, h, st => by
    obtain ⟨e1, e2, h1, h2, h3⟩ := st 0 env d rfl h
    obtain ⟨e', h4, h5⟩ := loop_inv ds (k + 1) e2 (by simpa using h3) fun i env d' hd hI => by
      have := st (i + 1) env d' (by simpa using hd) (by rw [show k + (i + 1) = k + 1 + i by omega]; exact hI)
      rw [show k + (i + 1) + 1 = k + 1 + i + 1 by omega] at this
      exact this
    refine ⟨e', ?_, by rw [List.length_cons, show k + (ds.length + 1) = k + 1 + ds.length by omega]; exact h5⟩
    unfold loopF
    rw [h1]; show Option.bind (S e1) _ = _
    rw [h2]; exact h4
theorem ev_for {w : IF} {g : GF} {ds : List D} (h1 : w env = some (ds, e1)) (h2 : ownB np env e1 = true) (h3 : loopF g S ds e1 = some o) : sFor np w g S env = some o := by
  unfold sFor
  rw [h1]; show (if _ then _ else _) = _
  rw [if_pos h2]; exact h3
/-! numbers -/
theorem ev_mul {i j : Int} (h : i.natAbs.log2 + j.natAbs.log2 < 1000000) : mul3D (.int i) (.int j) = some (.dat (.int (i * j))) := by
  unfold mul3D
  dsimp only
  split <;> first | rfl | rw [if_pos h]
theorem ev_fdiv {i j : Int} (h : j ≠ 0) (hb : j.natAbs.log2 < 9000) : fdiv3D (.int i) (.int j) = some (.dat (.int (i.fdiv j))) := by
  unfold fdiv3D
  dsimp only
  split
  · rename_i q; rw [Int.fdiv_eq_ediv_of_nonneg _ (by omega)]
  · rw [if_pos ⟨h, hb⟩]
theorem ev_mod {i j : Int} (h : 0 < j) : modD (.int i) (.int j) = some (.dat (.int (i % j))) := by
  unfold modD intD
  dsimp only
  rw [if_pos (by simpa using h)]
theorem ev_pow {i j : Int} (h0 : 0 ≤ j) (h : j ≤ 1000000) (h1 : i.natAbs < 2 ^ 64) : powD (.int i) (.int j) = some (.dat (.int (i ^ j.toNat))) := by
  unfold powD intD
  dsimp only
  rw [if_pos (by simp [h0, h]; exact h1)]
theorem ev_divmod {i j : Int} (h0 : 0 < j) (h : j < 1073741824) : divmodD [.int i, .int j] = some (.dat (.tup [.int (i / j), .int (i % j)])) := by
  unfold divmodD
  dsimp only
  rw [if_pos ⟨h0, h⟩]
theorem ev_jsN {acc : Str} : pJs [] acc env = some (.dat (.str acc), env) := rfl
theorem ev_jsC {Ps : List PF} {acc y : Str} {o : RV × Env'} (h1 : P env = some (.dat (.str y), e1)) (h2 : (acc ++ y).length ≤ sizeLine) (h3 : pJs Ps (acc ++ y) e1 = some o) : pJs (P :: Ps) acc env = some o := by
  unfold pJs
  rw [h1]; show (if _ then _ else _) = _
  rw [if_pos h2]; exact h3
theorem ev_fmtI {i : Int} (h1 : P env = some (.dat (.int i), e1)) (h2 : i.natAbs.log2 < 1920) : pFmt P env = some (.dat (.str (toString i)), e1) := by
  unfold pFmt
  rw [h1]; show (if _ then _ else _) = _
  rw [if_pos h2]
theorem ev_strI {i : Int} (h2 : i.natAbs.log2 < 1920) : strD1 [.int i] = some (.dat (.str (toString i))) := by
  unfold strD1
  dsimp only
  rw [if_pos h2]
theorem ev_addS {x y : Str} (h : x.length + y.length ≤ sizeLine) : addD (.str x) (.str y) = some (.dat (.str (x ++ y))) := by
  unfold addD
  dsimp only
  rw [if_pos h]
inductive AppAt {α : Type} : List α → List α → List α → Prop
  | nil {l : List α} : AppAt [] l l
  | cons {a : α} {l m n : List α} : AppAt l m n → AppAt (a :: l) m (a :: n)
theorem AppAt.eq {α : Type} {l m n : List α} (h : AppAt l m n) : l ++ m = n := by
  induction h with
  | nil => rfl
  | cons _ ih => rw [List.cons_append, ih]
theorem ev_addL {xs ys zs : List D} (h : AppAt xs ys zs) (hl : Nat.ble zs.length sizeLine = true) : addD (.lst xs) (.lst ys) = some (.own (.lst zs)) := by
  have := Nat.le_of_ble_eq_true hl
  rw [← h.eq, List.length_append] at this
  unfold addD
  dsimp only
  rw [if_pos this, h.eq]
theorem ev_append {xs zs : List D} {y : D} (h : AppAt xs [y] zs) (hl : Nat.ble zs.length sizeLine = true) : appendD (.lst xs) [y] = some (.non, .lst zs) := by
  have := Nat.le_of_ble_eq_true hl
  rw [← h.eq, List.length_append] at this
  unfold appendD
  dsimp only
  rw [if_pos (show xs.length < sizeLine from by simp only [List.length_cons, List.length_nil] at this; omega), h.eq]
theorem ev_twice {x : D} : mul3D (.lst [x]) (.int 2) = some (.own (.lst [x, x])) := rfl
inductive ZipAt : List D → List D → List D → Prop
  | nil : ZipAt [] [] []
  | cons {a b : D} {l m n : List D} : ZipAt l m n → ZipAt (a :: l) (b :: m) (.tup [a, b] :: n)
theorem ZipAt.eq {l m n : List D} (h : ZipAt l m n) : zipD l m = n := by
  induction h with
  | nil => rfl
  | cons _ ih => rw [← ih]; rfl
theorem ev_zipA {ds es zs : List D} (h1 : A env = some ([.dat (.lst ds), .dat (.lst es)], e1)) (h2 : ZipAt ds es zs) : iZipF A env = some (zs, e1) := by
  rw [← h2.eq]; exact ev_zip h1
theorem ev_at {xs : List D} {i : Int} (h0 : 0 ≤ i) (h : i < xs.length) : ixD (.lst xs) (.int i) = some (.dat (xs.getD i.toNat .non)) := by
  have hn : i.toNat < xs.length := by omega
  show (atI xs i).map RV.dat = _
  unfold atI
  have : xs[i.toNat]? = some (xs.getD i.toNat .non) := by rw [List.getD_eq_getElem?_getD, List.getElem?_eq_getElem hn]; rfl
  first
    | simp [this, h0, h]; done
    | (simp only [ixN]; simp [this, h0, h]; done)
theorem ixN0 {a : D} {l : List D} : ixN (a :: l).length 0 = some 0 := by
  have : (0 : Int) < ((a :: l).length : Int) := by rw [List.length_cons]; omega
  unfold ixN
  rw [if_pos (Int.le_refl 0), if_pos this]; rfl
theorem ixN1 {a b : D} {l : List D} : ixN (a :: b :: l).length 1 = some 1 := by
  have : (1 : Int) < ((a :: b :: l).length : Int) := by rw [List.length_cons, List.length_cons]; omega
  unfold ixN
  rw [if_pos (by decide), if_pos this]; rfl
structure Ln (x : Str) (k : Nat) : Prop where
  le : x.length ≤ k
theorem Ln.app {x y : Str} {k l : Nat} (h : Ln x k) (h' : Ln y l) : Ln (x ++ y) (k + l) := ⟨by have := h.le; have := h'.le; rw [strLen_append]; omega⟩
theorem Ln.num {i : Int} (h : i.natAbs.log2 < 1920) : Ln (Str.ofString (toString i)) 1921 := ⟨by rw [ofString_length]; exact int_text_length_le (by decide) h⟩
theorem Ln.lit {s : String} : Ln (Str.ofString s) s.length := ⟨by rw [ofString_length]; exact Nat.le_refl _⟩
theorem Ln.emp : Ln Str.empty 0 := ⟨Nat.le_refl _⟩
theorem Ln.ok {x : Str} {k : Nat} (h : Ln x k) (hk : Nat.ble k sizeLine = true) : x.length ≤ sizeLine := Nat.le_trans h.le (Nat.le_of_ble_eq_true hk)
theorem Ln.ok2 {x y : Str} {k l : Nat} (h : Ln x k) (h' : Ln y l) (hk : Nat.ble (k + l) sizeLine = true) : x.length + y.length ≤ sizeLine := Nat.le_trans (Nat.add_le_add h.le h'.le) (Nat.le_of_ble_eq_true hk)
end
end Den
end

section
set_option Elab.async false
set_option linter.all false
set_option maxRecDepth 100000
set_option maxHeartbeats 4000000
/-! DenEx: texts as lists, loops and comprehensions over lists of any length, sorting. -/
namespace Den
open PySem L2
/-! texts -/
def Tx (w : List Nat) : Str := ⟨w.toArray⟩
theorem Tx_len (w : List Nat) : (Tx w).length = w.length := by simp [Tx, Str.length]
theorem Tx_cps (w : List Nat) : (Tx w).cps.toList = w := rfl
theorem Tx_of (s : Str) : Tx s.cps.toList = s := rfl
theorem Tx_inj {a b : List Nat} : Tx a = Tx b ↔ a = b := by
  refine ⟨fun h => ?_, fun h => by rw [h]⟩
  have := congrArg (fun s : Str => s.cps.toList) h
  exact this
theorem Tx_app (a b : List Nat) : Tx a ++ Tx b = Tx (a ++ b) := by
  show (⟨a.toArray ++ b.toArray⟩ : Str) = _
  simp [Tx]
theorem Tx_beq (a b : List Nat) : (Tx a == Tx b) = decide (a = b) := by
  by_cases h : a = b
  · subst h; simp
  · have : ¬ Tx a = Tx b := fun e => h (Tx_inj.mp e)
    simp [h, this]
theorem strD_Tx (w : List Nat) : strD (Tx w) = w.map fun c => .str (Tx [c]) := rfl
theorem len_Tx {w : List Nat} (h : w.length ≤ sizeLine) : lenD [.str (Tx w)] = some (.dat (.int w.length)) := by
  unfold lenD
  dsimp only
  rw [Tx_len, if_pos h]
theorem add_Tx {a b : List Nat} (h : a.length + b.length ≤ sizeLine) : addD (.str (Tx a)) (.str (Tx b)) = some (.dat (.str (Tx (a ++ b)))) := by
  unfold addD
  dsimp only
  rw [Tx_len, Tx_len, if_pos h, Tx_app]
theorem eq_Tx (a b : List Nat) : eqD (.str (Tx a)) (.str (Tx b)) = some (.dat (.bl (decide (a = b)))) := by
  rw [← Tx_beq]; rfl
theorem ne_Tx (a b : List Nat) : neD (.str (Tx a)) (.str (Tx b)) = some (.dat (.bl (!decide (a = b)))) := by
  rw [← Tx_beq]; rfl
theorem sl_Tx {w : List Nat} {lo hi : Option Int} (h : w.length ≤ sizeLine) : slD (.str (Tx w)) lo hi = some (.dat (.str (Tx ((w.drop (HT.sIx w.length 0 lo)).take (HT.sIx w.length w.length hi - HT.sIx w.length 0 lo))))) := by
  show (if (Tx w).length ≤ sizeLine then some (RV.dat (.str (cutS (Tx w) lo hi))) else none) = _
  rw [Tx_len, if_pos h]
  unfold cutS
  rw [Tx_len]; rfl
/-! rules -/
section
variable {env e1 e2 e3 e4 : Env'} {P P' P'' : PF} {A A' : PAF}
theorem ev_walkV {own : Nat → Option Str} {r : RV} {ds : List D} (h1 : P env = some (r, e1)) (h2 : itemsD r = some ds) : iWalkV own P env = some (ds, e1) := by
  unfold iWalkV
  rw [h1]; show (match itemsD r with | some ds => _ | none => _) = _
  rw [h2]
theorem ev_walkO {own : Nat → Option Str} {r : RV} {c : Nat} {fs : List (Str × D)} {fld : Str} {ds : List D} (h1 : P env = some (r, e1)) (h2 : itemsD r = none) (h3 : r.cont e1 = some (.obj c fs)) (h4 : own c = some fld) (h5 : fs.lookup fld = some (.lst ds)) : iWalkV own P env = some (ds, e1) := by
  unfold iWalkV
  rw [h1]; show (match itemsD r with | some ds => _ | none => _) = _
  rw [h2]; show (ownItems own (r.cont e1)).map _ = _
  rw [h3]; show (Option.bind (own c) _).map _ = _
  rw [h4]; show (Option.bind (fs.lookup fld) _).map _ = _
  rw [h5]; rfl
theorem ev_chainT {f f' : D → D → Option RV} {ra rc : RV} {x y w : D} {z : RV} (h1 : P env = some (ra, e1)) (h2 : P' e1 = some (.dat y, e2)) (h3 : ra.cont e2 = some x) (h4 : f x y = some (.dat (.bl true))) (h5 : P'' e2 = some (rc, e3)) (h6 : rc.cont e3 = some w) (h7 : f' y w = some z) : pChain f f' P P' P'' env = some (z, e3) := by
  simp only [pChain, h1, h2, h3, h4, h5, h6, h7, Option.bind_eq_bind, Option.bind_some]
theorem ev_oN : oNone env = some (none, env) := rfl
theorem ev_oS {i : Int} (h : P env = some (.dat (.int i), e1)) : oSome P env = some (some i, e1) := by
  unfold oSome
  rw [h]; rfl
theorem ev_sl {Pl Pu : OF} {rv z : RV} {lo hi : Option Int} {d : D} (h1 : P env = some (rv, e1)) (h2 : Pl e1 = some (lo, e2)) (h3 : Pu e2 = some (hi, e3)) (h4 : rv.cont e3 = some d) (h5 : slD d lo hi = some z) : pSl P Pl Pu env = some (z, e3) := by
  simp only [pSl, h1, h2, h3, h4, h5, Option.bind_eq_bind, Option.bind_some]
theorem ev_m1 {f : Str → D → Option RV} {a : Str} {rb z : RV} {y : D} (h1 : P env = some (.dat (.str a), e1)) (h2 : P' e1 = some (rb, e2)) (h3 : rb.cont e2 = some y) (h4 : f a y = some z) : pM1 f P P' env = some (z, e2) := by
  simp only [pM1, h1, h2, h3, h4, Option.bind_eq_bind, Option.bind_some]
theorem ev_sortKey {rv z : RV} {d : D} (h1 : P env = some (rv, e1)) (h2 : rv.cont e1 = some d) (h3 : sortKeyD d = some z) : pSortKey P env = some (z, e1) := by
  simp only [pSortKey, h1, h2, h3, Option.bind_eq_bind, Option.bind_some]
theorem ev_lenSet {rv : RV} {ds : List D} {ps : List (Nat × Nat)} (h1 : P env = some (rv, e1)) (h2 : rv.cont e1 = some (.lst ds)) (h3 : pairsD ds = some ps) (h4 : ps.length < 300) (h5 : ps.Nodup) : pLenSet P env = some (.dat (.int ps.length), e1) := by
  simp only [pLenSet, h1, h2, h3, Option.bind_eq_bind, Option.bind_some, if_pos (And.intro h4 h5)]
theorem ev_enum {r : RV} {ds : List D} (h1 : A env = some ([r], e1)) (h2 : r = .dat (.lst ds) ∨ r = .own (.lst ds)) : iEnumF A env = some (enumD ds, e1) := by
  rcases h2 with rfl | rfl <;> simp only [iEnumF, h1, Option.bind_eq_bind, Option.bind_some]
theorem ev_mut0 {i : Nat} {f : D → List D → Option (D × D)} {xs : List D} {d' ret : D} (h0 : env[i]? = some (.own (.lst xs))) (h4 : f (.lst xs) [] = some (ret, d')) (h5 : SetAt env i (.own d') e2) : pMut0 i f env = some (.dat ret, e2) :=
  ev_mut h0 ev_aNil rfl h0 h4 h5
/-- a comprehension that changes nothing -/
theorem lc_filt {vs : List Nat} {g : GF} {c : BF} {f : D → Option D} : ∀ ds : List D, (∀ d ∈ ds, ∃ e1 b e2, g d env = some e1 ∧ c e1 = some (b, e2) ∧ ((b = true ∧ ∃ r e3 y, P e2 = some (r, e3) ∧ r.dt = some y ∧ WipeAt e3 vs env ∧ f d = some y) ∨ (b = false ∧ WipeAt e2 vs env ∧ f d = none))) → lcF vs g c P ds env = some (ds.filterMap f, env)
  | [], _ => rfl
  | d :: ds, h => by
    obtain ⟨e1, b, e2, h1, h2, h3⟩ := h d List.mem_cons_self
    have ih := lc_filt ds fun x hx => h x (List.mem_cons_of_mem _ hx)
    rcases h3 with ⟨rfl, r, e3, y, h4, h5, h6, h7⟩ | ⟨rfl, h6, h7⟩
    · rw [List.filterMap_cons_some h7]
      exact lc_cons h1 h2 h4 h5 h6 ih
    · rw [List.filterMap_cons_none h7]
      simp only [lcF, h1, h2, Option.bind_eq_bind, Option.bind_some, Bool.false_eq_true, if_false, h6.eq, ih]
theorem lc_map {vs : List Nat} {g : GF} {c : BF} {f : D → D} (ds : List D) (h : ∀ d ∈ ds, ∃ e1 e2 r e3, g d env = some e1 ∧ c e1 = some (true, e2) ∧ P e2 = some (r, e3) ∧ r.dt = some (f d) ∧ WipeAt e3 vs env) : lcF vs g c P ds env = some (ds.map f, env) := by
  rw [← List.filterMap_eq_map]
  refine lc_filt ds fun d hd => ?_
  obtain ⟨e1, e2, r, e3, h1, h2, h3, h4, h5⟩ := h d hd
  exact ⟨e1, true, e2, h1, h2, .inl ⟨rfl, r, e3, _, h3, h4, h5, rfl⟩⟩
/-- a comprehension that changes the place -/
theorem lc_inv {vs : List Nat} {g : GF} {c : BF} {I : Env' → Prop} {Q : D → Prop} : ∀ (ds : List D) (env : Env'), I env → (∀ d ∈ ds, ∀ env, I env → ∃ e1 e2 r e3 y e4, g d env = some e1 ∧ c e1 = some (true, e2) ∧ P e2 = some (r, e3) ∧ r.dt = some y ∧ WipeAt e3 vs e4 ∧ I e4 ∧ Q y) → ∃ ys e', lcF vs g c P ds env = some (ys, e') ∧ I e' ∧ ys.length = ds.length ∧ ∀ y ∈ ys, Q y
  | [], env, h, _ => ⟨[], env, rfl, h, rfl, fun y hy => nomatch hy⟩
  | d :: ds, env, hi, h => by
    obtain ⟨e1, e2, r, e3, y, e4, h1, h2, h3, h4, h5, h6, h7⟩ := h d List.mem_cons_self env hi
    obtain ⟨ys, e', h8, h9, h10, h11⟩ := lc_inv ds e4 h6 fun x hx => h x (List.mem_cons_of_mem _ hx)
    refine ⟨y :: ys, e', lc_cons h1 h2 h3 h4 h5 h8, h9, by rw [List.length_cons, List.length_cons, h10], fun z hz => ?_⟩
    rcases List.mem_cons.mp hz with rfl | hz
    · exact h7
    · exact h11 z hz
/-- two fors that change nothing -/
theorem lc2_flat {vs vs1 : List Nat} {g g1 : GF} {c c1 : BF} {w1 : IF} {f : D → List D} : ∀ ds : List D, (∀ d ∈ ds, ∃ e1 e2 ds1 e3 e4 e5, g d env = some e1 ∧ c e1 = some (true, e2) ∧ noBor e1 vs = true ∧ w1 e2 = some (ds1, e3) ∧ WipeAt e3 vs1 e4 ∧ lcF vs1 g1 c1 P ds1 e4 = some (f d, e5) ∧ WipeAt e5 vs env) → lcF2 vs vs1 g c w1 g1 c1 P ds env = some (ds.flatMap f, env)
  | [], _ => rfl
  | d :: ds, h => by
    obtain ⟨e1, e2, ds1, e3, e4, e5, h1, h2, h0, h3, h4, h5, h6⟩ := h d List.mem_cons_self
    have ih := lc2_flat ds fun x hx => h x (List.mem_cons_of_mem _ hx)
    rw [← h4.eq] at h5
    simp only [lcF2, h1, h2, h0, h3, h5, h6.eq, ih, Option.bind_eq_bind, Option.bind_some, if_true, List.flatMap_cons]
theorem ev_lc2 {vs vs1 : List Nat} {g g1 : GF} {c c1 : BF} {w w1 : IF} {ds ys : List D} (h1 : w env = some (ds, e1)) (hw : WipeAt e1 vs e3) (h3 : lcF2 vs vs1 g c w1 g1 c1 P ds e3 = some (ys, e2)) (h2 : ys.length ≤ sizeLine) : pLc2 vs vs1 w g c w1 g1 c1 P env = some (.own (.lst ys), e2) := by
  rw [← hw.eq] at h3
  simp only [pLc2, h1, h3, Option.bind_eq_bind, Option.bind_some, if_pos h2]
end
section
variable {env e1 ea eb : Env'} {S S' : SF} {np : Nat} {Q : Out → Prop}
theorem ex_fn {m : Nat} {pe : List SV} {e0 : Env'} {Q : RV × List SV → Prop} (hp : Pad pe m e0) (h : ∃ o, S e0 = some o ∧ ∃ r, fnK pe o = some r ∧ Q r) : ∃ r, fnF m S pe = some r ∧ Q r := by
  obtain ⟨o, h1, r, h2, h3⟩ := h
  exact ⟨r, ev_fn hp h1 h2, h3⟩
theorem ex_seq (h1 : S env = some (.nx e1)) (h2 : ∃ o, S' e1 = some o ∧ Q o) : ∃ o, sSeq S S' env = some o ∧ Q o := by
  obtain ⟨o, h2, h3⟩ := h2
  exact ⟨o, ev_seq h1 (seqK_nx h2), h3⟩
theorem ex_fz {is : List Nat} (h1 : fzE np env is = e1) (h2 : ∃ o, S e1 = some o ∧ Q o) : ∃ o, sFz np is S env = some o ∧ Q o := by
  obtain ⟨o, h2, h3⟩ := h2
  exact ⟨o, ev_fz h1 h2, h3⟩
theorem ex_step {g : GF} {d : D} {I : Env' → Prop} (h1 : g d env = some ea) (h2 : S ea = some (.nx eb)) (h3 : I eb) : ∃ e1 e2, g d env = some e1 ∧ S e1 = some (.nx e2) ∧ I e2 := ⟨_, _, h1, h2, h3⟩
theorem ex_for {w : IF} {g : GF} {ds : List D} (I : Nat → Env' → Prop) (h1 : w env = some (ds, e1)) (h2 : ownB np env e1 = true) (h0 : I 0 e1) (st : ∀ i env d, ds[i]? = some d → I i env → ∃ ea eb, g d env = some ea ∧ S ea = some (.nx eb) ∧ I (i + 1) eb) (h3 : ∀ e', I ds.length e' → ∃ o, S' e' = some o ∧ Q o) : ∃ o, sSeq (sFor np w g S) S' env = some o ∧ Q o := by
  obtain ⟨e', h4, h5⟩ := loop_inv (g := g) (S := S) (I := I) ds 0 e1 h0 fun i env d hd hI => by
    have := st i env d hd (by simpa using hI)
    simpa using this
  exact ex_seq (ev_for h1 h2 h4) (h3 e' (by simpa using h5))
theorem ex_end {o : Out} (h : S env = some o) (hq : Q o) : ∃ o, S env = some o ∧ Q o := ⟨o, h, hq⟩
end
theorem ex_ret {env : Env'} {S : SF} {pe : List SV} {o : Out} {r : RV × List SV} {Q : RV × List SV → Prop} (h1 : S env = some o) (h2 : fnK pe o = some r) (h3 : Q r) : ∃ o, S env = some o ∧ ∃ r, fnK pe o = some r ∧ Q r := ⟨o, h1, r, h2, h3⟩
theorem allR (n : Nat) : allD [.lst (List.replicate n (.bl true))] = some (.dat (.bl true)) := by
  have h : ∀ n, bools (List.replicate n (.bl true)) = some (List.replicate n true) := fun n => by
    induction n with
    | zero => rfl
    | succ n ih => rw [List.replicate_succ, List.replicate_succ]; show (bools _).map _ = _; rw [ih]; rfl
  show (bools _).map _ = _
  rw [h]
  simp
/-! sorting -/
theorem leD_iff (a b : D) : leD a b = !PySem.W.dataLt (encD b) (encD a) := rfl
theorem leD_total (a b : D) : (leD a b || leD b a) = true := by
  rw [leD_iff, leD_iff]
  cases h : PySem.W.dataLt (encD b) (encD a) with
  | false => rfl
  | true =>
    cases h2 : PySem.W.dataLt (encD a) (encD b) with
    | false => rfl
    | true =>
      have := PyProof.Rows.lex_trans _ _ _ h h2
      rw [PyProof.Rows.lex_irrefl] at this
      cases this
theorem leD_trans (a b c : D) (h1 : leD a b = true) (h2 : leD b c = true) : leD a c = true := by
  rw [leD_iff] at *
  rw [Bool.not_eq_true'] at *
  cases h : PySem.W.dataLt (encD c) (encD a) with
  | false => rfl
  | true =>
    rcases PyProof.Rows.lex_negTrans _ (PySem.W.keyToks (encD b)) _ h with q | q
    · rw [show PyProof.Rows.lexLt PyProof.Rows.itemOrd _ _ = _ from h2] at q; cases q
    · rw [show PyProof.Rows.lexLt PyProof.Rows.itemOrd _ _ = _ from h1] at q; cases q
theorem leD_toks {a b : D} (h1 : leD a b = true) (h2 : leD b a = true) : PySem.W.keyToks (encD a) = PySem.W.keyToks (encD b) := by
  rw [leD_iff, Bool.not_eq_true'] at h1 h2
  exact PyProof.Rows.lex_total _ _ h2 h1
theorem sort_same {l m : List D} (p : l.Perm m) (an : ∀ a b, a ∈ l → b ∈ l → leD a b = true → leD b a = true → a = b) : l.mergeSort leD = m.mergeSort leD := by
  refine List.Perm.eq_of_pairwise (le := fun a b => leD a b = true) (fun a b ha hb => ?_) (List.pairwise_mergeSort leD_trans leD_total l) (List.pairwise_mergeSort leD_trans leD_total m) ((List.mergeSort_perm l leD).trans (p.trans (List.mergeSort_perm m leD).symm))
  exact an a b ((List.mergeSort_perm l leD).mem_iff.mp ha) (p.mem_iff.mpr ((List.mergeSort_perm m leD).mem_iff.mp hb))
end Den
end

section
set_option Elab.async false
set_option linter.all false
set_option maxRecDepth 100000
set_option maxHeartbeats 4000000
/-! DenTri: words in texts: where they are found, the bridges, as data. -/
namespace Den
open PySem L2
def Lw (w : List Nat) : Prop := ∀ c ∈ w, 97 ≤ c ∧ c ≤ 122
structure Wd (w : List Nat) : Prop where
  ne : w ≠ []
  lw : Lw w
theorem Wd.pos {w : List Nat} (h : Wd w) : 1 ≤ w.length := by
  have := h.ne
  cases w with
  | nil => exact absurd rfl this
  | cons a l => rw [List.length_cons]; omega
theorem Lw.app {a b : List Nat} (h : Lw a) (h' : Lw b) : Lw (a ++ b) := fun c hc => by
  rcases List.mem_append.mp hc with q | q
  · exact h c q
  · exact h' c q
theorem Lw.drop {a : List Nat} (h : Lw a) (n : Nat) : Lw (a.drop n) := fun c hc => h c (List.mem_of_mem_drop hc)
theorem Lw.take {a : List Nat} (h : Lw a) (n : Nat) : Lw (a.take n) := fun c hc => h c (List.mem_of_mem_take hc)
/-- where w stands in q -/
def atB (q w : List Nat) (k : Nat) : Bool := decide ((q.drop k).take w.length = w)
def fnd (q w : List Nat) : List Nat := (List.range q.length).filter (atB q w)
def fF (q w : List Nat) : D → Option D
  | .int k => if atB q w k.toNat then some (.int k) else none
  | _ => none
def natsD (ns : List Nat) : List D := ns.map fun (k : Nat) => .int (k : Int)
theorem fF_rng (q w : List Nat) (n : Nat) : (rangeD 0 n).filterMap (fF q w) = natsD ((List.range n).filter (atB q w)) := by
  unfold rangeD natsD
  rw [List.filterMap_map]
  generalize List.range n = l
  induction l with
  | nil => rfl
  | cons a l ih =>
    have e : (fF q w ∘ fun (i : Nat) => D.int (0 + (i : Int))) a = if atB q w a then some (.int (a : Int)) else none := by
      show (if atB q w (0 + (a : Int)).toNat then some (D.int (0 + (a : Int))) else none) = _
      rw [Int.zero_add, Int.toNat_natCast]
    by_cases h : atB q w a = true
    · rw [List.filter_cons_of_pos h, List.map_cons, List.filterMap_cons_some (b := .int (a : Int)) (by rw [e, if_pos h]), ih]
    · rw [List.filter_cons_of_neg h, List.filterMap_cons_none (by rw [e, if_neg h]), ih]
theorem atB_len {q w : List Nat} {k : Nat} (h : atB q w k = true) : w.length ≤ q.length - k := by
  have := congrArg List.length (of_decide_eq_true h)
  rw [List.length_take, List.length_drop] at this
  omega
theorem fnd_short {q w : List Nat} (hw : 1 ≤ w.length) : (List.range (q.length + 1 - w.length)).filter (atB q w) = fnd q w := by
  unfold fnd
  have e : q.length = (q.length + 1 - w.length) + (q.length - (q.length + 1 - w.length)) := by omega
  generalize q.length - (q.length + 1 - w.length) = b at e
  have e2 : List.range q.length = List.range (q.length + 1 - w.length) ++ (List.range b).map fun x => (q.length + 1 - w.length) + x := by
    conv => lhs; rw [e]
    exact List.range_add
  rw [e2, List.filter_append]
  have : ((List.range b).map fun x => (q.length + 1 - w.length) + x).filter (atB q w) = [] := by
    rw [List.filter_eq_nil_iff]
    intro k hk hB
    obtain ⟨x, hx, rfl⟩ := List.mem_map.mp hk
    have := atB_len hB
    omega
  rw [this, List.append_nil]
theorem fnd_mem {q w : List Nat} {k : Nat} (h : k ∈ fnd q w) : k < q.length ∧ (q.drop k).take w.length = w := by
  obtain ⟨h1, h2⟩ := List.mem_filter.mp h
  exact ⟨List.mem_range.mp h1, of_decide_eq_true h2⟩
theorem fnd_len (q w : List Nat) : (fnd q w).length ≤ q.length := by
  unfold fnd
  exact Nat.le_trans (List.length_filter_le _ _) (by rw [List.length_range]; exact Nat.le_refl _)
/-! bridges -/
def tri (k : Nat) (w : List Nat) : D := .tup [.int (k : Int), .int ((k : Int) + (w.length : Int)), .str (Tx w)]
def trisOf (q w : List Nat) : List D := (fnd q w).map fun k => tri k w
def links (ws : List (List Nat)) (q : List Nat) : List D := ws.flatMap (trisOf q)
def Tri (d : D) : Prop := ∃ k w, d = tri k w ∧ k + w.length ≤ 24
theorem links_tri {ws : List (List Nat)} {q : List Nat} (hq : q.length ≤ 24) : ∀ d ∈ links ws q, Tri d := by
  intro d hd
  obtain ⟨w, _, h⟩ := List.mem_flatMap.mp hd
  obtain ⟨k, hk, rfl⟩ := List.mem_map.mp h
  obtain ⟨h1, h2⟩ := fnd_mem hk
  have := congrArg List.length h2
  rw [List.length_take, List.length_drop] at this
  exact ⟨k, w, rfl, by omega⟩
theorem links_len (ws : List (List Nat)) (q : List Nat) : (links ws q).length ≤ ws.length * q.length := by
  unfold links
  induction ws with
  | nil => simp
  | cons w ws ih =>
    rw [List.flatMap_cons, List.length_append, List.length_cons]
    have h1 : (trisOf q w).length ≤ q.length := by unfold trisOf; rw [List.length_map]; exact fnd_len q w
    have : (ws.length + 1) * q.length = ws.length * q.length + q.length := by rw [Nat.add_mul, Nat.one_mul]
    omega
theorem tri_enc (k : Nat) (w : List Nat) : toPy (tri k w) = some (.tuple [.int (k : Int), .int ((k : Int) + (w.length : Int)), .str (Tx w)]) := by
  simp [tri, toPy, toPyAll]
def pyTri (d : D) : PyData := encD d
theorem tri_encD (k : Nat) (w : List Nat) : encD (tri k w) = .tuple [.int (k : Int), .int ((k : Int) + (w.length : Int)), .str (Tx w)] := by
  unfold encD
  rw [tri_enc]; rfl
theorem toPyAll_tri : ∀ ds : List D, (∀ d ∈ ds, Tri d) → toPyAll ds = some (ds.map encD)
  | [], _ => by simp [toPyAll]
  | d :: ds, h => by
    obtain ⟨k, w, e, _⟩ := h d List.mem_cons_self
    have ih := toPyAll_tri ds fun x hx => h x (List.mem_cons_of_mem _ hx)
    rw [toPyAll, List.map_cons, e, tri_encD, tri_enc, ih]
theorem sortB_tri {ds : List D} (h : ∀ d ∈ ds, Tri d) (hl : ds.length ≤ 300) : sortB ds = true := by
  unfold sortB
  rw [toPyAll_tri ds h]
  have e : ∀ p ∈ ds.map encD, ∃ (k : Nat) (w : List Nat), p = .tuple [.int (k : Int), .int ((k : Int) + (w.length : Int)), .str (Tx w)] := by
    intro p hp
    obtain ⟨d, hd, rfl⟩ := List.mem_map.mp hp
    obtain ⟨k, w, rfl, _⟩ := h d hd
    exact ⟨k, w, tri_encD k w⟩
  simp only [Bool.and_eq_true, decide_eq_true_eq]
  refine ⟨⟨⟨Nat.le_trans hl (by decide), ?_⟩, ?_⟩, ?_⟩
  · unfold allAlike
    rw [List.all_eq_true]
    intro p hp
    rw [List.all_eq_true]
    intro r hr
    obtain ⟨k, w, rfl⟩ := e p hp
    obtain ⟨k', w', rfl⟩ := e r hr
    simp [PySem.W.alike, PySem.W.alikeAll]
  · rw [Bool.or_eq_true]
    refine .inl ?_
    rw [List.all_eq_true]
    intro p hp
    obtain ⟨k, w, rfl⟩ := e p hp
    rfl
  · rw [List.all_eq_true]
    intro p hp
    obtain ⟨k, w, rfl⟩ := e p hp
    simp [PyData.depth, PyData.depthAll]
theorem tri_anti {a b : D} (ha : Tri a) (hb : Tri b) (h1 : leD a b = true) (h2 : leD b a = true) : a = b := by
  obtain ⟨k, w, rfl, _⟩ := ha
  obtain ⟨k', w', rfl, _⟩ := hb
  have := leD_toks h1 h2
  rw [tri_encD, tri_encD] at this
  simp only [PySem.W.keyToks, PySem.W.keyToksAll, List.cons_append, List.nil_append, List.cons.injEq, Sum.inl.injEq, Sum.inr.injEq, Tx_cps, and_true, true_and] at this
  obtain ⟨t1, _, t3⟩ := this
  have : k = k' := by omega
  subst this
  subst t3
  rfl
theorem sort_links {ws ws' : List (List Nat)} {q : List Nat} (p : ws'.Perm ws) (hq : q.length ≤ 24) : (links ws' q).mergeSort leD = (links ws q).mergeSort leD :=
  sort_same (p.flatMap_right _) fun a b ha hb => tri_anti (links_tri hq a ha) (links_tri hq b hb)
theorem sorted_tri {ds : List D} (h : ∀ d ∈ ds, Tri d) (hl : ds.length ≤ 300) : sortedD [.lst ds] = some (.own (.lst (ds.mergeSort leD))) := by
  show (if sortB ds then _ else _) = _
  rw [if_pos (sortB_tri h hl)]
/-! shown -/
theorem show_of {ds : List D} {ps : List PyData} (h : toPyAll ds = some ps) (hd : PyData.depth (.list ps) ≤ 64) (hs : PyData.showableAll ps = true) (hl : PyData.leavesShortAll 13 ps = true) (hw : PyData.weightAll ps ≤ 2 ^ 20) : ∃ x, reprD [.lst ds] = some (.dat (.str x)) := by
  refine ⟨(PyData.list ps).shown, ?_⟩
  have e : toPy (.lst ds) = some (.list ps) := by rw [toPy, h]; rfl
  have b : (PyData.list ps).shown.length ≤ sizeLine := PyData.shown_fits (B := 13) (by decide) (by decide) (by simpa [PyData.leavesShort] using hl) (by simpa [PyData.weight] using hw)
  have s : (PyData.list ps).showable = true := by simpa [PyData.showable] using hs
  simp only [reprD, isRefD, if_true]
  unfold showD
  rw [e]
  dsimp only
  rw [s, if_pos (by simp only [Bool.true_and, Bool.and_eq_true, decide_eq_true_eq]; exact ⟨hd, b⟩)]
  rfl
theorem int_short {i : Int} (h : i.natAbs < 10 ^ 12) : decide ((PyData.int i).shown.length ≤ 13) = true := by
  rw [decide_eq_true_eq]; exact PyData.shown_int_le h
theorem int_log {i : Int} (h : i.natAbs < 2 ^ 40) : i.natAbs.log2 < 40 := by
  by_cases z : i.natAbs = 0
  · rw [z]; decide
  · rwa [Nat.log2_lt z]
theorem int_wt {i : Int} (h : i.natAbs < 2 ^ 40) : (PyData.int i).weight ≤ 40 := by
  unfold PyData.weight
  split
  · omega
  · have := int_log h; omega
theorem show_nats {ns : List Nat} (h : ∀ n ∈ ns, n < 1000) (hl : ns.length ≤ 1000) : ∃ x, reprD [.lst (natsD ns)] = some (.dat (.str x)) := by
  have key : ∀ ns : List Nat, (∀ n ∈ ns, n < 1000) → toPyAll (natsD ns) = some (ns.map fun (k : Nat) => PyData.int (k : Int)) ∧ PyData.depthAll (ns.map fun (k : Nat) => PyData.int (k : Int)) = 0 ∧ PyData.showableAll (ns.map fun (k : Nat) => PyData.int (k : Int)) = true ∧ PyData.leavesShortAll 13 (ns.map fun (k : Nat) => PyData.int (k : Int)) = true ∧ PyData.weightAll (ns.map fun (k : Nat) => PyData.int (k : Int)) ≤ ns.length * 41 := by
    intro ns h
    induction ns with
    | nil => simp [natsD, toPyAll, PyData.depthAll, PyData.showableAll, PyData.leavesShortAll, PyData.weightAll]
    | cons n ns ih =>
      obtain ⟨i1, i2, i3, i4, i5⟩ := ih fun x hx => h x (List.mem_cons_of_mem _ hx)
      have hn : (n : Int).natAbs < 1000 := by have := h n List.mem_cons_self; omega
      have w := int_wt (i := (n : Int)) (by omega)
      have l := int_log (i := (n : Int)) (by omega)
      refine ⟨?_, ?_, ?_, ?_, ?_⟩
      · show toPyAll (.int (n : Int) :: natsD ns) = _
        rw [toPyAll, i1]; simp [toPy]
      · rw [List.map_cons, PyData.depthAll, i2]; simp [PyData.depth]
      · rw [List.map_cons, PyData.showableAll, i3]; simp only [PyData.showable, Bool.and_true, decide_eq_true_eq]; omega
      · rw [List.map_cons, PyData.leavesShortAll, i4, PyData.leavesShort, int_short (by omega)]; rfl
      · rw [List.map_cons, PyData.weightAll, List.length_cons]; omega
  obtain ⟨k1, k2, k3, k4, k5⟩ := key ns h
  exact show_of k1 (by rw [PyData.depth, k2]; omega) k3 k4 (by have : ns.length * 41 ≤ 1000 * 41 := Nat.mul_le_mul hl (Nat.le_refl _); omega)
theorem show_tri {ds : List D} (h : ∀ d ∈ ds, Tri d ∧ ∃ k w, d = tri k w ∧ k + w.length ≤ 24 ∧ Lw w) (hl : ds.length ≤ 300) : ∃ x, reprD [.lst ds] = some (.dat (.str x)) := by
  have key : ∀ ds : List D, (∀ d ∈ ds, ∃ k w, d = tri k w ∧ k + w.length ≤ 24 ∧ Lw w) → PyData.depthAll (ds.map encD) ≤ 1 ∧ PyData.showableAll (ds.map encD) = true ∧ PyData.leavesShortAll 13 (ds.map encD) = true ∧ PyData.weightAll (ds.map encD) ≤ ds.length * 200 := by
    intro ds h
    induction ds with
    | nil => simp [PyData.depthAll, PyData.showableAll, PyData.leavesShortAll, PyData.weightAll]
    | cons d ds ih =>
      obtain ⟨i2, i3, i4, i5⟩ := ih fun x hx => h x (List.mem_cons_of_mem _ hx)
      obtain ⟨k, w, rfl, hk, lw⟩ := h d List.mem_cons_self
      have w1 := int_wt (i := (k : Int)) (by omega)
      have w2 := int_wt (i := (k : Int) + (w.length : Int)) (by omega)
      have l1 := int_log (i := (k : Int)) (by omega)
      have l2 := int_log (i := (k : Int) + (w.length : Int)) (by omega)
      have hsz : (Tx w).cps.size = w.length := Tx_len w
      refine ⟨?_, ?_, ?_, ?_⟩
      · rw [List.map_cons, tri_encD, PyData.depthAll]; simp only [PyData.depth, PyData.depthAll]; omega
      · rw [List.map_cons, tri_encD, PyData.showableAll, i3]; simp only [PyData.showable, PyData.showableAll, Bool.and_true, Bool.and_eq_true, decide_eq_true_eq]; omega
      · rw [List.map_cons, tri_encD, PyData.leavesShortAll, i4, PyData.leavesShort, PyData.leavesShortAll, PyData.leavesShortAll, PyData.leavesShortAll, PyData.leavesShortAll, PyData.leavesShort, PyData.leavesShort, PyData.leavesShort, int_short (by omega), int_short (by omega)]
        simp only [Bool.true_and, Bool.and_true, List.all_eq_true, decide_eq_true_eq, Tx_cps]
        intro c hc
        have := lw c hc
        have e : (16 : Nat) ^ 8 = 4294967296 := by decide
        omega
      · rw [List.map_cons, tri_encD, PyData.weightAll, List.length_cons]
        simp only [PyData.weight, PyData.weightAll] at w1 w2 ⊢
        omega
  obtain ⟨k2, k3, k4, k5⟩ := key ds fun d hd => (h d hd).2
  exact show_of (toPyAll_tri ds fun d hd => (h d hd).1) (by rw [PyData.depth]; omega) k3 k4 (by have : ds.length * 200 ≤ 300 * 200 := Nat.mul_le_mul hl (Nat.le_refl _); omega)
end Den
end

section
set_option Elab.async false
set_option linter.all false
set_option maxRecDepth 100000
set_option maxHeartbeats 4000000
namespace K13
open PySem L2 Den
abbrev top (i : Nat) : Stmt := PySem.Challenge.pw_walksback_k13_whole_bridges.main.body.getD i (.Pass ⟨0, 0, 0, 0⟩)
abbrev s__wall : Stmt := top 0
def d__wall : Df := { nm := "_wall", ps := ["k"], N := ["k"], names := (defScope s__wall).names, mu := [], io := [false], ds := [], shs := [⟨1, [], [0]⟩], fz := [], body := defBody s__wall }
abbrev s_is_integer : Stmt := top 13
def d_is_integer : Df := { nm := "is_integer", ps := ["value"], N := ["value"], names := (defScope s_is_integer).names, mu := [], io := [false], ds := [], shs := [⟨1, [], [0]⟩], fz := [], body := defBody s_is_integer }
abbrev s_is_letter : Stmt := top 14
def d_is_letter : Df := { nm := "is_letter", ps := ["value"], N := ["value"], names := (defScope s_is_letter).names, mu := [], io := [false], ds := [], shs := [⟨1, [], [0]⟩], fz := [], body := defBody s_is_letter }
abbrev s_is_word : Stmt := top 15
def d_is_word : Df := { nm := "is_word", ps := ["value"], N := ["value", "letter"], names := (defScope s_is_word).names, mu := [], io := [false], ds := [], shs := [⟨1, [], [0]⟩], fz := [], body := defBody s_is_word }
abbrev s_is_question : Stmt := top 16
def d_is_question : Df := { nm := "is_question", ps := ["value"], N := ["value"], names := (defScope s_is_question).names, mu := [], io := [false], ds := [], shs := [⟨1, [], [0]⟩], fz := [], body := defBody s_is_question }
abbrev s_is_list : Stmt := top 17
def d_is_list : Df := { nm := "is_list", ps := ["value"], N := ["value"], names := (defScope s_is_list).names, mu := [], io := [false], ds := [], shs := [⟨1, [], [0]⟩], fz := [], body := defBody s_is_list }
abbrev s_in_sequence : Stmt := top 18
def d_in_sequence : Df := { nm := "in_sequence", ps := ["words"], N := ["words", "position", "word"], names := (defScope s_in_sequence).names, mu := [], io := [false], ds := [], shs := [⟨1, [], [0]⟩], fz := [], body := defBody s_in_sequence }
abbrev s_sequence_key : Stmt := top 19
def d_sequence_key : Df := { nm := "sequence_key", ps := ["word"], N := ["word"], names := (defScope s_sequence_key).names, mu := [], io := [false], ds := [], shs := [], fz := [], body := defBody s_sequence_key }
abbrev s_is_place : Stmt := top 21
def d_is_place : Df := { nm := "is_place", ps := ["question", "value"], N := ["question", "value"], names := (defScope s_is_place).names, mu := [], io := [false, false], ds := [], shs := [⟨2, [], [0, 1]⟩], fz := [], body := defBody s_is_place }
abbrev s_check_question : Stmt := top 22
def d_check_question : Df := { nm := "check_question", ps := ["question"], N := ["question"], names := (defScope s_check_question).names, mu := [], io := [false], ds := [], shs := [⟨1, [], [0]⟩], fz := [], body := defBody s_check_question }
abbrev s_check_place : Stmt := top 23
def d_check_place : Df := { nm := "check_place", ps := ["question", "place"], N := ["question", "place"], names := (defScope s_check_place).names, mu := [], io := [false, false], ds := [], shs := [⟨2, [], [0, 1]⟩], fz := [], body := defBody s_check_place }
abbrev s_found_at : Stmt := top 25
def d_found_at : Df := { nm := "found_at", ps := ["question", "word"], N := ["question", "word", "place"], names := (defScope s_found_at).names, mu := [], io := [false, false], ds := [], shs := [⟨2, [], [0, 1]⟩, ⟨0, ["word", "question"], [1, 0]⟩], fz := [], body := defBody s_found_at }
abbrev s_bridges : Stmt := top 26
def d_bridges : Df := { nm := "bridges", ps := ["lot", "question"], N := ["lot", "question", "word", "place"], names := (defScope s_bridges).names, mu := [], io := [false, false], ds := [], shs := [⟨2, [], [0, 1]⟩, ⟨0, ["question", "lot"], [1, 0]⟩], fz := [], body := defBody s_bridges }
abbrev s_bridges_at : Stmt := top 27
def d_bridges_at : Df := { nm := "bridges_at", ps := ["lot", "question", "place"], N := ["lot", "question", "place", "bridge"], names := (defScope s_bridges_at).names, mu := [], io := [false, false, false], ds := [], shs := [⟨3, [], [0, 1, 2]⟩, ⟨0, ["place", "question", "lot"], [2, 1, 0]⟩], fz := [], body := defBody s_bridges_at }
abbrev s_is_lot_word : Stmt := top 30
def d_is_lot_word : Df := { nm := "is_lot_word", ps := ["value"], N := ["value"], names := (defScope s_is_lot_word).names, mu := [], io := [false], ds := [], shs := [⟨1, [], [0]⟩], fz := [], body := defBody s_is_lot_word }
abbrev s_check_lot_words : Stmt := top 31
def d_check_lot_words : Df := { nm := "check_lot_words", ps := ["words"], N := ["words", "ahead", "position", "word"], names := (defScope s_check_lot_words).names, mu := [1], io := [false], ds := [], shs := [⟨1, [], [0]⟩], fz := [[], [], [], [1]], body := defBody s_check_lot_words }
abbrev s_check_lot : Stmt := top 32
def d_check_lot : Df := { nm := "check_lot", ps := ["value"], N := ["value"], names := (defScope s_check_lot).names, mu := [], io := [false], ds := [], shs := [⟨1, [], [0]⟩], fz := [], body := defBody s_check_lot }
abbrev s__law_pot : Stmt := top 34
def d__law_pot : Df := { nm := "_law_pot", ps := ["_law_script", "_law_k"], N := ["_law_script", "_law_k", "_law_seed"], names := (defScope s__law_pot).names, mu := [], io := [false, false], ds := [], shs := [⟨2, [], [0, 1]⟩], fz := [], body := defBody s__law_pot }
abbrev s__law_draw : Stmt := top 35
def d__law_draw : Df := { nm := "_law_draw", ps := ["_law_pot_here", "_law_faces"], N := ["_law_pot_here", "_law_faces", "_law_digit"], names := (defScope s__law_draw).names, mu := [0], io := [true, false], ds := [], shs := [⟨2, [], [0, 1]⟩], fz := [], body := defBody s__law_draw }
abbrev s__law_pick : Stmt := top 36
def d__law_pick : Df := { nm := "_law_pick", ps := ["_law_pot_here", "_law_some"], N := ["_law_pot_here", "_law_some"], names := (defScope s__law_pick).names, mu := [0], io := [true, false], ds := [], shs := [⟨2, [], [0, 1]⟩], fz := [], body := defBody s__law_pick }
abbrev s__law_term : Stmt := top 37
def d__law_term : Df := { nm := "_law_term", ps := ["_law_pot_here", "_law_signs", "_law_most"], N := ["_law_pot_here", "_law_signs", "_law_most", "_law_turn"], names := (defScope s__law_term).names, mu := [0], io := [true, false, false], ds := [], shs := [⟨3, [], [0, 1, 2]⟩], fz := [], body := defBody s__law_term }
abbrev s__law_terms : Stmt := top 38
def d__law_terms : Df := { nm := "_law_terms", ps := ["_law_pot_here", "_law_signs", "_law_many", "_law_most"], N := ["_law_pot_here", "_law_signs", "_law_many", "_law_most", "_law_found_here", "_law_turn", "_law_term_here"], names := (defScope s__law_terms).names, mu := [0, 4], io := [true, false, false, false], ds := [], shs := [⟨4, [], [0, 1, 2, 3]⟩], fz := [], body := defBody s__law_terms }
abbrev s__law_asked : Stmt := top 40
def d__law_asked : Df := { nm := "_law_asked", ps := ["_law_pot_here", "_law_terms_here", "_law_signs", "_law_most"], N := ["_law_pot_here", "_law_terms_here", "_law_signs", "_law_most", "_law_found_here", "_law_turn", "_law_more"], names := (defScope s__law_asked).names, mu := [0], io := [true, false, false, false], ds := [], shs := [⟨4, [], [0, 1, 2, 3]⟩], fz := [], body := defBody s__law_asked }
abbrev s__law_found : Stmt := top 41
def d__law_found : Df := { nm := "_law_found", ps := ["_law_asked_here", "_law_term_here"], N := ["_law_asked_here", "_law_term_here", "_law_k"], names := (defScope s__law_found).names, mu := [], io := [false, false], ds := [], shs := [⟨2, [], [0, 1]⟩], fz := [], body := defBody s__law_found }
abbrev s__law_links : Stmt := top 42
def d__law_links : Df := { nm := "_law_links", ps := ["_law_terms_here", "_law_asked_here"], N := ["_law_terms_here", "_law_asked_here", "_law_found_here", "_law_term_here", "_law_k"], names := (defScope s__law_links).names, mu := [2], io := [false, false], ds := [], shs := [⟨2, [], [0, 1]⟩], fz := [[], [], [2]], body := defBody s__law_links }
abbrev s__law_found_right : Stmt := top 43
def d__law_found_right : Df := { nm := "_law_found_right", ps := ["_law_pot_here", "_law_asked_here", "_law_terms_here"], N := ["_law_pot_here", "_law_asked_here", "_law_terms_here", "_law_some", "_law_term_here", "_law_due", "_law_told"], names := (defScope s__law_found_right).names, mu := [0, 6], io := [true, false, false], ds := [], shs := [⟨3, [], [0, 1, 2]⟩], fz := [[], [], [6]], body := defBody s__law_found_right }
abbrev s__law_links_right : Stmt := top 44
def d__law_links_right : Df := { nm := "_law_links_right", ps := ["_law_lot", "_law_terms_here", "_law_asked_here"], N := ["_law_lot", "_law_terms_here", "_law_asked_here", "_law_due", "_law_told", "_law_spot", "_law_own", "_law_link"], names := (defScope s__law_links_right).names, mu := [4], io := [false, false, false], ds := [], shs := [⟨3, [], [0, 1, 2]⟩], fz := [[], [], [], [], [], [], [4]], body := defBody s__law_links_right }
abbrev s__law_right : Stmt := top 45
def d__law_right : Df := { nm := "_law_right", ps := ["_law_pot_here"], N := ["_law_pot_here", "_law_signs", "_law_terms_here", "_law_lot", "_law_turn", "_law_asked_here"], names := (defScope s__law_right).names, mu := [0], io := [true], ds := [], shs := [⟨1, [], [0]⟩], fz := [], body := defBody s__law_right }
abbrev s_law : Stmt := top 46
def d_law : Df := { nm := "law", ps := ["_law_script"], N := ["_law_script", "_law_k"], names := (defScope s_law).names, mu := [], io := [false], ds := [], shs := [], fz := [], body := defBody s_law }
abbrev s_Lot___init__ : Stmt := inClass (top 29) 2
def d_Lot___init__ : Df := { nm := "__init__", ps := ["self", "words"], N := ["self", "words"], names := (defScope s_Lot___init__).names, mu := [0], io := [true, false], ds := [], shs := [⟨1, [], [0]⟩], fz := [], body := defBody s_Lot___init__ }
abbrev s_Lot_words : Stmt := inClass (top 29) 3
def d_Lot_words : Df := { nm := "words", ps := ["self"], N := ["self"], names := (defScope s_Lot_words).names, mu := [], io := [false], ds := [], shs := [], fz := [], body := defBody s_Lot_words }
abbrev s_Lot_letters : Stmt := inClass (top 29) 4
def d_Lot_letters : Df := { nm := "letters", ps := ["self"], N := ["self"], names := (defScope s_Lot_letters).names, mu := [], io := [false], ds := [], shs := [], fz := [], body := defBody s_Lot_letters }
abbrev s_Lot_longest : Stmt := inClass (top 29) 5
def d_Lot_longest : Df := { nm := "longest", ps := ["self"], N := ["self"], names := (defScope s_Lot_longest).names, mu := [], io := [false], ds := [], shs := [], fz := [], body := defBody s_Lot_longest }
abbrev s_Lot_shortest : Stmt := inClass (top 29) 6
def d_Lot_shortest : Df := { nm := "shortest", ps := ["self"], N := ["self"], names := (defScope s_Lot_shortest).names, mu := [], io := [false], ds := [], shs := [], fz := [], body := defBody s_Lot_shortest }
abbrev s_Lot_renamed : Stmt := inClass (top 29) 7
def d_Lot_renamed : Df := { nm := "renamed", ps := ["self", "names"], N := ["self", "names"], names := (defScope s_Lot_renamed).names, mu := [], io := [false, false], ds := [], shs := [], fz := [], body := defBody s_Lot_renamed }
abbrev s_Lot_backwards : Stmt := inClass (top 29) 8
def d_Lot_backwards : Df := { nm := "backwards", ps := ["self"], N := ["self"], names := (defScope s_Lot_backwards).names, mu := [], io := [false], ds := [], shs := [], fz := [], body := defBody s_Lot_backwards }
abbrev s_Lot_is_within : Stmt := inClass (top 29) 9
def d_Lot_is_within : Df := { nm := "is_within", ps := ["self", "other"], N := ["self", "other"], names := (defScope s_Lot_is_within).names, mu := [], io := [false, false], ds := [], shs := [], fz := [], body := defBody s_Lot_is_within }
abbrev s_Lot___len__ : Stmt := inClass (top 29) 10
def d_Lot___len__ : Df := { nm := "__len__", ps := ["self"], N := ["self"], names := (defScope s_Lot___len__).names, mu := [], io := [false], ds := [], shs := [], fz := [], body := defBody s_Lot___len__ }
abbrev s_Lot___contains__ : Stmt := inClass (top 29) 11
def d_Lot___contains__ : Df := { nm := "__contains__", ps := ["self", "x"], N := ["self", "x"], names := (defScope s_Lot___contains__).names, mu := [], io := [false, false], ds := [], shs := [], fz := [], body := defBody s_Lot___contains__ }
abbrev s_Lot___iter__ : Stmt := inClass (top 29) 12
def d_Lot___iter__ : Df := { nm := "__iter__", ps := ["self"], N := ["self"], names := (defScope s_Lot___iter__).names, mu := [], io := [false], ds := [], shs := [], fz := [], body := defBody s_Lot___iter__ }
abbrev s_Lot___eq__ : Stmt := inClass (top 29) 13
def d_Lot___eq__ : Df := { nm := "__eq__", ps := ["self", "other"], N := ["self", "other"], names := (defScope s_Lot___eq__).names, mu := [], io := [false, false], ds := [], shs := [], fz := [], body := defBody s_Lot___eq__ }
abbrev s_Lot___repr__ : Stmt := inClass (top 29) 14
def d_Lot___repr__ : Df := { nm := "__repr__", ps := ["self"], N := ["self"], names := (defScope s_Lot___repr__).names, mu := [], io := [false], ds := [], shs := [], fz := [], body := defBody s_Lot___repr__ }
abbrev s_Lot___add__ : Stmt := inClass (top 29) 15
def d_Lot___add__ : Df := { nm := "__add__", ps := ["self", "other"], N := ["self", "other"], names := (defScope s_Lot___add__).names, mu := [], io := [false, false], ds := [], shs := [], fz := [], body := defBody s_Lot___add__ }
abbrev s_Lot___sub__ : Stmt := inClass (top 29) 16
def d_Lot___sub__ : Df := { nm := "__sub__", ps := ["self", "other"], N := ["self", "other", "word"], names := (defScope s_Lot___sub__).names, mu := [], io := [false, false], ds := [], shs := [], fz := [], body := defBody s_Lot___sub__ }
abbrev s_Lot___or__ : Stmt := inClass (top 29) 17
def d_Lot___or__ : Df := { nm := "__or__", ps := ["self", "other"], N := ["self", "other", "word"], names := (defScope s_Lot___or__).names, mu := [], io := [false, false], ds := [], shs := [], fz := [], body := defBody s_Lot___or__ }
abbrev s_Lot___and__ : Stmt := inClass (top 29) 18
def d_Lot___and__ : Df := { nm := "__and__", ps := ["self", "other"], N := ["self", "other", "word"], names := (defScope s_Lot___and__).names, mu := [], io := [false, false], ds := [], shs := [], fz := [], body := defBody s_Lot___and__ }
def c_Lot : Cdf := { nm := "Lot", c := 0, flds := ["_words"], ini := d_Lot___init__, cvals := [("MOST_WORDS", .int (10)), ("MOST_LETTERS", .int (12))], ms := [d_Lot_words, d_Lot_letters, d_Lot_longest, d_Lot_shortest, d_Lot_renamed, d_Lot_backwards, d_Lot_is_within], cms := [], props := [], bins := [("add", d_Lot___add__), ("sub", d_Lot___sub__)], rbins := [], uns := [("__repr__", d_Lot___repr__)], eq := some d_Lot___eq__ }
def prg : Prg := { fuel := 60, dfs := [d__wall, d_is_integer, d_is_letter, d_is_word, d_is_question, d_is_list, d_in_sequence, d_sequence_key, d_is_place, d_check_question, d_check_place, d_found_at, d_bridges, d_bridges_at, d_is_lot_word, d_check_lot_words, d_check_lot, d__law_pot, d__law_draw, d__law_pick, d__law_term, d__law_terms, d__law_asked, d__law_found, d__law_links, d__law_found_right, d__law_links_right, d__law_right, d_law], cons := [("MOST_QUESTION_LETTERS", .int (24))], cls := [c_Lot], isi := [((.inl "NoneType", .inr 0), false), ((.inl "bool", .inr 0), false), ((.inl "int", .inr 0), false), ((.inl "str", .inr 0), false), ((.inl "list", .inr 0), false), ((.inl "tuple", .inr 0), false), ((.inl "dict", .inr 0), false), ((.inr 0, .inr 0), true), ((.inr 0, .inl "bool"), false), ((.inr 0, .inl "int"), false), ((.inr 0, .inl "str"), false), ((.inr 0, .inl "list"), false), ((.inr 0, .inl "tuple"), false), ((.inr 0, .inl "dict"), false)], gcds := [], keys := ["sequence_key"], walk := [(0, "_words")] }
end K13
end

section
set_option Elab.async false
set_option linter.all false
set_option maxRecDepth 100000
set_option maxHeartbeats 4000000
namespace K13
open PySem L2 Den
theorem tb_0 (n : Nat) : (tab prg (n+1)).okF 0 "_words" = true := by kernel_rfl!
theorem tb_1 (n : Nat) : (tab prg (n+1)).prop "_words" 0 = none := by kernel_rfl!
theorem tb_2 (n : Nat) : (tab prg (n+1)).eqL 0 = some (d_Lot___eq__.F (tab prg n) 60) := by kernel_rfl!
theorem tb_3 (n : Nat) : (tab prg (n+1)).unL "__repr__" 0 = some (d_Lot___repr__.F (tab prg n) 60) := by kernel_rfl!
theorem tb_4 (n : Nat) : (tab prg (n+1)).binL "add" 0 = some (d_Lot___add__.F (tab prg n) 60) := by kernel_rfl!
theorem tb_5 (n : Nat) : (tab prg (n+1)).binL "sub" 0 = some (d_Lot___sub__.F (tab prg n) 60) := by kernel_rfl!
theorem tb_6 (n : Nat) : (tab prg (n+1)).own 0 = some "_words" := by kernel_rfl!
-- TB tb_0 tb_1 tb_2 tb_3 tb_4 tb_5 tb_6
abbrev negD : D → Option RV := fun d => match d with
  | .int i => some (.dat (.int (-i)))
  | _ => none
theorem den__wall (n : Nat) : d__wall.F (tab prg (n+1)) 60 = fnF 1 (sSeq (sWhile 1 (bTruth (pC (.bl true))) (sSeq (fun env => some (.nx env)) sNil) 4096) sNil) := by kernel_rfl!
theorem den_is_integer (n : Nat) : d_is_integer.F (tab prg (n+1)) 60 = fnF 1 (sSeq (sRet 1 (pAnd (pCall (isi2D prg.isi) (aCons (pVar 0) (aCons (pC (.typ "int")) aNil))) (pNot (pCall (isi2D prg.isi) (aCons (pVar 0) (aCons (pC (.typ "bool")) aNil)))))) sNil) := by kernel_rfl!
theorem den_is_letter (n : Nat) : d_is_letter.F (tab prg (n+1)) 60 = fnF 1 (sSeq (sRet 1 (pAnd (pCall (isi2D prg.isi) (aCons (pVar 0) (aCons (pC (.typ "str")) aNil))) (pAnd (pCmpV false (tab prg (n+1)).eqL eqD (pCall lenD (aCons (pVar 0) aNil)) (pC (.int (1)))) (pChain (cmpD (fun i j => decide (i ≤ j)) fun i j => !ltS j i) (cmpD (fun i j => decide (i ≤ j)) fun i j => !ltS j i) (pC (.str "a")) (pVar 0) (pC (.str "z")))))) sNil) := by kernel_rfl!
theorem den_is_word (n : Nat) : d_is_word.F (tab prg (n+1)) 60 = fnF 2 (sSeq (sRet 1 (pAnd (pCall (isi2D prg.isi) (aCons (pVar 0) (aCons (pC (.typ "str")) aNil))) (pAnd (pBin (cmpD (fun i j => decide (j < i)) fun i j => ltS j i) (pCall lenD (aCons (pVar 0) aNil)) (pC (.int (0)))) (pCall allD (aCons (pLc [1] (iWalkV (tab prg (n+1)).own (pVar 0)) (gSet 0 1) (fun env => some (true, env)) (pFnS [false] (d_is_letter.F (tab prg n) 60) ⟨1, [], [0]⟩ [] (aCons (pVar 1) aNil) aNil)) aNil))))) sNil) := by kernel_rfl!
theorem den_is_question (n : Nat) : d_is_question.F (tab prg (n+1)) 60 = fnF 1 (sSeq (sRet 1 (pAnd (pFnS [false] (d_is_word.F (tab prg n) 60) ⟨1, [], [0]⟩ [] (aCons (pVar 0) aNil) aNil) (pBin (cmpD (fun i j => decide (i ≤ j)) fun i j => !ltS j i) (pCall lenD (aCons (pVar 0) aNil)) (pC (.int (24)))))) sNil) := by kernel_rfl!
theorem den_is_list (n : Nat) : d_is_list.F (tab prg (n+1)) 60 = fnF 1 (sSeq (sRet 1 (pCall (isi2D prg.isi) (aCons (pVar 0) (aCons (pTup (aCons (pC (.typ "list")) (aCons (pC (.typ "tuple")) aNil))) aNil)))) sNil) := by kernel_rfl!
theorem den_in_sequence (n : Nat) : d_in_sequence.F (tab prg (n+1)) 60 = fnF 3 (sSeq (sIf (bNot (bTruth (pFnS [false] (d_is_list.F (tab prg n) 60) ⟨1, [], [0]⟩ [] (aCons (pVar 0) aNil) aNil))) 1 (sSeq nope sNil) sNil) (sSeq (sFor 1 (iEnumF (aCons (pVar 0) aNil)) (gTupF 2 (gsCons (gSet 1 1) (gsCons (gSet 1 2) gsNil))) (sSeq (sIf (bNot (bTruth (pFnS [false] (d_is_word.F (tab prg n) 60) ⟨1, [], [0]⟩ [] (aCons (pVar 2) aNil) aNil))) 1 (sSeq nope sNil) sNil) sNil)) (sSeq (sRet 1 (pSortKey (pVar 0))) sNil))) := by kernel_rfl!
theorem den_sequence_key (n : Nat) : d_sequence_key.F (tab prg (n+1)) 60 = fnF 1 (sSeq (sRet 1 (pTup (aCons (pCall lenD (aCons (pVar 0) aNil)) (aCons (pVar 0) aNil)))) sNil) := by kernel_rfl!
theorem den_is_place (n : Nat) : d_is_place.F (tab prg (n+1)) 60 = fnF 2 (sSeq (sRet 2 (pAnd (pFnS [false] (d_is_integer.F (tab prg n) 60) ⟨1, [], [0]⟩ [] (aCons (pVar 1) aNil) aNil) (pChain (cmpD (fun i j => decide (i ≤ j)) fun i j => !ltS j i) (cmpD (fun i j => decide (i ≤ j)) fun i j => !ltS j i) (pC (.int (0))) (pVar 1) (pCall lenD (aCons (pVar 0) aNil))))) sNil) := by kernel_rfl!
theorem den_check_question (n : Nat) : d_check_question.F (tab prg (n+1)) 60 = fnF 1 (sSeq (sIf (bNot (bTruth (pFnS [false] (d_is_question.F (tab prg n) 60) ⟨1, [], [0]⟩ [] (aCons (pVar 0) aNil) aNil))) 1 (sSeq nope sNil) sNil) sNil) := by kernel_rfl!
theorem den_check_place (n : Nat) : d_check_place.F (tab prg (n+1)) 60 = fnF 2 (sSeq (sIf (bNot (bTruth (pFnS [false, false] (d_is_place.F (tab prg n) 60) ⟨2, [], [0, 1]⟩ [] (aCons (pVar 0) (aCons (pVar 1) aNil)) aNil))) 2 (sSeq nope sNil) sNil) sNil) := by kernel_rfl!
theorem den_found_at (n : Nat) : d_found_at.F (tab prg (n+1)) 60 = fnF 3 (sSeq (sExp 2 (pFnS [false] (d_check_question.F (tab prg n) 60) ⟨1, [], [0]⟩ [] (aCons (pVar 0) aNil) aNil)) (sSeq (sIf (bNot (bTruth (pFnS [false] (d_is_word.F (tab prg n) 60) ⟨1, [], [0]⟩ [] (aCons (pVar 1) aNil) aNil))) 2 (sSeq nope sNil) sNil) (sSeq (sRet 2 (pLc [2] (iRange1 (aCons (pCall lenD (aCons (pVar 0) aNil)) aNil)) (gSet 0 2) (bVal (pCmpV false (tab prg (n+1)).eqL eqD (pSl (pVar 0) (oSome (pVar 2)) (oSome (pBinV ((tab prg (n+1)).binL "add") ((tab prg (n+1)).binR "add") addD (pVar 2) (pCall lenD (aCons (pVar 1) aNil))))) (pVar 1))) (pVar 2))) sNil))) := by kernel_rfl!
theorem den_bridges (n : Nat) : d_bridges.F (tab prg (n+1)) 60 = fnF 4 (sSeq (sExp 2 (pFnS [false] (d_check_question.F (tab prg n) 60) ⟨1, [], [0]⟩ [] (aCons (pVar 1) aNil) aNil)) (sSeq (sRet 2 (pCall sortedD (aCons (pLc2 [2, 3] [3] (iWalkV (tab prg (n+1)).own (pVar 0)) (gSet 0 2) (fun env => some (true, env)) (iWalkV (tab prg (n+1)).own (pFnS [false, false] (d_found_at.F (tab prg n) 60) ⟨2, [], [0, 1]⟩ [] (aCons (pVar 1) (aCons (pVar 2) aNil)) aNil)) (gSet 0 3) (fun env => some (true, env)) (pTup (aCons (pVar 3) (aCons (pBinV ((tab prg (n+1)).binL "add") ((tab prg (n+1)).binR "add") addD (pVar 3) (pCall lenD (aCons (pVar 2) aNil))) (aCons (pVar 2) aNil))))) aNil))) sNil)) := by kernel_rfl!
theorem den_bridges_at (n : Nat) : d_bridges_at.F (tab prg (n+1)) 60 = fnF 4 (sSeq (sExp 3 (pFnS [false] (d_check_question.F (tab prg n) 60) ⟨1, [], [0]⟩ [] (aCons (pVar 1) aNil) aNil)) (sSeq (sExp 3 (pFnS [false, false] (d_check_place.F (tab prg n) 60) ⟨2, [], [0, 1]⟩ [] (aCons (pVar 1) (aCons (pVar 2) aNil)) aNil)) (sSeq (sRet 3 (pLc [3] (iWalkV (tab prg (n+1)).own (pFnS [false, false] (d_bridges.F (tab prg n) 60) ⟨2, [], [0, 1]⟩ [] (aCons (pVar 0) (aCons (pVar 1) aNil)) aNil)) (gSet 0 3) (bVal (pBin (in2B false) (pVar 2) (pSl (pVar 3) oNone (oSome (pC (.int (2))))))) (pVar 3))) sNil))) := by kernel_rfl!
theorem den_is_lot_word (n : Nat) : d_is_lot_word.F (tab prg (n+1)) 60 = fnF 1 (sSeq (sRet 1 (pAnd (pFnS [false] (d_is_word.F (tab prg n) 60) ⟨1, [], [0]⟩ [] (aCons (pVar 0) aNil) aNil) (pBin (cmpD (fun i j => decide (i ≤ j)) fun i j => !ltS j i) (pCall lenD (aCons (pVar 0) aNil)) (pC (.int (12)))))) sNil) := by kernel_rfl!
theorem den_check_lot_words (n : Nat) : d_check_lot_words.F (tab prg (n+1)) 60 = fnF 4 (sFz 1 [] (sSeq (sIf (bNot (bTruth (pFnS [false] (d_is_list.F (tab prg n) 60) ⟨1, [], [0]⟩ [] (aCons (pVar 0) aNil) aNil))) 1 (sSeq nope sNil) sNil) (sFz 1 [] (sSeq (sSet 1 1 true pDnew) (sFz 1 [] (sSeq (sFor 1 (iEnumF (aCons (pVar 0) aNil)) (gTupF 2 (gsCons (gSet 1 2) (gsCons (gSet 1 3) gsNil))) (sSeq (sIf (bOr (bNot (bTruth (pFnS [false] (d_is_lot_word.F (tab prg n) 60) ⟨1, [], [0]⟩ [] (aCons (pVar 3) aNil) aNil))) (bVal (pBin (in2B false) (pVar 3) (pVar 1)))) 1 (sSeq nope sNil) sNil) (sSeq (sAsg 1 (pC (.bl true)) (gIx2 1 (pVar 3))) sNil))) (sFz 1 [1] (sSeq (sIf (bVal (pBin (cmpD (fun i j => decide (j < i)) fun i j => ltS j i) (pCall lenD (aCons (pVar 0) aNil)) (pC (.int (10))))) 1 (sSeq nope sNil) sNil) sNil)))))))) := by kernel_rfl!
theorem den_check_lot (n : Nat) : d_check_lot.F (tab prg (n+1)) 60 = fnF 1 (sSeq (sIf (bNot (bTruth (pCall (isi2D prg.isi) (aCons (pVar 0) (aCons (pC (.kls 0)) aNil))))) 1 (sSeq nope sNil) sNil) sNil) := by kernel_rfl!
theorem den__law_pot (n : Nat) : d__law_pot.F (tab prg (n+1)) 60 = fnF 3 (sSeq (sSet 2 2 false (pBinV ((tab prg (n+1)).binL "add") ((tab prg (n+1)).binR "add") addD (pBinV ((tab prg (n+1)).binL "mul") ((tab prg (n+1)).binR "mul") mul3D (pC (.int (41))) (pVar 1)) (pC (.int (29))))) (sSeq (sIf (bVal (pBin (cmpD (fun i j => decide (i < j)) ltS) (pVar 1) (pCall lenD (aCons (pVar 0) aNil)))) 2 (sSeq (sSet 2 2 false (pCall absD (aCons (pBin ixD (pVar 0) (pVar 1)) aNil))) sNil) sNil) (sSeq (sRet 2 (pLst (aCons (pCall max2D (aCons (pC (.int (0))) (aCons (pBinV ((tab prg (n+1)).binL "sub") ((tab prg (n+1)).binR "sub") subD (pVar 2) (pBin powD (pC (.int (10))) (pC (.int (18))))) aNil))) (aCons (pBinV ((tab prg (n+1)).binL "add") ((tab prg (n+1)).binR "add") addD (pBin modD (pBinV ((tab prg (n+1)).binL "mul") ((tab prg (n+1)).binR "mul") mul3D (pCall int1D (aCons (pBinV ((tab prg (n+1)).binL "add") ((tab prg (n+1)).binR "add") addD (pBin modD (pCall int1D (aCons (pVar 2) aNil)) (pC (.int (2147483549)))) (pC (.int (23)))) aNil)) (pBin powD (pBinV ((tab prg (n+1)).binL "add") ((tab prg (n+1)).binR "add") addD (pBinV ((tab prg (n+1)).binL "mul") ((tab prg (n+1)).binR "mul") mul3D (pC (.int (2))) (pVar 1)) (pC (.int (5)))) (pC (.int (3))))) (pC (.int (2147483579)))) (pC (.int (1)))) aNil)))) sNil))) := by kernel_rfl!
theorem den__law_draw (n : Nat) : d__law_draw.F (tab prg (n+1)) 60 = fnF 3 (sSeq (sIf (bVal (pBin (cmpD (fun i j => decide (j < i)) fun i j => ltS j i) (pBin ixD (pVar 0) (pC (.int (0)))) (pC (.int (0))))) 2 (sSeq (sAsg 2 (pCall divmodD (aCons (pBin ixD (pVar 0) (pC (.int (0)))) (aCons (pVar 1) aNil))) (gTupF 2 (gsCons (gIx2 0 (pC (.int (0)))) (gsCons (gSet 2 2) gsNil)))) (sSeq (sRet 2 (pVar 2)) sNil)) sNil) (sSeq (sAsg 2 (pBin modD (pCall int1D (aCons (pBinV ((tab prg (n+1)).binL "add") ((tab prg (n+1)).binR "add") addD (pBinV ((tab prg (n+1)).binL "mul") ((tab prg (n+1)).binR "mul") mul3D (pBin ixD (pVar 0) (pC (.int (1)))) (pC (.int (39979)))) (pC (.int (15077)))) aNil)) (pC (.int (2147483543)))) (gIx2 0 (pC (.int (1))))) (sSeq (sRet 2 (pBin modD (pCall int1D (aCons (pBin fdiv3D (pBin modD (pCall int1D (aCons (pBinV ((tab prg (n+1)).binL "mul") ((tab prg (n+1)).binR "mul") mul3D (pBin ixD (pVar 0) (pC (.int (1)))) (pBin ixD (pVar 0) (pC (.int (1))))) aNil)) (pC (.int (2147483563)))) (pC (.int (13)))) aNil)) (pVar 1))) sNil))) := by kernel_rfl!
theorem den__law_pick (n : Nat) : d__law_pick.F (tab prg (n+1)) 60 = fnF 2 (sSeq (sRet 2 (pBin ixD (pVar 1) (pFnS [true, false] (d__law_draw.F (tab prg n) 60) ⟨2, [], [0, 1]⟩ [] (aCons (pVar 0) (aCons (pCall lenD (aCons (pVar 1) aNil)) aNil)) aNil))) sNil) := by kernel_rfl!
theorem den__law_term (n : Nat) : d__law_term.F (tab prg (n+1)) 60 = fnF 4 (sSeq (sRet 3 (pM1 joinD (pC (.str "")) (pLc [3] (iRange1 (aCons (pBinV ((tab prg (n+1)).binL "add") ((tab prg (n+1)).binR "add") addD (pC (.int (1))) (pFnS [true, false] (d__law_draw.F (tab prg n) 60) ⟨2, [], [0, 1]⟩ [] (aCons (pVar 0) (aCons (pVar 2) aNil)) aNil)) aNil)) (gSet 0 3) (fun env => some (true, env)) (pFnS [true, false] (d__law_pick.F (tab prg n) 60) ⟨2, [], [0, 1]⟩ [] (aCons (pVar 0) (aCons (pVar 1) aNil)) aNil)))) sNil) := by kernel_rfl!
theorem den__law_terms (n : Nat) : d__law_terms.F (tab prg (n+1)) 60 = fnF 7 (sSeq (sSet 4 4 true (pLst aNil)) (sSeq (sFor 4 (iRange1 (aCons (pVar 2) aNil)) (gSet 4 5) (sSeq (sSet 4 6 false (pFnS [true, false, false] (d__law_term.F (tab prg n) 60) ⟨3, [], [0, 1, 2]⟩ [] (aCons (pVar 0) (aCons (pVar 1) (aCons (pVar 3) aNil))) aNil)) (sSeq (sExp 4 (pMut 4 extendD (aCons (pIf (bVal (pBin (in2B true) (pVar 6) (pVar 4))) (pLst (aCons (pVar 6) aNil)) (pLst aNil)) aNil))) sNil))) (sSeq (sRet 4 (pVar 4)) sNil))) := by kernel_rfl!
theorem den__law_asked (n : Nat) : d__law_asked.F (tab prg (n+1)) 60 = fnF 7 (sSeq (sSet 4 4 false (pC (.str ""))) (sSeq (sFor 4 (iRange1 (aCons (pBinV ((tab prg (n+1)).binL "add") ((tab prg (n+1)).binR "add") addD (pC (.int (1))) (pFnS [true, false] (d__law_draw.F (tab prg n) 60) ⟨2, [], [0, 1]⟩ [] (aCons (pVar 0) (aCons (pC (.int (6))) aNil)) aNil)) aNil)) (gSet 4 5) (sSeq (sSet 4 6 false (pIf (bAnd (bVal (pCmpV true (tab prg (n+1)).eqL neD (pVar 1) (pLst aNil))) (bVal (pBin (cmpD (fun i j => decide (j < i)) fun i j => ltS j i) (pFnS [true, false] (d__law_draw.F (tab prg n) 60) ⟨2, [], [0, 1]⟩ [] (aCons (pVar 0) (aCons (pC (.int (4))) aNil)) aNil) (pC (.int (0)))))) (pFnS [true, false] (d__law_pick.F (tab prg n) 60) ⟨2, [], [0, 1]⟩ [] (aCons (pVar 0) (aCons (pVar 1) aNil)) aNil) (pFnS [true, false, false] (d__law_term.F (tab prg n) 60) ⟨3, [], [0, 1, 2]⟩ [] (aCons (pVar 0) (aCons (pVar 2) (aCons (pC (.int (2))) aNil))) aNil))) (sSeq (sSet 4 4 false (pBinV ((tab prg (n+1)).binL "add") ((tab prg (n+1)).binR "add") addD (pVar 4) (pSl (pVar 6) (oSome (pBinV ((tab prg (n+1)).binL "mul") ((tab prg (n+1)).binR "mul") mul3D (pFnS [true, false] (d__law_draw.F (tab prg n) 60) ⟨2, [], [0, 1]⟩ [] (aCons (pVar 0) (aCons (pC (.int (2))) aNil)) aNil) (pFnS [true, false] (d__law_draw.F (tab prg n) 60) ⟨2, [], [0, 1]⟩ [] (aCons (pVar 0) (aCons (pCall lenD (aCons (pVar 6) aNil)) aNil)) aNil))) oNone))) sNil))) (sSeq (sRet 4 (pIf (bVal (pCmpV true (tab prg (n+1)).eqL neD (pVar 4) (pC (.str "")))) (pSl (pVar 4) oNone (oSome (pVar 3))) (pFnS [true, false, false] (d__law_term.F (tab prg n) 60) ⟨3, [], [0, 1, 2]⟩ [] (aCons (pVar 0) (aCons (pVar 2) (aCons (pC (.int (3))) aNil))) aNil))) sNil))) := by kernel_rfl!
theorem den__law_found (n : Nat) : d__law_found.F (tab prg (n+1)) 60 = fnF 3 (sSeq (sRet 2 (pLc [2] (iRange1 (aCons (pBinV ((tab prg (n+1)).binL "add") ((tab prg (n+1)).binR "add") addD (pBinV ((tab prg (n+1)).binL "sub") ((tab prg (n+1)).binR "sub") subD (pCall lenD (aCons (pVar 0) aNil)) (pCall lenD (aCons (pVar 1) aNil))) (pC (.int (1)))) aNil)) (gSet 0 2) (bVal (pCmpV false (tab prg (n+1)).eqL eqD (pSl (pVar 0) (oSome (pVar 2)) (oSome (pBinV ((tab prg (n+1)).binL "add") ((tab prg (n+1)).binR "add") addD (pVar 2) (pCall lenD (aCons (pVar 1) aNil))))) (pVar 1))) (pVar 2))) sNil) := by kernel_rfl!
theorem den__law_links (n : Nat) : d__law_links.F (tab prg (n+1)) 60 = fnF 5 (sFz 2 [] (sSeq (sSet 2 2 true (pLst aNil)) (sFz 2 [] (sSeq (sFor 2 (iWalkV (tab prg (n+1)).own (pVar 0)) (gSet 2 3) (sSeq (sExp 2 (pMut 2 extendD (aCons (pLc [4] (iWalkV (tab prg (n+1)).own (pFnS [false, false] (d__law_found.F (tab prg n) 60) ⟨2, [], [0, 1]⟩ [] (aCons (pVar 1) (aCons (pVar 3) aNil)) aNil)) (gSet 0 4) (fun env => some (true, env)) (pTup (aCons (pVar 4) (aCons (pBinV ((tab prg (n+1)).binL "add") ((tab prg (n+1)).binR "add") addD (pVar 4) (pCall lenD (aCons (pVar 3) aNil))) (aCons (pVar 3) aNil))))) aNil))) sNil)) (sFz 2 [2] (sSeq (sRet 2 (pCall sortedD (aCons (pVar 2) aNil))) sNil)))))) := by kernel_rfl!
theorem den__law_found_right (n : Nat) : d__law_found_right.F (tab prg (n+1)) 60 = fnF 7 (sFz 3 [] (sSeq (sSet 3 3 false (pBinV ((tab prg (n+1)).binL "add") ((tab prg (n+1)).binR "add") addD (pVar 2) (pLst (aCons (pVar 1) (aCons (pBinV ((tab prg (n+1)).binL "add") ((tab prg (n+1)).binR "add") addD (pVar 1) (pC (.str "a"))) (aCons (pBinV ((tab prg (n+1)).binL "add") ((tab prg (n+1)).binR "add") addD (pSl (pVar 1) (oSome (pC (.int (1)))) oNone) (pC (.str "a"))) (aCons (pFnS [true, false, false] (d__law_term.F (tab prg n) 60) ⟨3, [], [0, 1, 2]⟩ [] (aCons (pVar 0) (aCons (pC (.str "abz")) (aCons (pC (.int (3))) aNil))) aNil) (aCons (pSl (pVar 1) oNone (oSome (pC (.int (1))))) (aCons (pSl (pVar 1) (oSome (pUnV ((tab prg (n+1)).unL "__neg__") negD (pC (.int (2))))) oNone) (aCons (pBinV ((tab prg (n+1)).binL "mul") ((tab prg (n+1)).binR "mul") mul3D (pC (.str "m")) (pC (.int (30)))) aNil)))))))))) (sFz 3 [] (sSeq (sFor 3 (iWalkV (tab prg (n+1)).own (pVar 3)) (gSet 3 4) (sSeq (sSet 3 5 false (pFnS [false, false] (d__law_found.F (tab prg n) 60) ⟨2, [], [0, 1]⟩ [] (aCons (pVar 1) (aCons (pVar 4) aNil)) aNil)) (sSeq (sSet 3 6 true (pFnS [false, false] (d_found_at.F (tab prg n) 60) ⟨2, [], [0, 1]⟩ [] (aCons (pVar 1) (aCons (pVar 4) aNil)) aNil)) (sSeq (sIf (bVal (pCmpV true (tab prg (n+1)).eqL neD (pReprV ((tab prg (n+1)).unL "__repr__") (aCons (pVar 6) aNil)) (pReprV ((tab prg (n+1)).unL "__repr__") (aCons (pVar 5) aNil)))) 3 (sSeq (sRet 3 (pC (.bl false))) sNil) sNil) (sSeq (sExp 3 (pMut 6 appendD (aCons (pUnV ((tab prg (n+1)).unL "__neg__") negD (pC (.int (1)))) aNil))) (sSeq (sIf (bVal (pCmpV true (tab prg (n+1)).eqL neD (pReprV ((tab prg (n+1)).unL "__repr__") (aCons (pFnS [false, false] (d_found_at.F (tab prg n) 60) ⟨0, ["word", "question"], [1, 0]⟩ [] aNil (aCons (pVar 4) (aCons (pVar 1) aNil))) aNil)) (pReprV ((tab prg (n+1)).unL "__repr__") (aCons (pVar 5) aNil)))) 3 (sSeq (sRet 3 (pC (.bl false))) sNil) sNil) sNil)))))) (sFz 3 [6] (sSeq (sRet 3 (pC (.bl true))) sNil)))))) := by kernel_rfl!
theorem den__law_links_right (n : Nat) : d__law_links_right.F (tab prg (n+1)) 60 = fnF 8 (sFz 3 [] (sSeq (sSet 3 3 false (pFnS [false, false] (d__law_links.F (tab prg n) 60) ⟨2, [], [0, 1]⟩ [] (aCons (pVar 1) (aCons (pVar 2) aNil)) aNil)) (sFz 3 [] (sSeq (sSet 3 4 true (pFnS [false, false] (d_bridges.F (tab prg n) 60) ⟨2, [], [0, 1]⟩ [] (aCons (pVar 0) (aCons (pVar 2) aNil)) aNil)) (sFz 3 [] (sSeq (sIf (bVal (pCmpV true (tab prg (n+1)).eqL neD (pReprV ((tab prg (n+1)).unL "__repr__") (aCons (pVar 4) aNil)) (pReprV ((tab prg (n+1)).unL "__repr__") (aCons (pVar 3) aNil)))) 3 (sSeq (sRet 3 (pC (.bl false))) sNil) sNil) (sFz 3 [] (sSeq (sExp 3 (pMut0 4 clearD)) (sFz 3 [] (sSeq (sIf (bOr (bVal (pCmpV true (tab prg (n+1)).eqL neD (pReprV ((tab prg (n+1)).unL "__repr__") (aCons (pFnS [false, false] (d_bridges.F (tab prg n) 60) ⟨0, ["question", "lot"], [1, 0]⟩ [] aNil (aCons (pVar 2) (aCons (pVar 0) aNil))) aNil)) (pReprV ((tab prg (n+1)).unL "__repr__") (aCons (pVar 3) aNil)))) (bVal (pCmpV true (tab prg (n+1)).eqL neD (pLenSet (pLc [7] (iWalkV (tab prg (n+1)).own (pVar 3)) (gSet 0 7) (fun env => some (true, env)) (pSl (pVar 7) oNone (oSome (pC (.int (2))))))) (pCall lenD (aCons (pVar 3) aNil))))) 3 (sSeq (sRet 3 (pC (.bl false))) sNil) sNil) (sFz 3 [] (sSeq (sFor 3 (iRange1 (aCons (pBinV ((tab prg (n+1)).binL "add") ((tab prg (n+1)).binR "add") addD (pCall lenD (aCons (pVar 2) aNil)) (pC (.int (1)))) aNil)) (gSet 3 5) (sSeq (sSet 3 6 false (pLc [7] (iWalkV (tab prg (n+1)).own (pVar 3)) (gSet 0 7) (bVal (pBin (in2B false) (pVar 5) (pSl (pVar 7) oNone (oSome (pC (.int (2))))))) (pVar 7))) (sSeq (sSet 3 4 true (pFnS [false, false, false] (d_bridges_at.F (tab prg n) 60) ⟨3, [], [0, 1, 2]⟩ [] (aCons (pVar 0) (aCons (pVar 2) (aCons (pVar 5) aNil))) aNil)) (sSeq (sIf (bVal (pCmpV true (tab prg (n+1)).eqL neD (pReprV ((tab prg (n+1)).unL "__repr__") (aCons (pVar 4) aNil)) (pReprV ((tab prg (n+1)).unL "__repr__") (aCons (pVar 6) aNil)))) 3 (sSeq (sRet 3 (pC (.bl false))) sNil) sNil) (sSeq (sExp 3 (pMut 4 appendD (aCons (pC (.non)) aNil))) (sSeq (sIf (bVal (pCmpV true (tab prg (n+1)).eqL neD (pReprV ((tab prg (n+1)).unL "__repr__") (aCons (pFnS [false, false, false] (d_bridges_at.F (tab prg n) 60) ⟨0, ["place", "question", "lot"], [2, 1, 0]⟩ [] aNil (aCons (pVar 5) (aCons (pVar 2) (aCons (pVar 0) aNil)))) aNil)) (pReprV ((tab prg (n+1)).unL "__repr__") (aCons (pVar 6) aNil)))) 3 (sSeq (sRet 3 (pC (.bl false))) sNil) sNil) sNil)))))) (sFz 3 [4] (sSeq (sRet 3 (pC (.bl true))) sNil)))))))))))))) := by kernel_rfl!
theorem den__law_right (n : Nat) : d__law_right.F (tab prg (n+1)) 60 = fnF 6 (sSeq (sSet 1 1 false (pFnS [true, false] (d__law_pick.F (tab prg n) 60) ⟨2, [], [0, 1]⟩ [] (aCons (pVar 0) (aCons (pLst (aCons (pC (.str "a")) (aCons (pC (.str "ab")) (aCons (pC (.str "ab")) (aCons (pC (.str "abc")) (aCons (pC (.str "abcd")) aNil)))))) aNil)) aNil)) (sSeq (sSet 1 2 false (pSl (pFnS [true, false, false, false] (d__law_terms.F (tab prg n) 60) ⟨4, [], [0, 1, 2, 3]⟩ [] (aCons (pVar 0) (aCons (pVar 1) (aCons (pFnS [true, false] (d__law_pick.F (tab prg n) 60) ⟨2, [], [0, 1]⟩ [] (aCons (pVar 0) (aCons (pLst (aCons (pC (.int (0))) (aCons (pC (.int (2))) (aCons (pC (.int (4))) (aCons (pC (.int (7))) (aCons (pC (.int (14))) aNil)))))) aNil)) aNil) (aCons (pFnS [true, false] (d__law_pick.F (tab prg n) 60) ⟨2, [], [0, 1]⟩ [] (aCons (pVar 0) (aCons (pLst (aCons (pC (.int (1))) (aCons (pC (.int (2))) (aCons (pC (.int (4))) (aCons (pC (.int (12))) aNil))))) aNil)) aNil) aNil)))) aNil) oNone (oSome (pC (.int (10)))))) (sSeq (sSet 1 3 false (pMkS 0 [false] (d_Lot___init__.F (tab prg n) 60) ⟨1, [], [0]⟩ [] (aCons (pVar 2) aNil) aNil)) (sSeq (sFor 1 (iRange1 (aCons (pC (.int (3))) aNil)) (gSet 1 4) (sSeq (sSet 1 5 false (pFnS [true, false, false, false] (d__law_asked.F (tab prg n) 60) ⟨4, [], [0, 1, 2, 3]⟩ [] (aCons (pVar 0) (aCons (pVar 2) (aCons (pBinV ((tab prg (n+1)).binL "add") ((tab prg (n+1)).binR "add") addD (pVar 1) (pFnS [true, false] (d__law_pick.F (tab prg n) 60) ⟨2, [], [0, 1]⟩ [] (aCons (pVar 0) (aCons (pLst (aCons (pC (.str "")) (aCons (pC (.str "")) (aCons (pC (.str "y")) aNil)))) aNil)) aNil)) (aCons (pFnS [true, false] (d__law_pick.F (tab prg n) 60) ⟨2, [], [0, 1]⟩ [] (aCons (pVar 0) (aCons (pLst (aCons (pC (.int (3))) (aCons (pC (.int (8))) (aCons (pC (.int (24))) aNil)))) aNil)) aNil) aNil)))) aNil)) (sSeq (sIf (bOr (bNot (bTruth (pFnS [true, false, false] (d__law_found_right.F (tab prg n) 60) ⟨3, [], [0, 1, 2]⟩ [] (aCons (pVar 0) (aCons (pVar 5) (aCons (pVar 2) aNil))) aNil))) (bNot (bTruth (pFnS [false, false, false] (d__law_links_right.F (tab prg n) 60) ⟨3, [], [0, 1, 2]⟩ [] (aCons (pVar 3) (aCons (pVar 2) (aCons (pVar 5) aNil))) aNil)))) 1 (sSeq (sRet 1 (pC (.bl false))) sNil) sNil) sNil))) (sSeq (sRet 1 (pCmpV false (tab prg (n+1)).eqL eqD (pVar 3) (pMkS 0 [false] (d_Lot___init__.F (tab prg n) 60) ⟨1, [], [0]⟩ [] (aCons (pVar 2) aNil) aNil))) sNil))))) := by kernel_rfl!
theorem den_law (n : Nat) : d_law.F (tab prg (n+1)) 60 = fnF 2 (sSeq (sRet 1 (pCall allD (aCons (pLc [1] (iRange1 (aCons (pCall max2D (aCons (pC (.int (2))) (aCons (pCall min2D (aCons (pCall lenD (aCons (pVar 0) aNil)) (aCons (pC (.int (5))) aNil))) aNil))) aNil)) (gSet 0 1) (fun env => some (true, env)) (pFnS [true] (d__law_right.F (tab prg n) 60) ⟨1, [], [0]⟩ [] (aCons (pFnS [false, false] (d__law_pot.F (tab prg n) 60) ⟨2, [], [0, 1]⟩ [] (aCons (pVar 0) (aCons (pVar 1) aNil)) aNil) aNil) aNil)) aNil))) sNil) := by kernel_rfl!
theorem den_Lot___init__ (n : Nat) : d_Lot___init__.F (tab prg (n+1)) 60 = fnF 2 (sSeq (sExp 2 (pFnS [false] (d_check_lot_words.F (tab prg n) 60) ⟨1, [], [0]⟩ [] (aCons (pVar 1) aNil) aNil)) (sSeq (sFldF 2 0 (tab prg (n+1)).okF "_words" (pFnS [false] (d_in_sequence.F (tab prg n) 60) ⟨1, [], [0]⟩ [] (aCons (pVar 1) aNil) aNil)) sNil)) := by kernel_rfl!
theorem den_Lot_words (n : Nat) : d_Lot_words.F (tab prg (n+1)) 60 = fnF 1 (sSeq (sRet 1 (pCall listD (aCons (pAttrV ((tab prg (n+1)).prop "_words") (tab prg (n+1)).okF "_words" (pVar 0)) aNil))) sNil) := by kernel_rfl!
-- not read: d_Lot_letters 'set'
theorem den_Lot_longest (n : Nat) : d_Lot_longest.F (tab prg (n+1)) 60 = fnF 1 (sSeq (sExp 1 (pFnS [false] (d__wall.F (tab prg n) 60) ⟨1, [], [0]⟩ [] (aCons (pC (.int (0))) aNil) aNil)) sNil) := by kernel_rfl!
theorem den_Lot_shortest (n : Nat) : d_Lot_shortest.F (tab prg (n+1)) 60 = fnF 1 (sSeq (sExp 1 (pFnS [false] (d__wall.F (tab prg n) 60) ⟨1, [], [0]⟩ [] (aCons (pC (.int (1))) aNil) aNil)) sNil) := by kernel_rfl!
theorem den_Lot_renamed (n : Nat) : d_Lot_renamed.F (tab prg (n+1)) 60 = fnF 2 (sSeq (sExp 2 (pFnS [false] (d__wall.F (tab prg n) 60) ⟨1, [], [0]⟩ [] (aCons (pC (.int (2))) aNil) aNil)) sNil) := by kernel_rfl!
theorem den_Lot_backwards (n : Nat) : d_Lot_backwards.F (tab prg (n+1)) 60 = fnF 1 (sSeq (sExp 1 (pFnS [false] (d__wall.F (tab prg n) 60) ⟨1, [], [0]⟩ [] (aCons (pC (.int (3))) aNil) aNil)) sNil) := by kernel_rfl!
theorem den_Lot_is_within (n : Nat) : d_Lot_is_within.F (tab prg (n+1)) 60 = fnF 2 (sSeq (sExp 2 (pFnS [false] (d__wall.F (tab prg n) 60) ⟨1, [], [0]⟩ [] (aCons (pC (.int (4))) aNil) aNil)) sNil) := by kernel_rfl!
theorem den_Lot___len__ (n : Nat) : d_Lot___len__.F (tab prg (n+1)) 60 = fnF 1 (sSeq (sRet 1 (pCall lenD (aCons (pAttrV ((tab prg (n+1)).prop "_words") (tab prg (n+1)).okF "_words" (pVar 0)) aNil))) sNil) := by kernel_rfl!
theorem den_Lot___contains__ (n : Nat) : d_Lot___contains__.F (tab prg (n+1)) 60 = fnF 2 (sSeq (sRet 2 (pAnd (pCall (isi2D prg.isi) (aCons (pVar 1) (aCons (pC (.typ "str")) aNil))) (pBin (in2B false) (pVar 1) (pAttrV ((tab prg (n+1)).prop "_words") (tab prg (n+1)).okF "_words" (pVar 0))))) sNil) := by kernel_rfl!
-- not read: d_Lot___iter__ 'iter'
theorem den_Lot___eq__ (n : Nat) : d_Lot___eq__.F (tab prg (n+1)) 60 = fnF 2 (sSeq (sRet 2 (pAnd (pCall (isi2D prg.isi) (aCons (pVar 1) (aCons (pC (.kls 0)) aNil))) (pCmpV false (tab prg (n+1)).eqL eqD (pAttrV ((tab prg (n+1)).prop "_words") (tab prg (n+1)).okF "_words" (pVar 0)) (pAttrV ((tab prg (n+1)).prop "_words") (tab prg (n+1)).okF "_words" (pVar 1))))) sNil) := by kernel_rfl!
-- not read: d_Lot___repr__ FormattedValue(value=Attribute(value=Name(id='self', ctx=Load()), attr='_words', ctx=Load()), conversion=114)
-- not read: d_Lot___add__ Starred(value=Attribute(value=Name(id='self', ctx=Load()), attr='_words', ctx=Load()), ctx=Load())
theorem den_Lot___sub__ (n : Nat) : d_Lot___sub__.F (tab prg (n+1)) 60 = fnF 3 (sSeq (sIf (bVal (pBin (in2B true) (pVar 1) (pVar 0))) 2 (sSeq nope sNil) sNil) (sSeq (sRet 2 (pMkS 0 [false] (d_Lot___init__.F (tab prg n) 60) ⟨1, [], [0]⟩ [] (aCons (pLc [2] (iWalkV (tab prg (n+1)).own (pAttrV ((tab prg (n+1)).prop "_words") (tab prg (n+1)).okF "_words" (pVar 0))) (gSet 0 2) (bVal (pCmpV true (tab prg (n+1)).eqL neD (pVar 2) (pVar 1))) (pVar 2)) aNil) aNil)) sNil)) := by kernel_rfl!
theorem den_Lot___or__ (n : Nat) : d_Lot___or__.F (tab prg (n+1)) 60 = fnF 3 (sSeq (sExp 2 (pFnS [false] (d_check_lot.F (tab prg n) 60) ⟨1, [], [0]⟩ [] (aCons (pVar 1) aNil) aNil)) (sSeq (sRet 2 (pMkS 0 [false] (d_Lot___init__.F (tab prg n) 60) ⟨1, [], [0]⟩ [] (aCons (pBinV ((tab prg (n+1)).binL "add") ((tab prg (n+1)).binR "add") addD (pAttrV ((tab prg (n+1)).prop "_words") (tab prg (n+1)).okF "_words" (pVar 0)) (pLc [2] (iWalkV (tab prg (n+1)).own (pAttrV ((tab prg (n+1)).prop "_words") (tab prg (n+1)).okF "_words" (pVar 1))) (gSet 0 2) (bVal (pBin (in2B true) (pVar 2) (pAttrV ((tab prg (n+1)).prop "_words") (tab prg (n+1)).okF "_words" (pVar 0)))) (pVar 2))) aNil) aNil)) sNil)) := by kernel_rfl!
theorem den_Lot___and__ (n : Nat) : d_Lot___and__.F (tab prg (n+1)) 60 = fnF 3 (sSeq (sExp 2 (pFnS [false] (d_check_lot.F (tab prg n) 60) ⟨1, [], [0]⟩ [] (aCons (pVar 1) aNil) aNil)) (sSeq (sRet 2 (pMkS 0 [false] (d_Lot___init__.F (tab prg n) 60) ⟨1, [], [0]⟩ [] (aCons (pLc [2] (iWalkV (tab prg (n+1)).own (pAttrV ((tab prg (n+1)).prop "_words") (tab prg (n+1)).okF "_words" (pVar 0))) (gSet 0 2) (bVal (pBin (in2B false) (pVar 2) (pAttrV ((tab prg (n+1)).prop "_words") (tab prg (n+1)).okF "_words" (pVar 1)))) (pVar 2)) aNil) aNil)) sNil)) := by kernel_rfl!
end K13
end

section
set_option Elab.async false
set_option linter.all false
set_option maxRecDepth 100000
set_option maxHeartbeats 4000000
namespace K13
open PySem L2 Den PyProof.Rows
theorem st__wall : DfSt d__wall s__wall := ⟨rfl, ⟨rfl, rfl, rfl, by decide +kernel, rfl, by decide +kernel, by decide +kernel⟩, rfl, ⟨rfl, by decide⟩⟩
theorem sh__wall : ShsN d__wall s__wall := fun K name qual kV doc pm an cdv ct => ⟨rfl, ⟨fun s us ws _ h1 h2 => match us, ws, h1, h2 with | [_], [], _, _ => .of_eq rfl, trivial⟩⟩
theorem st_is_integer : DfSt d_is_integer s_is_integer := ⟨rfl, ⟨rfl, rfl, rfl, by decide +kernel, rfl, by decide +kernel, by decide +kernel⟩, rfl, ⟨rfl, by decide⟩⟩
theorem sh_is_integer : ShsN d_is_integer s_is_integer := fun K name qual kV doc pm an cdv ct => ⟨rfl, ⟨fun s us ws _ h1 h2 => match us, ws, h1, h2 with | [_], [], _, _ => .of_eq rfl, trivial⟩⟩
theorem st_is_letter : DfSt d_is_letter s_is_letter := ⟨rfl, ⟨rfl, rfl, rfl, by decide +kernel, rfl, by decide +kernel, by decide +kernel⟩, rfl, ⟨rfl, by decide⟩⟩
theorem sh_is_letter : ShsN d_is_letter s_is_letter := fun K name qual kV doc pm an cdv ct => ⟨rfl, ⟨fun s us ws _ h1 h2 => match us, ws, h1, h2 with | [_], [], _, _ => .of_eq rfl, trivial⟩⟩
theorem st_is_word : DfSt d_is_word s_is_word := ⟨rfl, ⟨rfl, rfl, rfl, by decide +kernel, rfl, by decide +kernel, by decide +kernel⟩, rfl, ⟨rfl, by decide⟩⟩
theorem sh_is_word : ShsN d_is_word s_is_word := fun K name qual kV doc pm an cdv ct => ⟨rfl, ⟨fun s us ws _ h1 h2 => match us, ws, h1, h2 with | [_], [], _, _ => .of_eq rfl, trivial⟩⟩
theorem st_is_question : DfSt d_is_question s_is_question := ⟨rfl, ⟨rfl, rfl, rfl, by decide +kernel, rfl, by decide +kernel, by decide +kernel⟩, rfl, ⟨rfl, by decide⟩⟩
theorem sh_is_question : ShsN d_is_question s_is_question := fun K name qual kV doc pm an cdv ct => ⟨rfl, ⟨fun s us ws _ h1 h2 => match us, ws, h1, h2 with | [_], [], _, _ => .of_eq rfl, trivial⟩⟩
theorem st_is_list : DfSt d_is_list s_is_list := ⟨rfl, ⟨rfl, rfl, rfl, by decide +kernel, rfl, by decide +kernel, by decide +kernel⟩, rfl, ⟨rfl, by decide⟩⟩
theorem sh_is_list : ShsN d_is_list s_is_list := fun K name qual kV doc pm an cdv ct => ⟨rfl, ⟨fun s us ws _ h1 h2 => match us, ws, h1, h2 with | [_], [], _, _ => .of_eq rfl, trivial⟩⟩
theorem st_in_sequence : DfSt d_in_sequence s_in_sequence := ⟨rfl, ⟨rfl, rfl, rfl, by decide +kernel, rfl, by decide +kernel, by decide +kernel⟩, rfl, ⟨rfl, by decide⟩⟩
theorem sh_in_sequence : ShsN d_in_sequence s_in_sequence := fun K name qual kV doc pm an cdv ct => ⟨rfl, ⟨fun s us ws _ h1 h2 => match us, ws, h1, h2 with | [_], [], _, _ => .of_eq rfl, trivial⟩⟩
theorem st_sequence_key : DfSt d_sequence_key s_sequence_key := ⟨rfl, ⟨rfl, rfl, rfl, by decide +kernel, rfl, by decide +kernel, by decide +kernel⟩, rfl, ⟨rfl, by decide⟩⟩
theorem sh_sequence_key : ShsN d_sequence_key s_sequence_key := fun K name qual kV doc pm an cdv ct => ⟨rfl, trivial⟩
theorem bn_sequence_key : BndN d_sequence_key s_sequence_key := fun K name qual kV doc pm an cdv ct => .all fun us hl => match us, hl with | [_], _ => rfl
theorem st_is_place : DfSt d_is_place s_is_place := ⟨rfl, ⟨rfl, rfl, rfl, by decide +kernel, rfl, by decide +kernel, by decide +kernel⟩, rfl, ⟨rfl, by decide⟩⟩
theorem sh_is_place : ShsN d_is_place s_is_place := fun K name qual kV doc pm an cdv ct => ⟨rfl, ⟨fun s us ws _ h1 h2 => match us, ws, h1, h2 with | [_, _], [], _, _ => .of_eq rfl, trivial⟩⟩
theorem st_check_question : DfSt d_check_question s_check_question := ⟨rfl, ⟨rfl, rfl, rfl, by decide +kernel, rfl, by decide +kernel, by decide +kernel⟩, rfl, ⟨rfl, by decide⟩⟩
theorem sh_check_question : ShsN d_check_question s_check_question := fun K name qual kV doc pm an cdv ct => ⟨rfl, ⟨fun s us ws _ h1 h2 => match us, ws, h1, h2 with | [_], [], _, _ => .of_eq rfl, trivial⟩⟩
theorem st_check_place : DfSt d_check_place s_check_place := ⟨rfl, ⟨rfl, rfl, rfl, by decide +kernel, rfl, by decide +kernel, by decide +kernel⟩, rfl, ⟨rfl, by decide⟩⟩
theorem sh_check_place : ShsN d_check_place s_check_place := fun K name qual kV doc pm an cdv ct => ⟨rfl, ⟨fun s us ws _ h1 h2 => match us, ws, h1, h2 with | [_, _], [], _, _ => .of_eq rfl, trivial⟩⟩
theorem st_found_at : DfSt d_found_at s_found_at := ⟨rfl, ⟨rfl, rfl, rfl, by decide +kernel, rfl, by decide +kernel, by decide +kernel⟩, rfl, ⟨rfl, by decide⟩⟩
theorem sh_found_at : ShsN d_found_at s_found_at := fun K name qual kV doc pm an cdv ct => ⟨rfl, ⟨fun s us ws _ h1 h2 => match us, ws, h1, h2 with | [_, _], [], _, _ => .of_eq rfl, fun s us ws _ h1 h2 => match us, ws, h1, h2 with | [], [_, _], _, _ => .of_eq rfl, trivial⟩⟩
theorem st_bridges : DfSt d_bridges s_bridges := ⟨rfl, ⟨rfl, rfl, rfl, by decide +kernel, rfl, by decide +kernel, by decide +kernel⟩, rfl, ⟨rfl, by decide⟩⟩
theorem sh_bridges : ShsN d_bridges s_bridges := fun K name qual kV doc pm an cdv ct => ⟨rfl, ⟨fun s us ws _ h1 h2 => match us, ws, h1, h2 with | [_, _], [], _, _ => .of_eq rfl, fun s us ws _ h1 h2 => match us, ws, h1, h2 with | [], [_, _], _, _ => .of_eq rfl, trivial⟩⟩
theorem st_bridges_at : DfSt d_bridges_at s_bridges_at := ⟨rfl, ⟨rfl, rfl, rfl, by decide +kernel, rfl, by decide +kernel, by decide +kernel⟩, rfl, ⟨rfl, by decide⟩⟩
theorem sh_bridges_at : ShsN d_bridges_at s_bridges_at := fun K name qual kV doc pm an cdv ct => ⟨rfl, ⟨fun s us ws _ h1 h2 => match us, ws, h1, h2 with | [_, _, _], [], _, _ => .of_eq rfl, fun s us ws _ h1 h2 => match us, ws, h1, h2 with | [], [_, _, _], _, _ => .of_eq rfl, trivial⟩⟩
theorem st_is_lot_word : DfSt d_is_lot_word s_is_lot_word := ⟨rfl, ⟨rfl, rfl, rfl, by decide +kernel, rfl, by decide +kernel, by decide +kernel⟩, rfl, ⟨rfl, by decide⟩⟩
theorem sh_is_lot_word : ShsN d_is_lot_word s_is_lot_word := fun K name qual kV doc pm an cdv ct => ⟨rfl, ⟨fun s us ws _ h1 h2 => match us, ws, h1, h2 with | [_], [], _, _ => .of_eq rfl, trivial⟩⟩
theorem st_check_lot_words : DfSt d_check_lot_words s_check_lot_words := ⟨rfl, ⟨rfl, rfl, rfl, by decide +kernel, rfl, by decide +kernel, by decide +kernel⟩, rfl, ⟨rfl, by decide⟩⟩
theorem sh_check_lot_words : ShsN d_check_lot_words s_check_lot_words := fun K name qual kV doc pm an cdv ct => ⟨rfl, ⟨fun s us ws _ h1 h2 => match us, ws, h1, h2 with | [_], [], _, _ => .of_eq rfl, trivial⟩⟩
theorem st_check_lot : DfSt d_check_lot s_check_lot := ⟨rfl, ⟨rfl, rfl, rfl, by decide +kernel, rfl, by decide +kernel, by decide +kernel⟩, rfl, ⟨rfl, by decide⟩⟩
theorem sh_check_lot : ShsN d_check_lot s_check_lot := fun K name qual kV doc pm an cdv ct => ⟨rfl, ⟨fun s us ws _ h1 h2 => match us, ws, h1, h2 with | [_], [], _, _ => .of_eq rfl, trivial⟩⟩
theorem st__law_pot : DfSt d__law_pot s__law_pot := ⟨rfl, ⟨rfl, rfl, rfl, by decide +kernel, rfl, by decide +kernel, by decide +kernel⟩, rfl, ⟨rfl, by decide⟩⟩
theorem sh__law_pot : ShsN d__law_pot s__law_pot := fun K name qual kV doc pm an cdv ct => ⟨rfl, ⟨fun s us ws _ h1 h2 => match us, ws, h1, h2 with | [_, _], [], _, _ => .of_eq rfl, trivial⟩⟩
theorem st__law_draw : DfSt d__law_draw s__law_draw := ⟨rfl, ⟨rfl, rfl, rfl, by decide +kernel, rfl, by decide +kernel, by decide +kernel⟩, rfl, ⟨rfl, by decide⟩⟩
theorem sh__law_draw : ShsN d__law_draw s__law_draw := fun K name qual kV doc pm an cdv ct => ⟨rfl, ⟨fun s us ws _ h1 h2 => match us, ws, h1, h2 with | [_, _], [], _, _ => .of_eq rfl, trivial⟩⟩
theorem st__law_pick : DfSt d__law_pick s__law_pick := ⟨rfl, ⟨rfl, rfl, rfl, by decide +kernel, rfl, by decide +kernel, by decide +kernel⟩, rfl, ⟨rfl, by decide⟩⟩
theorem sh__law_pick : ShsN d__law_pick s__law_pick := fun K name qual kV doc pm an cdv ct => ⟨rfl, ⟨fun s us ws _ h1 h2 => match us, ws, h1, h2 with | [_, _], [], _, _ => .of_eq rfl, trivial⟩⟩
theorem st__law_term : DfSt d__law_term s__law_term := ⟨rfl, ⟨rfl, rfl, rfl, by decide +kernel, rfl, by decide +kernel, by decide +kernel⟩, rfl, ⟨rfl, by decide⟩⟩
theorem sh__law_term : ShsN d__law_term s__law_term := fun K name qual kV doc pm an cdv ct => ⟨rfl, ⟨fun s us ws _ h1 h2 => match us, ws, h1, h2 with | [_, _, _], [], _, _ => .of_eq rfl, trivial⟩⟩
theorem st__law_terms : DfSt d__law_terms s__law_terms := ⟨rfl, ⟨rfl, rfl, rfl, by decide +kernel, rfl, by decide +kernel, by decide +kernel⟩, rfl, ⟨rfl, by decide⟩⟩
theorem sh__law_terms : ShsN d__law_terms s__law_terms := fun K name qual kV doc pm an cdv ct => ⟨rfl, ⟨fun s us ws _ h1 h2 => match us, ws, h1, h2 with | [_, _, _, _], [], _, _ => .of_eq rfl, trivial⟩⟩
theorem st__law_asked : DfSt d__law_asked s__law_asked := ⟨rfl, ⟨rfl, rfl, rfl, by decide +kernel, rfl, by decide +kernel, by decide +kernel⟩, rfl, ⟨rfl, by decide⟩⟩
theorem sh__law_asked : ShsN d__law_asked s__law_asked := fun K name qual kV doc pm an cdv ct => ⟨rfl, ⟨fun s us ws _ h1 h2 => match us, ws, h1, h2 with | [_, _, _, _], [], _, _ => .of_eq rfl, trivial⟩⟩
theorem st__law_found : DfSt d__law_found s__law_found := ⟨rfl, ⟨rfl, rfl, rfl, by decide +kernel, rfl, by decide +kernel, by decide +kernel⟩, rfl, ⟨rfl, by decide⟩⟩
theorem sh__law_found : ShsN d__law_found s__law_found := fun K name qual kV doc pm an cdv ct => ⟨rfl, ⟨fun s us ws _ h1 h2 => match us, ws, h1, h2 with | [_, _], [], _, _ => .of_eq rfl, trivial⟩⟩
theorem st__law_links : DfSt d__law_links s__law_links := ⟨rfl, ⟨rfl, rfl, rfl, by decide +kernel, rfl, by decide +kernel, by decide +kernel⟩, rfl, ⟨rfl, by decide⟩⟩
theorem sh__law_links : ShsN d__law_links s__law_links := fun K name qual kV doc pm an cdv ct => ⟨rfl, ⟨fun s us ws _ h1 h2 => match us, ws, h1, h2 with | [_, _], [], _, _ => .of_eq rfl, trivial⟩⟩
theorem st__law_found_right : DfSt d__law_found_right s__law_found_right := ⟨rfl, ⟨rfl, rfl, rfl, by decide +kernel, rfl, by decide +kernel, by decide +kernel⟩, rfl, ⟨rfl, by decide⟩⟩
theorem sh__law_found_right : ShsN d__law_found_right s__law_found_right := fun K name qual kV doc pm an cdv ct => ⟨rfl, ⟨fun s us ws _ h1 h2 => match us, ws, h1, h2 with | [_, _, _], [], _, _ => .of_eq rfl, trivial⟩⟩
theorem st__law_links_right : DfSt d__law_links_right s__law_links_right := ⟨rfl, ⟨rfl, rfl, rfl, by decide +kernel, rfl, by decide +kernel, by decide +kernel⟩, rfl, ⟨rfl, by decide⟩⟩
theorem sh__law_links_right : ShsN d__law_links_right s__law_links_right := fun K name qual kV doc pm an cdv ct => ⟨rfl, ⟨fun s us ws _ h1 h2 => match us, ws, h1, h2 with | [_, _, _], [], _, _ => .of_eq rfl, trivial⟩⟩
theorem st__law_right : DfSt d__law_right s__law_right := ⟨rfl, ⟨rfl, rfl, rfl, by decide +kernel, rfl, by decide +kernel, by decide +kernel⟩, rfl, ⟨rfl, by decide⟩⟩
theorem sh__law_right : ShsN d__law_right s__law_right := fun K name qual kV doc pm an cdv ct => ⟨rfl, ⟨fun s us ws _ h1 h2 => match us, ws, h1, h2 with | [_], [], _, _ => .of_eq rfl, trivial⟩⟩
theorem st_law : DfSt d_law s_law := ⟨rfl, ⟨rfl, rfl, rfl, by decide +kernel, rfl, by decide +kernel, by decide +kernel⟩, rfl, ⟨rfl, by decide⟩⟩
theorem sh_law : ShsN d_law s_law := fun K name qual kV doc pm an cdv ct => ⟨rfl, trivial⟩
theorem lawB : LawB s_law "_law_script" := fun _ _ _ _ _ _ _ _ _ _ => .of_eq rfl
theorem st_Lot___init__ : DfSt d_Lot___init__ s_Lot___init__ := ⟨rfl, ⟨rfl, rfl, rfl, by decide +kernel, rfl, by decide +kernel, by decide +kernel⟩, rfl, ⟨rfl, by decide⟩⟩
theorem sh_Lot___init__ : ShsA d_Lot___init__ s_Lot___init__ := fun K name qual kV doc pm an cdv ct T o its n lT oT hi => ⟨rfl, ⟨fun s u us ws X h1 h2 => match its, hi, us, ws, h1, h2 with | [_], _, [_], [], _, _ => L2.BindsTo.of_looks fun M => looks_items X lT oT (.of_pure rfl), trivial⟩⟩
theorem st_Lot_words : DfSt d_Lot_words s_Lot_words := ⟨rfl, ⟨rfl, rfl, rfl, by decide +kernel, rfl, by decide +kernel, by decide +kernel⟩, rfl, ⟨rfl, by decide⟩⟩
theorem sh_Lot_words : ShsM d_Lot_words s_Lot_words := fun K name qual kV doc pm an cdv ct => ⟨rfl, trivial⟩
theorem st_Lot_letters : DfSt d_Lot_letters s_Lot_letters := ⟨rfl, ⟨rfl, rfl, rfl, by decide +kernel, rfl, by decide +kernel, by decide +kernel⟩, rfl, ⟨rfl, by decide⟩⟩
theorem sh_Lot_letters : ShsM d_Lot_letters s_Lot_letters := fun K name qual kV doc pm an cdv ct => ⟨rfl, trivial⟩
theorem st_Lot_longest : DfSt d_Lot_longest s_Lot_longest := ⟨rfl, ⟨rfl, rfl, rfl, by decide +kernel, rfl, by decide +kernel, by decide +kernel⟩, rfl, ⟨rfl, by decide⟩⟩
theorem sh_Lot_longest : ShsM d_Lot_longest s_Lot_longest := fun K name qual kV doc pm an cdv ct => ⟨rfl, trivial⟩
theorem st_Lot_shortest : DfSt d_Lot_shortest s_Lot_shortest := ⟨rfl, ⟨rfl, rfl, rfl, by decide +kernel, rfl, by decide +kernel, by decide +kernel⟩, rfl, ⟨rfl, by decide⟩⟩
theorem sh_Lot_shortest : ShsM d_Lot_shortest s_Lot_shortest := fun K name qual kV doc pm an cdv ct => ⟨rfl, trivial⟩
theorem st_Lot_renamed : DfSt d_Lot_renamed s_Lot_renamed := ⟨rfl, ⟨rfl, rfl, rfl, by decide +kernel, rfl, by decide +kernel, by decide +kernel⟩, rfl, ⟨rfl, by decide⟩⟩
theorem sh_Lot_renamed : ShsM d_Lot_renamed s_Lot_renamed := fun K name qual kV doc pm an cdv ct => ⟨rfl, trivial⟩
theorem st_Lot_backwards : DfSt d_Lot_backwards s_Lot_backwards := ⟨rfl, ⟨rfl, rfl, rfl, by decide +kernel, rfl, by decide +kernel, by decide +kernel⟩, rfl, ⟨rfl, by decide⟩⟩
theorem sh_Lot_backwards : ShsM d_Lot_backwards s_Lot_backwards := fun K name qual kV doc pm an cdv ct => ⟨rfl, trivial⟩
theorem st_Lot_is_within : DfSt d_Lot_is_within s_Lot_is_within := ⟨rfl, ⟨rfl, rfl, rfl, by decide +kernel, rfl, by decide +kernel, by decide +kernel⟩, rfl, ⟨rfl, by decide⟩⟩
theorem sh_Lot_is_within : ShsM d_Lot_is_within s_Lot_is_within := fun K name qual kV doc pm an cdv ct => ⟨rfl, trivial⟩
theorem st_Lot___len__ : DfSt d_Lot___len__ s_Lot___len__ := ⟨rfl, ⟨rfl, rfl, rfl, by decide +kernel, rfl, by decide +kernel, by decide +kernel⟩, rfl, ⟨rfl, by decide⟩⟩
theorem sh_Lot___len__ : BndN d_Lot___len__ s_Lot___len__ := fun K name qual kV doc pm an cdv ct => .all fun us hl => match us, hl with | [_], _ => rfl
theorem st_Lot___contains__ : DfSt d_Lot___contains__ s_Lot___contains__ := ⟨rfl, ⟨rfl, rfl, rfl, by decide +kernel, rfl, by decide +kernel, by decide +kernel⟩, rfl, ⟨rfl, by decide⟩⟩
theorem sh_Lot___contains__ : BndN d_Lot___contains__ s_Lot___contains__ := fun K name qual kV doc pm an cdv ct => .all fun us hl => match us, hl with | [_, _], _ => rfl
theorem st_Lot___iter__ : DfSt d_Lot___iter__ s_Lot___iter__ := ⟨rfl, ⟨rfl, rfl, rfl, by decide +kernel, rfl, by decide +kernel, by decide +kernel⟩, rfl, ⟨rfl, by decide⟩⟩
theorem sh_Lot___iter__ : BndN d_Lot___iter__ s_Lot___iter__ := fun K name qual kV doc pm an cdv ct => .all fun us hl => match us, hl with | [_], _ => rfl
theorem st_Lot___eq__ : DfSt d_Lot___eq__ s_Lot___eq__ := ⟨rfl, ⟨rfl, rfl, rfl, by decide +kernel, rfl, by decide +kernel, by decide +kernel⟩, rfl, ⟨rfl, by decide⟩⟩
theorem sh_Lot___eq__ : BndN d_Lot___eq__ s_Lot___eq__ := fun K name qual kV doc pm an cdv ct => .all fun us hl => match us, hl with | [_, _], _ => rfl
theorem st_Lot___repr__ : DfSt d_Lot___repr__ s_Lot___repr__ := ⟨rfl, ⟨rfl, rfl, rfl, by decide +kernel, rfl, by decide +kernel, by decide +kernel⟩, rfl, ⟨rfl, by decide⟩⟩
theorem sh_Lot___repr__ : BndN d_Lot___repr__ s_Lot___repr__ := fun K name qual kV doc pm an cdv ct => .all fun us hl => match us, hl with | [_], _ => rfl
theorem st_Lot___add__ : DfSt d_Lot___add__ s_Lot___add__ := ⟨rfl, ⟨rfl, rfl, rfl, by decide +kernel, rfl, by decide +kernel, by decide +kernel⟩, rfl, ⟨rfl, by decide⟩⟩
theorem sh_Lot___add__ : BndN d_Lot___add__ s_Lot___add__ := fun K name qual kV doc pm an cdv ct => .all fun us hl => match us, hl with | [_, _], _ => rfl
theorem st_Lot___sub__ : DfSt d_Lot___sub__ s_Lot___sub__ := ⟨rfl, ⟨rfl, rfl, rfl, by decide +kernel, rfl, by decide +kernel, by decide +kernel⟩, rfl, ⟨rfl, by decide⟩⟩
theorem sh_Lot___sub__ : BndN d_Lot___sub__ s_Lot___sub__ := fun K name qual kV doc pm an cdv ct => .all fun us hl => match us, hl with | [_, _], _ => rfl
theorem st_Lot___or__ : DfSt d_Lot___or__ s_Lot___or__ := ⟨rfl, ⟨rfl, rfl, rfl, by decide +kernel, rfl, by decide +kernel, by decide +kernel⟩, rfl, ⟨rfl, by decide⟩⟩
theorem sh_Lot___or__ : BndN d_Lot___or__ s_Lot___or__ := fun K name qual kV doc pm an cdv ct => .all fun us hl => match us, hl with | [_, _], _ => rfl
theorem st_Lot___and__ : DfSt d_Lot___and__ s_Lot___and__ := ⟨rfl, ⟨rfl, rfl, rfl, by decide +kernel, rfl, by decide +kernel, by decide +kernel⟩, rfl, ⟨rfl, by decide⟩⟩
theorem sh_Lot___and__ : BndN d_Lot___and__ s_Lot___and__ := fun K name qual kV doc pm an cdv ct => .all fun us hl => match us, hl with | [_, _], _ => rfl
def Wc (K : PySem.W.Frag) ( C0 : Addr) : Pw := ⟨K, fun n => match n with
  | 0 => C0
  | _ => 0⟩
theorem hF_mk {P : Program} {w : World} {K : PySem.W.Frag} {h : Heap} {mg : Str → Option Value} {fa : Addr} { C0 : Addr} (KX : K.In h) (G : h.Ns mainGlobals mg) (hmg : mg "law" = some (.ref fa))
  (law : LawD K mg d_law "_law_script")
  (f__wall : FnD K mg (Wc K C0) d__wall)
  (f_is_integer : FnD K mg (Wc K C0) d_is_integer)
  (f_is_letter : FnD K mg (Wc K C0) d_is_letter)
  (f_is_word : FnD K mg (Wc K C0) d_is_word)
  (f_is_question : FnD K mg (Wc K C0) d_is_question)
  (f_is_list : FnD K mg (Wc K C0) d_is_list)
  (f_in_sequence : FnD K mg (Wc K C0) d_in_sequence)
  (f_sequence_key : FnD K mg (Wc K C0) d_sequence_key)
  (f_is_place : FnD K mg (Wc K C0) d_is_place)
  (f_check_question : FnD K mg (Wc K C0) d_check_question)
  (f_check_place : FnD K mg (Wc K C0) d_check_place)
  (f_found_at : FnD K mg (Wc K C0) d_found_at)
  (f_bridges : FnD K mg (Wc K C0) d_bridges)
  (f_bridges_at : FnD K mg (Wc K C0) d_bridges_at)
  (f_is_lot_word : FnD K mg (Wc K C0) d_is_lot_word)
  (f_check_lot_words : FnD K mg (Wc K C0) d_check_lot_words)
  (f_check_lot : FnD K mg (Wc K C0) d_check_lot)
  (f__law_pot : FnD K mg (Wc K C0) d__law_pot)
  (f__law_draw : FnD K mg (Wc K C0) d__law_draw)
  (f__law_pick : FnD K mg (Wc K C0) d__law_pick)
  (f__law_term : FnD K mg (Wc K C0) d__law_term)
  (f__law_terms : FnD K mg (Wc K C0) d__law_terms)
  (f__law_asked : FnD K mg (Wc K C0) d__law_asked)
  (f__law_found : FnD K mg (Wc K C0) d__law_found)
  (f__law_links : FnD K mg (Wc K C0) d__law_links)
  (f__law_found_right : FnD K mg (Wc K C0) d__law_found_right)
  (f__law_links_right : FnD K mg (Wc K C0) d__law_links_right)
  (f__law_right : FnD K mg (Wc K C0) d__law_right)
  (f_law : FnD K mg (Wc K C0) d_law)
  (cons : Den.AllP (fun q => ∃ u v, mg q.1 = some u ∧ RelV v u ∧ ∀ G, Rp (Wc K C0) G v q.2) prg.cons)
  (c_Lot_here : PySem.W.nsIn K mainGlobals "Lot" = some (some (.ref C0))) (c_Lot : ClsC K mg C0 c_Lot)
  (isi : IsiOk (Wc K C0) prg.isi) (gcd : Den.AllP (fun x => PySem.W.nsIn K mainGlobals x = some (some (.builtin "math.gcd"))) prg.gcds)
  (keys : Den.AllP (fun x => ∃ f, mg x = some (.ref f) ∧ ∀ P w base, KeyLen P w K mg base f) prg.keys)
  (walk : Den.AllP (fun q => ∃ f, PySem.W.findIn K (.ref ((Wc K C0).cl q.1)) "__iter__" = some (some (.ref f)) ∧ PySem.W.isFn K (.ref f) = true ∧ ∀ P w base, IterFld P w K mg base ((Wc K C0).cl q.1) f q.2) prg.walk)
  (b_len : PySem.W.nsIn K mainGlobals "len" = some none)
  (b_abs : PySem.W.nsIn K mainGlobals "abs" = some none)
  (b_max : PySem.W.nsIn K mainGlobals "max" = some none)
  (b_min : PySem.W.nsIn K mainGlobals "min" = some none)
  (b_int : PySem.W.nsIn K mainGlobals "int" = some none)
  (b_divmod : PySem.W.nsIn K mainGlobals "divmod" = some none)
  (b_all : PySem.W.nsIn K mainGlobals "all" = some none)
  (b_repr : PySem.W.nsIn K mainGlobals "repr" = some none)
  (b_any : PySem.W.nsIn K mainGlobals "any" = some none)
  (b_sum : PySem.W.nsIn K mainGlobals "sum" = some none)
  (b_isinstance : PySem.W.nsIn K mainGlobals "isinstance" = some none)
  (b_sorted : PySem.W.nsIn K mainGlobals "sorted" = some none)
  (b_list : PySem.W.nsIn K mainGlobals "list" = some none)
  (b_tuple : PySem.W.nsIn K mainGlobals "tuple" = some none)
  (b_str : PySem.W.nsIn K mainGlobals "str" = some none)
  (b_bool : PySem.W.nsIn K mainGlobals "bool" = some none)
  (b_dict : PySem.W.nsIn K mainGlobals "dict" = some none)
  (b_set : PySem.W.nsIn K mainGlobals "set" = some none)
  (rng : PySem.W.nsIn K mainGlobals "range" = some none) (enm : PySem.W.nsIn K mainGlobals "enumerate" = some none) (zip : PySem.W.nsIn K mainGlobals "zip" = some none) :
    ∃ (W : Pw) (fd : FuncData), W.K.In h ∧ (∀ (s : Shared) (u : Value), BindsTo s fd ⟨[u], []⟩ [("_law_script", u)]) ∧ ∀ base : Heap, W.K.In base → base.Ns mainGlobals mg → FnG P w W.K mg base (2 * 10 + 5) fa fd ["_law_script"] (spF W 1 (d_law.F (tab prg 10) prg.fuel)) := by
  have no : ∀ x : Str, PySem.W.nsIn K mainGlobals x = some none → mg x = none := fun x e => PySem.W.mg_none_of KX G e
  refine end_of (W := Wc K C0) (dl := d_law) KX hmg law ⟨allP ⟨f__wall, f_is_integer, f_is_letter, f_is_word, f_is_question, f_is_list, f_in_sequence, f_sequence_key, f_is_place, f_check_question, f_check_place, f_found_at, f_bridges, f_bridges_at, f_is_lot_word, f_check_lot_words, f_check_lot, f__law_pot, f__law_draw, f__law_pick, f__law_term, f__law_terms, f__law_asked, f__law_found, f__law_links, f__law_found_right, f__law_links_right, f__law_right, f_law, trivial⟩, fun x d e => allP cons (x, d) (Den.mem_of_lookup e), fun x b e => ?_, fun x e => ?_, allP ⟨c_Lot.clsD rfl, trivial⟩, isi, fun x e => PySem.W.mg_of KX G (allP gcd x (by simpa using e)), no _ rng, no _ enm, no _ zip, no _ b_set, fun x e => allP keys x (by simpa using e), fun c fld e => allP walk (c, fld) (mem_of_lookup e)⟩
  · unfold bis at e
    simp only [List.lookup_cons] at e
    repeat' (split at e)
    all_goals first
      | (rename_i q; simp only [beq_iff_eq] at q; subst q; first | exact no _ b_len | exact no _ b_abs | exact no _ b_max | exact no _ b_min | exact no _ b_int | exact no _ b_divmod | exact no _ b_all | exact no _ b_repr | exact no _ b_any | exact no _ b_sum | exact no _ b_isinstance | exact no _ b_sorted | exact no _ b_list | exact no _ b_tuple | exact no _ b_str)
      | cases e
  · have hx : x = "int" ∨ x = "str" ∨ x = "bool" ∨ x = "list" ∨ x = "tuple" ∨ x = "dict" ∨ x = "set" := by simpa [tys] using e
    rcases hx with rfl | rfl | rfl | rfl | rfl | rfl | rfl
    · exact no _ b_int
    · exact no _ b_str
    · exact no _ b_bool
    · exact no _ b_list
    · exact no _ b_tuple
    · exact no _ b_dict
    · exact no _ b_set

end K13
end

section
set_option Elab.async false
set_option linter.all false
set_option maxRecDepth 100000
set_option maxHeartbeats 4000000
namespace K13
open PySem L2 Den PyProof.Rows
local macro_rules | `(tactic| walk_at "rf") => `(tactic| first
  | ((with_reducible show RV.cont _ _ = some _); exact rfl)
  | ((with_reducible show RV.dt _ = some _); exact rfl)
  | ((with_reducible show RV.cls _ = _); exact rfl)
  | ((with_reducible show RV.objf _ = _); exact rfl)
  | ((with_reducible show passE _ _ _ = some _); exact rfl)
  | ((with_reducible show BackAt _ _ _ _ _); first | exact BackAt.nil | apply BackAt.dat | apply BackAt.slot | apply BackAt.own)
  | ((with_reducible show onceB _ _ _ = true); exact rfl)
  | ((with_reducible show ownB _ _ _ = true); exact rfl)
  | ((with_reducible show pinned _ _ _ = false); exact rfl)
  | ((with_reducible show dts _ = some _); exact rfl)
  | ((with_reducible show conts _ _ = some _); exact rfl)
  | ((with_reducible show setSV _ _ = some _); exact rfl)
  | ((with_reducible show retK _ _ _ = some _); exact rfl)
  | ((with_reducible show fnK _ _ = some _); exact rfl)
  | ((with_reducible show List.length _ = _); exact rfl)
  | ((with_reducible show pick _ _ = _); exact rfl)
  | ((with_reducible show Nat.ble _ _ = true); exact rfl)
  | ((with_reducible show Nat.blt _ _ = true); exact rfl)
  | ((with_reducible show truthD _ = some _); exact rfl)
  | ((with_reducible show sideB _ _ = true); exact rfl)
  | ((with_reducible show intB _ = true); exact rfl)
  | ((with_reducible show eqSideB _ _ = true); exact rfl)
  | ((with_reducible show itemsD _ = some _); exact rfl)
  | ((with_reducible show putD _ _ _ = _); exact rfl)
  | ((with_reducible show List.lookup _ _ = _); exact rfl)
  | ((with_reducible show getElem? _ _ = some _); exact rfl)
  | with_reducible exact ixN0
  | with_reducible exact ixN1)
local macro_rules | `(tactic| walk_at "ln") => `(tactic| repeat' (first | with_reducible exact Ln.num (by walk_at "bd") | with_reducible exact Ln.lit | with_reducible exact Ln.emp | with_reducible apply Ln.app))
local macro_rules | `(tactic| walk_at "sa") => `(tactic| repeat' (first | with_reducible exact AppAt.nil | with_reducible apply AppAt.cons | with_reducible exact ZipAt.nil | with_reducible apply ZipAt.cons))
local macro_rules | `(tactic| walk_at "pr") => `(tactic| first
  | ((with_reducible apply ev_mul); walk_at "bd")
  | ((with_reducible apply ev_fdiv) <;> walk_at "bd")
  | ((with_reducible apply ev_mod); walk_at "bd")
  | ((with_reducible apply ev_divmod) <;> walk_at "bd")
  | ((with_reducible apply ev_pow) <;> walk_at "bd")
  | ((with_reducible apply ev_addS); exact Ln.ok2 (by walk_at "ln") (by walk_at "ln") rfl)
  | ((with_reducible apply ev_addL); walk_at "sa"; exact rfl)
  | ((with_reducible apply ev_append); walk_at "sa"; exact rfl)
  | ((with_reducible apply ev_strI); walk_at "bd")
  | with_reducible exact ev_twice
  | ((with_reducible apply len_Tx); walk_at "bd")
  | ((with_reducible apply add_Tx); walk_at "bd")
  | with_reducible exact eq_Tx _ _
  | with_reducible exact ne_Tx _ _
  | ((with_reducible apply sl_Tx); walk_at "bd")
  | ((with_reducible show addD _ _ = some _); exact rfl)
  | ((with_reducible show subD _ _ = some _); exact rfl)
  | ((with_reducible show cmpD _ _ _ _ = some _); exact rfl)
  | ((with_reducible show isD _ _ _ = some _); exact rfl)
  | ((with_reducible show ixD _ _ = some _); exact rfl)
  | ((with_reducible show absD _ = some _); exact rfl)
  | ((with_reducible show max2D _ = some _); exact rfl)
  | ((with_reducible show min2D _ = some _); exact rfl)
  | ((with_reducible show int1D _ = some _); exact rfl)
  | ((with_reducible show lenD _ = some _); exact rfl)
  | ((with_reducible show gcdD _ = some _); exact rfl)
  | ((with_reducible show allD _ = some _); exact rfl)
  | ((with_reducible show isi2D _ _ = some _); exact rfl)
  | ((with_reducible show negD _ = some _); exact rfl)
  | ((with_reducible show appendD _ _ = some _); exact rfl)
  | ((with_reducible show eqD _ _ = some _); exact rfl)
  | ((with_reducible show neD _ _ = some _); exact rfl)
  | ((with_reducible show mul3D _ _ = some _); exact rfl))
local macro_rules | `(tactic| walk_at "tt") => `(tactic| first | with_reducible exact bne_self _ | with_reducible assumption | exact rfl | assumption | (simp only [Bool.not_eq_true', Bool.not_eq_false', Bool.not_true, Bool.not_false, decide_eq_true_eq, decide_eq_false_iff_not, beq_iff_eq, bne_iff_ne, beq_eq_false_iff_ne, Bool.and_eq_true, Bool.and_true, Bool.true_and, if_true, Bool.false_eq_true, if_false]; first | done | assumption | omega) | (simp [*]; done))
local macro_rules | `(tactic| walk_at "ev1") => `(tactic| first
  | with_reducible exact ev_c
  | ((with_reducible show some _ = some _); with_reducible exact rfl)
  | ((with_reducible apply ev_vd); exact rfl)
  | ((with_reducible apply ev_vo); exact rfl)
  | ((with_reducible apply ev_vb); exact rfl)
  | with_reducible exact ev_aNil
  | with_reducible apply ev_aCons
  | with_reducible apply ev_aApp
  | with_reducible apply ev_aSel
  | with_reducible apply tail_of
  | with_reducible apply ev_binV
  | ((with_reducible apply binK_l (c := 0)); exact rfl)
  | ((with_reducible apply binK_r (c := 0)); exact rfl; exact rfl)
  | ((with_reducible apply binK_d); exact rfl; exact rfl)
  | with_reducible apply ev_bin
  | with_reducible apply ev_unV
  | ((with_reducible apply unK_l (c := 0)); exact rfl)
  | ((with_reducible apply unK_d); exact rfl)
  | with_reducible apply ev_cmpV
  | ((with_reducible apply cmpK_l (c := 0)); exact rfl)
  | ((with_reducible apply cmpK_d); exact rfl)
  | with_reducible apply ev_attrV
  | ((with_reducible apply attrK_l (c := 0)); exact rfl; walk_at "tb")
  | ((with_reducible apply attrK_f (c := 0)); exact rfl; walk_at "tb")
  | ((with_reducible apply attrK_s); exact rfl)
  | with_reducible apply fldV_of
  | with_reducible apply ev_reprV
  | ((with_reducible apply reprK_l (c := 0)); exact rfl)
  | ((with_reducible apply reprK_d); exact rfl)
  | with_reducible apply ev_fnS
  | with_reducible apply ev_cm
  | with_reducible apply ev_mkS
  | with_reducible apply ev_methS
  | with_reducible apply ev_call
  | with_reducible apply ev_tup
  | with_reducible apply ev_lst
  | with_reducible apply ev_not
  | ((with_reducible apply iteK_t); walk_at "tt")
  | ((with_reducible apply iteK_f); walk_at "tt")
  | with_reducible apply ev_if
  | with_reducible apply ev_and
  | with_reducible apply ev_or
  | with_reducible apply ev_bVal
  | with_reducible apply ev_bTruth
  | with_reducible apply ev_bNot
  | with_reducible apply ev_bAnd
  | with_reducible apply ev_bOr)
local macro_rules | `(tactic| walk_at "ev2") => `(tactic| first
  | with_reducible apply ev_seq
  | with_reducible apply seqK_nx
  | ((with_reducible show seqK _ _ = some _); exact rfl)
  | with_reducible apply ev_set
  | with_reducible apply ev_sif
  | with_reducible apply ev_ret
  | with_reducible exact ev_snil
  | with_reducible apply ev_par2
  | with_reducible apply ev_par3
  | with_reducible apply ev_asg
  | with_reducible apply ev_exp
  | with_reducible apply ev_mut
  | with_reducible apply ev_fld
  | with_reducible apply ev_gset
  | with_reducible apply ev_gtup
  | with_reducible apply ev_gsc
  | with_reducible exact ev_gsn
  | with_reducible apply ev_gix
  | with_reducible exact SetAt.zero
  | with_reducible apply SetAt.succ
  | with_reducible exact Pad.nil
  | with_reducible apply Pad.dat
  | with_reducible apply Pad.own
  | with_reducible apply Pad.bor
  | with_reducible apply Pad.und
  | with_reducible exact WipeAt.nil
  | with_reducible apply WipeAt.cons
  | with_reducible exact fz_nil
  | ((with_reducible apply fz_own); exact rfl)
  | with_reducible apply ev_fz
  | with_reducible apply ev_lc
  | with_reducible exact lc_nil
  | with_reducible apply lc_cons
  | with_reducible apply ev_zipA
  | with_reducible exact ZipAt.nil
  | with_reducible apply ZipAt.cons
  | with_reducible exact ev_jsN
  | with_reducible apply ev_jsC
  | ((with_reducible show _ ≤ sizeLine); exact Ln.ok (by walk_at "ln") rfl)
  | ((with_reducible show Nat.log2 _ < 1920); walk_at "bd")
  | with_reducible apply ev_fmtI
  | with_reducible apply ev_walkV
  | with_reducible apply ev_chainT
  | with_reducible exact ev_oN
  | with_reducible apply ev_oS
  | with_reducible apply ev_sl
  | with_reducible apply ev_m1
  | with_reducible apply ev_sortKey
  | ((with_reducible apply ev_mut0); exact rfl)
  | with_reducible apply ev_rng1
  | with_reducible apply ev_fn)
local macro_rules | `(tactic| walk_at "ev") => `(tactic| repeat' (first | walk_at "rf" | walk_at "ev1" | walk_at "ev2" | walk_at "tb" | walk_at "call" | walk_at "pr"))
local macro_rules | `(tactic| walk_at "bd") => `(tactic| first | assumption | decide | omega)
local macro_rules | `(tactic| walk_at "tb") => `(tactic| first | with_reducible exact tb_0 _ | with_reducible exact tb_1 _ | with_reducible exact tb_2 _ | with_reducible exact tb_3 _ | with_reducible exact tb_4 _ | with_reducible exact tb_5 _ | with_reducible exact tb_6 _)
local macro_rules | `(tactic| walk_at "call") => `(tactic| with_reducible assumption)
theorem log_lt {x k : Nat} (h : x < 2 ^ k) (hk : 0 < k) : x.log2 < k := by
  by_cases z : x = 0
  · subst z; simpa using hk
  · rwa [Nat.log2_lt z]
abbrev potD (p : Int × Int) : D := .lst [.int p.1, .int p.2]
def POK (p : Int × Int) : Prop := 0 ≤ p.2 ∧ p.2 < 2 ^ 32
theorem log32 {x : Int} (h0 : 0 ≤ x) (h : x < 2 ^ 32) : x.natAbs.log2 < 1000 := Nat.lt_of_lt_of_le (log_lt (k := 32) (by omega) (by decide)) (by decide)
theorem F_draw (n : Nat) (p : Int × Int) (s : Int) (hp : POK p) (h0 : 0 < s) (h1 : s < 1073741824) : ∃ v q, d__law_draw.F (tab prg (n+1)) 60 [.own (potD p), .dat (.int s)] = some (.dat (.int v), [.own (potD q), .dat (.int s)]) ∧ 0 ≤ v ∧ v < s ∧ POK q := by
  obtain ⟨a, b⟩ := p
  obtain ⟨p0, p1⟩ := hp
  dsimp only at p0 p1
  by_cases h : 0 < a
  · refine ⟨a % s, (a / s, b), ?_, Int.emod_nonneg _ (by omega), Int.emod_lt_of_pos _ h0, p0, p1⟩
    rw [den__law_draw]
    walk_at "ev"
  · have hb : b.natAbs.log2 + (39979 : Int).natAbs.log2 < 1000000 := by have := log32 p0 p1; have : (39979 : Int).natAbs.log2 < 100 := by decide
                                                                        omega
    let c : Int := (b * 39979 + 15077) % 2147483543
    have c0 : 0 ≤ c := Int.emod_nonneg _ (by decide)
    have c1 : c < 2147483543 := Int.emod_lt_of_pos _ (by decide)
    have hc := log32 c0 (by omega)
    have hcc : c.natAbs.log2 + c.natAbs.log2 < 1000000 := by omega
    refine ⟨(c * c % 2147483563).fdiv 13 % s, (a, c), ?_, Int.emod_nonneg _ (by omega), Int.emod_lt_of_pos _ h0, c0, by dsimp only; omega⟩
    rw [den__law_draw]
    walk_at "ev"
def potV (c k : Int) : Int × Int := (if c - 10 ^ Int.toNat 18 > 0 then c - 10 ^ Int.toNat 18 else 0, (c % 2147483549 + 23) * (2 * k + 5) ^ Int.toNat 3 % 2147483579 + 1)
theorem potV_ok (c k : Int) : POK (potV c k) := by
  have h0 := Int.emod_nonneg ((c % 2147483549 + 23) * (2 * k + 5) ^ Int.toNat 3) (show (2147483579 : Int) ≠ 0 by decide)
  have h1 := Int.emod_lt_of_pos ((c % 2147483549 + 23) * (2 * k + 5) ^ Int.toNat 3) (show (0 : Int) < 2147483579 by decide)
  constructor
  · show 0 ≤ (c % 2147483549 + 23) * (2 * k + 5) ^ Int.toNat 3 % 2147483579 + 1
    omega
  · show (c % 2147483549 + 23) * (2 * k + 5) ^ Int.toNat 3 % 2147483579 + 1 < 2 ^ 32
    omega
theorem F_pot (n : Nat) (ns : List Int) (k : Int) (k0 : 0 ≤ k) (k1 : k < 5) : ∃ p, d__law_pot.F (tab prg (n+1)) 60 [.dat (.scr ns), .dat (.int k)] = some (.own (potD p), [.dat (.scr ns), .dat (.int k)]) ∧ POK p := by
  have kl : k.natAbs.log2 < 100 := Nat.lt_trans (log_lt (k := 8) (by omega) (by decide)) (by decide)
  have m1 : (41 : Int).natAbs.log2 + k.natAbs.log2 < 1000000 := Nat.lt_trans (Nat.add_lt_add (show (41 : Int).natAbs.log2 < 100 by decide) kl) (by decide)
  have m3 : (2 : Int).natAbs.log2 + k.natAbs.log2 < 1000000 := Nat.lt_trans (Nat.add_lt_add (show (2 : Int).natAbs.log2 < 100 by decide) kl) (by decide)
  have m4 : (2 * k + 5).natAbs < 2 ^ 64 := by omega
  have m5 : ((2 * k + 5) ^ Int.toNat 3).natAbs.log2 < 100 := by
    rw [Int.natAbs_pow]
    have : (2 * k + 5).natAbs ^ Int.toNat 3 ≤ 16 ^ 3 := Nat.pow_le_pow_left (by omega) 3
    exact Nat.lt_trans (log_lt (k := 16) (Nat.lt_of_le_of_lt this (by decide)) (by decide)) (by decide)
  have m6 : ∀ c : Int, (c % 2147483549 + 23).natAbs.log2 + ((2 * k + 5) ^ Int.toNat 3).natAbs.log2 < 1000000 := fun c => by
    have h0 := Int.emod_nonneg c (show (2147483549 : Int) ≠ 0 by decide)
    have h1 := Int.emod_lt_of_pos c (show (0 : Int) < 2147483549 by decide)
    have := log32 (x := c % 2147483549 + 23) (by omega) (by omega)
    omega
  by_cases h : k < (ns.length : Int)
  · have hx : ixD (.scr ns) (.int k) = some (.dat (.int (ns.getD k.toNat 0))) := by
      have hn : k.toNat < ns.length := by omega
      have e : ns[k.toNat]? = some (ns.getD k.toNat 0) := by rw [List.getD_eq_getElem?_getD, List.getElem?_eq_getElem hn]; rfl
      show (atI ns k).map (fun n => RV.dat (.int n)) = _
      unfold atI ixN
      rw [if_pos k0, if_pos h]
      show (Option.map _ ns[k.toNat]?) = _
      rw [e]; rfl
    have m7 := m6 (if ns.getD k.toNat 0 < 0 then -(ns.getD k.toNat 0) else ns.getD k.toNat 0)
    refine ⟨potV (if ns.getD k.toNat 0 < 0 then -(ns.getD k.toNat 0) else ns.getD k.toNat 0) k, ?_, potV_ok _ _⟩
    rw [den__law_pot]
    walk_at "ev"
  · have m7 := m6 (41 * k + 29)
    refine ⟨potV (41 * k + 29) k, ?_, potV_ok _ _⟩
    rw [den__law_pot]
    walk_at "ev"
theorem F_pick (n : Nat) (p : Int × Int) (xs : List D) (hp : POK p) (h0 : 0 < xs.length) (h1 : xs.length < 1000000) : ∃ i q, d__law_pick.F (tab prg (n+2)) 60 [.own (potD p), .dat (.lst xs)] = some (.dat (xs.getD i .non), [.own (potD q), .dat (.lst xs)]) ∧ i < xs.length ∧ POK q := by
  obtain ⟨v, q, h, v0, v1, hq⟩ := F_draw n p xs.length hp (by omega) (by omega)
  have ha := ev_at (xs := xs) v0 v1
  refine ⟨v.toNat, q, ?_, by omega, hq⟩
  rw [den__law_pick]
  walk_at "ev"
/-- a letter drawn -/
theorem F_pickS (n : Nat) (p : Int × Int) (w : List Nat) (hp : POK p) (h0 : 0 < w.length) (h1 : w.length < 1000) : ∃ c q, d__law_pick.F (tab prg (n+2)) 60 [.own (potD p), .dat (.str (Tx w))] = some (.dat (.str (Tx [c])), [.own (potD q), .dat (.str (Tx w))]) ∧ c ∈ w ∧ POK q := by
  obtain ⟨v, q, h, v0, v1, hq⟩ := F_draw n p w.length hp (by omega) (by omega)
  have hn : v.toNat < w.length := by omega
  have hz : w.length ≤ sizeLine := Nat.le_trans (Nat.le_of_lt h1) (by decide)
  have ha : ixD (.str (Tx w)) (.int v) = some (.dat (.str (Tx [w.getD v.toNat 0]))) := by
    have e : w[v.toNat]? = some (w.getD v.toNat 0) := by rw [List.getD_eq_getElem?_getD, List.getElem?_eq_getElem hn]; rfl
    show (if (Tx w).length ≤ sizeLine then (atI (Tx w).cps.toList v).map (fun c => RV.dat (.str ⟨#[c]⟩)) else none) = _
    rw [Tx_len, if_pos hz, Tx_cps]
    unfold atI ixN
    rw [if_pos v0, if_pos v1]
    show (Option.map _ w[v.toNat]?) = _
    rw [e]; rfl
  refine ⟨w.getD v.toNat 0, q, ?_, ?_, hq⟩
  · rw [den__law_pick]
    walk_at "ev"
  · rw [List.getD_eq_getElem?_getD, List.getElem?_eq_getElem hn]; exact List.getElem_mem hn
theorem getD_mem {xs : List D} {i : Nat} (h : i < xs.length) : xs.getD i .non ∈ xs := by
  rw [List.getD_eq_getElem?_getD, List.getElem?_eq_getElem h]
  exact List.getElem_mem h
end K13
end

section
set_option Elab.async false
set_option linter.all false
set_option maxRecDepth 100000
set_option maxHeartbeats 4000000
namespace K13
open PySem L2 Den PyProof.Rows
local macro_rules | `(tactic| walk_at "rf") => `(tactic| first
  | ((with_reducible show RV.cont _ _ = some _); exact rfl)
  | ((with_reducible show RV.dt _ = some _); exact rfl)
  | ((with_reducible show RV.cls _ = _); exact rfl)
  | ((with_reducible show RV.objf _ = _); exact rfl)
  | ((with_reducible show passE _ _ _ = some _); exact rfl)
  | ((with_reducible show BackAt _ _ _ _ _); first | exact BackAt.nil | apply BackAt.dat | apply BackAt.slot | apply BackAt.own)
  | ((with_reducible show onceB _ _ _ = true); exact rfl)
  | ((with_reducible show ownB _ _ _ = true); exact rfl)
  | ((with_reducible show pinned _ _ _ = false); exact rfl)
  | ((with_reducible show dts _ = some _); exact rfl)
  | ((with_reducible show conts _ _ = some _); exact rfl)
  | ((with_reducible show setSV _ _ = some _); exact rfl)
  | ((with_reducible show retK _ _ _ = some _); exact rfl)
  | ((with_reducible show fnK _ _ = some _); exact rfl)
  | ((with_reducible show List.length _ = _); exact rfl)
  | ((with_reducible show pick _ _ = _); exact rfl)
  | ((with_reducible show Nat.ble _ _ = true); exact rfl)
  | ((with_reducible show Nat.blt _ _ = true); exact rfl)
  | ((with_reducible show truthD _ = some _); exact rfl)
  | ((with_reducible show sideB _ _ = true); exact rfl)
  | ((with_reducible show intB _ = true); exact rfl)
  | ((with_reducible show eqSideB _ _ = true); exact rfl)
  | ((with_reducible show itemsD _ = some _); exact rfl)
  | ((with_reducible show putD _ _ _ = _); exact rfl)
  | ((with_reducible show List.lookup _ _ = _); exact rfl)
  | ((with_reducible show getElem? _ _ = some _); exact rfl)
  | with_reducible exact ixN0
  | with_reducible exact ixN1)
local macro_rules | `(tactic| walk_at "ln") => `(tactic| repeat' (first | with_reducible exact Ln.num (by walk_at "bd") | with_reducible exact Ln.lit | with_reducible exact Ln.emp | with_reducible apply Ln.app))
local macro_rules | `(tactic| walk_at "sa") => `(tactic| repeat' (first | with_reducible exact AppAt.nil | with_reducible apply AppAt.cons | with_reducible exact ZipAt.nil | with_reducible apply ZipAt.cons))
local macro_rules | `(tactic| walk_at "pr") => `(tactic| first
  | ((with_reducible apply ev_mul); walk_at "bd")
  | ((with_reducible apply ev_fdiv) <;> walk_at "bd")
  | ((with_reducible apply ev_mod); walk_at "bd")
  | ((with_reducible apply ev_divmod) <;> walk_at "bd")
  | ((with_reducible apply ev_pow) <;> walk_at "bd")
  | ((with_reducible apply ev_addS); exact Ln.ok2 (by walk_at "ln") (by walk_at "ln") rfl)
  | ((with_reducible apply ev_addL); walk_at "sa"; exact rfl)
  | ((with_reducible apply ev_append); walk_at "sa"; exact rfl)
  | ((with_reducible apply ev_strI); walk_at "bd")
  | with_reducible exact ev_twice
  | ((with_reducible apply len_Tx); walk_at "bd")
  | ((with_reducible apply add_Tx); walk_at "bd")
  | with_reducible exact eq_Tx _ _
  | with_reducible exact ne_Tx _ _
  | ((with_reducible apply sl_Tx); walk_at "bd")
  | ((with_reducible show addD _ _ = some _); exact rfl)
  | ((with_reducible show subD _ _ = some _); exact rfl)
  | ((with_reducible show cmpD _ _ _ _ = some _); exact rfl)
  | ((with_reducible show isD _ _ _ = some _); exact rfl)
  | ((with_reducible show ixD _ _ = some _); exact rfl)
  | ((with_reducible show absD _ = some _); exact rfl)
  | ((with_reducible show max2D _ = some _); exact rfl)
  | ((with_reducible show min2D _ = some _); exact rfl)
  | ((with_reducible show int1D _ = some _); exact rfl)
  | ((with_reducible show lenD _ = some _); exact rfl)
  | ((with_reducible show gcdD _ = some _); exact rfl)
  | ((with_reducible show allD _ = some _); exact rfl)
  | ((with_reducible show isi2D _ _ = some _); exact rfl)
  | ((with_reducible show negD _ = some _); exact rfl)
  | ((with_reducible show appendD _ _ = some _); exact rfl)
  | ((with_reducible show eqD _ _ = some _); exact rfl)
  | ((with_reducible show neD _ _ = some _); exact rfl)
  | ((with_reducible show mul3D _ _ = some _); exact rfl))
local macro_rules | `(tactic| walk_at "tt") => `(tactic| first | with_reducible exact bne_self _ | with_reducible assumption | exact rfl | assumption | (simp only [Bool.not_eq_true', Bool.not_eq_false', Bool.not_true, Bool.not_false, decide_eq_true_eq, decide_eq_false_iff_not, beq_iff_eq, bne_iff_ne, beq_eq_false_iff_ne, Bool.and_eq_true, Bool.and_true, Bool.true_and, if_true, Bool.false_eq_true, if_false]; first | done | assumption | omega) | (simp [*]; done))
local macro_rules | `(tactic| walk_at "ev1") => `(tactic| first
  | with_reducible exact ev_c
  | ((with_reducible show some _ = some _); with_reducible exact rfl)
  | ((with_reducible apply ev_vd); exact rfl)
  | ((with_reducible apply ev_vo); exact rfl)
  | ((with_reducible apply ev_vb); exact rfl)
  | with_reducible exact ev_aNil
  | with_reducible apply ev_aCons
  | with_reducible apply ev_aApp
  | with_reducible apply ev_aSel
  | with_reducible apply tail_of
  | with_reducible apply ev_binV
  | ((with_reducible apply binK_l (c := 0)); exact rfl)
  | ((with_reducible apply binK_r (c := 0)); exact rfl; exact rfl)
  | ((with_reducible apply binK_d); exact rfl; exact rfl)
  | with_reducible apply ev_bin
  | with_reducible apply ev_unV
  | ((with_reducible apply unK_l (c := 0)); exact rfl)
  | ((with_reducible apply unK_d); exact rfl)
  | with_reducible apply ev_cmpV
  | ((with_reducible apply cmpK_l (c := 0)); exact rfl)
  | ((with_reducible apply cmpK_d); exact rfl)
  | with_reducible apply ev_attrV
  | ((with_reducible apply attrK_l (c := 0)); exact rfl; walk_at "tb")
  | ((with_reducible apply attrK_f (c := 0)); exact rfl; walk_at "tb")
  | ((with_reducible apply attrK_s); exact rfl)
  | with_reducible apply fldV_of
  | with_reducible apply ev_reprV
  | ((with_reducible apply reprK_l (c := 0)); exact rfl)
  | ((with_reducible apply reprK_d); exact rfl)
  | with_reducible apply ev_fnS
  | with_reducible apply ev_cm
  | with_reducible apply ev_mkS
  | with_reducible apply ev_methS
  | with_reducible apply ev_call
  | with_reducible apply ev_tup
  | with_reducible apply ev_lst
  | with_reducible apply ev_not
  | ((with_reducible apply iteK_t); walk_at "tt")
  | ((with_reducible apply iteK_f); walk_at "tt")
  | with_reducible apply ev_if
  | with_reducible apply ev_and
  | with_reducible apply ev_or
  | with_reducible apply ev_bVal
  | with_reducible apply ev_bTruth
  | with_reducible apply ev_bNot
  | with_reducible apply ev_bAnd
  | with_reducible apply ev_bOr)
local macro_rules | `(tactic| walk_at "ev2") => `(tactic| first
  | with_reducible apply ev_seq
  | with_reducible apply seqK_nx
  | ((with_reducible show seqK _ _ = some _); exact rfl)
  | with_reducible apply ev_set
  | with_reducible apply ev_sif
  | with_reducible apply ev_ret
  | with_reducible exact ev_snil
  | with_reducible apply ev_par2
  | with_reducible apply ev_par3
  | with_reducible apply ev_asg
  | with_reducible apply ev_exp
  | with_reducible apply ev_mut
  | with_reducible apply ev_fld
  | with_reducible apply ev_gset
  | with_reducible apply ev_gtup
  | with_reducible apply ev_gsc
  | with_reducible exact ev_gsn
  | with_reducible apply ev_gix
  | with_reducible exact SetAt.zero
  | with_reducible apply SetAt.succ
  | with_reducible exact Pad.nil
  | with_reducible apply Pad.dat
  | with_reducible apply Pad.own
  | with_reducible apply Pad.bor
  | with_reducible apply Pad.und
  | with_reducible exact WipeAt.nil
  | with_reducible apply WipeAt.cons
  | with_reducible exact fz_nil
  | ((with_reducible apply fz_own); exact rfl)
  | with_reducible apply ev_fz
  | with_reducible apply ev_lc
  | with_reducible exact lc_nil
  | with_reducible apply lc_cons
  | with_reducible apply ev_zipA
  | with_reducible exact ZipAt.nil
  | with_reducible apply ZipAt.cons
  | with_reducible exact ev_jsN
  | with_reducible apply ev_jsC
  | ((with_reducible show _ ≤ sizeLine); exact Ln.ok (by walk_at "ln") rfl)
  | ((with_reducible show Nat.log2 _ < 1920); walk_at "bd")
  | with_reducible apply ev_fmtI
  | with_reducible apply ev_walkV
  | with_reducible apply ev_chainT
  | with_reducible exact ev_oN
  | with_reducible apply ev_oS
  | with_reducible apply ev_sl
  | with_reducible apply ev_m1
  | with_reducible apply ev_sortKey
  | ((with_reducible apply ev_mut0); exact rfl)
  | with_reducible apply ev_rng1
  | with_reducible apply ev_fn)
local macro_rules | `(tactic| walk_at "ev") => `(tactic| repeat' (first | walk_at "rf" | walk_at "ev1" | walk_at "ev2" | walk_at "tb" | walk_at "call" | walk_at "pr"))
local macro_rules | `(tactic| walk_at "bd") => `(tactic| first | assumption | decide | omega)
local macro_rules | `(tactic| walk_at "tb") => `(tactic| first | with_reducible exact tb_0 _ | with_reducible exact tb_1 _ | with_reducible exact tb_2 _ | with_reducible exact tb_3 _ | with_reducible exact tb_4 _ | with_reducible exact tb_5 _ | with_reducible exact tb_6 _)
local macro_rules | `(tactic| walk_at "call") => `(tactic| with_reducible assumption)
abbrev sw (w : List Nat) : SV := .dat (.str (Tx w))
theorem lc_true {vs : List Nat} {g : GF} {c : BF} {P : PF} {env : Env'} (ds : List D) (h : ∀ d ∈ ds, ∃ e1 e2 r e3, g d env = some e1 ∧ c e1 = some (true, e2) ∧ P e2 = some (r, e3) ∧ r.dt = some (.bl true) ∧ WipeAt e3 vs env) : lcF vs g c P ds env = some (List.replicate ds.length (.bl true), env) := by
  rw [← List.map_const']
  exact lc_map ds h
theorem ex_true {vs : List Nat} {g : GF} {c : BF} {P : PF} {env e1 e2 e3 : Env'} {d : D} {r : RV} (h1 : g d env = some e1) (h2 : c e1 = some (true, e2)) (h3 : P e2 = some (r, e3)) (h4 : r.dt = some (.bl true)) (h5 : WipeAt e3 vs env) : ∃ e1 e2 r e3, g d env = some e1 ∧ c e1 = some (true, e2) ∧ P e2 = some (r, e3) ∧ r.dt = some (.bl true) ∧ WipeAt e3 vs env := ⟨_, _, _, _, h1, h2, h3, h4, h5⟩
theorem F_letter (n : Nat) (c : Nat) (h0 : 97 ≤ c) (h1 : c ≤ 122) : d_is_letter.F (tab prg (n+1)) 60 [sw [c]] = some (.dat (.bl true), [sw [c]]) := by
  have l1 : cmpD (fun i j => decide (i ≤ j)) (fun i j => !ltS j i) (.str (Str.ofString "a")) (.str (Tx [c])) = some (.dat (.bl true)) := by
    have : ltS (Tx [c]) (Str.ofString "a") = false := by
      show decide ([c] < [97]) = false
      rw [decide_eq_false_iff_not, List.cons_lt_cons_iff]
      rintro (h | ⟨_, h⟩)
      · omega
      · exact absurd h (List.lt_irrefl _)
    show some (RV.dat (D.bl (!ltS (Tx [c]) (Str.ofString "a")))) = _
    rw [this]; rfl
  have l2 : cmpD (fun i j => decide (i ≤ j)) (fun i j => !ltS j i) (.str (Tx [c])) (.str (Str.ofString "z")) = some (.dat (.bl true)) := by
    have : ltS (Str.ofString "z") (Tx [c]) = false := by
      show decide ([122] < [c]) = false
      rw [decide_eq_false_iff_not, List.cons_lt_cons_iff]
      rintro (h | ⟨_, h⟩)
      · omega
      · exact absurd h (List.lt_irrefl _)
    show some (RV.dat (D.bl (!ltS (Str.ofString "z") (Tx [c])))) = _
    rw [this]; rfl
  have l3 : lenD [.str (Tx [c])] = some (.dat (.int 1)) := rfl
  rw [den_is_letter]
  walk_at "ev"
theorem F_word (n : Nat) (w : List Nat) (hw : Wd w) (hl : w.length ≤ 1000) : d_is_word.F (tab prg (n+2)) 60 [sw w] = some (.dat (.bl true), [sw w]) := by
  have hz : w.length ≤ sizeLine := Nat.le_trans hl (by decide)
  have hb : Nat.ble (strD (Tx w)).length sizeLine = true := by
    rw [strD_Tx, List.length_map]; exact Nat.ble_eq_true_of_le hz
  have hp := hw.pos
  have hd : decide ((0 : Int) < (w.length : Int)) = true := decide_eq_true (by omega)
  have hc : lcF [1] (gSet 0 1) (fun env => some (true, env)) (pFnS [false] (d_is_letter.F (tab prg (n+1)) 60) ⟨1, [], [0]⟩ [] (aCons (pVar 1) aNil) aNil) (strD (Tx w)) [sw w, .und] = some (List.replicate (strD (Tx w)).length (.bl true), [sw w, .und]) := by
    refine lc_true _ fun d hd => ?_
    rw [strD_Tx] at hd
    obtain ⟨c, hc, rfl⟩ := List.mem_map.mp hd
    obtain ⟨c0, c1⟩ := hw.lw c hc
    have hF := F_letter n c c0 c1
    apply ex_true
    · walk_at "ev"
    · rfl
    · walk_at "ev"
    · rfl
    · walk_at "ev"
  have hall := allR (strD (Tx w)).length
  rw [den_is_word]
  walk_at "ev"
theorem F_question (n : Nat) (w : List Nat) (hw : Wd w) (hl : w.length ≤ 24) : d_is_question.F (tab prg (n+3)) 60 [sw w] = some (.dat (.bl true), [sw w]) := by
  have hF := F_word n w hw (by omega)
  have hz : w.length ≤ sizeLine := Nat.le_trans hl (by decide)
  have hd : decide ((w.length : Int) ≤ 24) = true := decide_eq_true (by omega)
  rw [← hd, den_is_question]
  walk_at "ev"
theorem F_lot_word (n : Nat) (w : List Nat) (hw : Wd w) (hl : w.length ≤ 12) : d_is_lot_word.F (tab prg (n+3)) 60 [sw w] = some (.dat (.bl true), [sw w]) := by
  have hF := F_word n w hw (by omega)
  have hz : w.length ≤ sizeLine := Nat.le_trans hl (by decide)
  have hd : decide ((w.length : Int) ≤ 12) = true := decide_eq_true (by omega)
  rw [← hd, den_is_lot_word]
  walk_at "ev"
theorem F_check_question (n : Nat) (w : List Nat) (hw : Wd w) (hl : w.length ≤ 24) : d_check_question.F (tab prg (n+4)) 60 [sw w] = some (.dat .non, [sw w]) := by
  have hF := F_question n w hw hl
  rw [den_check_question]
  walk_at "ev"
theorem rng_mem {m : Nat} {d : D} (h : d ∈ rangeD 0 m) : ∃ k : Nat, d = .int (k : Int) ∧ k < m := by
  unfold rangeD at h
  obtain ⟨i, hi, rfl⟩ := List.mem_map.mp h
  have := List.mem_range.mp hi
  exact ⟨i, by rw [Int.zero_add], this⟩
theorem sl_at {q : List Nat} {k l : Nat} (hk : k ≤ q.length) : (q.drop (HT.sIx q.length 0 (some (k : Int)))).take (HT.sIx q.length q.length (some ((k : Int) + (l : Int))) - HT.sIx q.length 0 (some (k : Int))) = (q.drop k).take l := by
  have e : (k : Int) + (l : Int) = ((k + l : Nat) : Int) := by omega
  rw [e, HT.sIx_nat, HT.sIx_nat, Nat.min_eq_left hk, List.take_eq_take_iff, List.length_drop]
  omega
theorem found_lc {q w : List Nat} {m : Nat} (hq : q.length ≤ 24) (hw : w.length ≤ 1000) (hm : m ≤ q.length) (c : BF) (hc : ∀ k : Nat, k < q.length → c [sw q, sw w, .dat (.int (k : Int))] = some (atB q w k, [sw q, sw w, .dat (.int (k : Int))])) :
    lcF [2] (gSet 0 2) c (pVar 2) (rangeD 0 m) [sw q, sw w, .und] = some (natsD ((List.range m).filter (atB q w)), [sw q, sw w, .und]) := by
  rw [← fF_rng]
  refine lc_filt _ fun d hd => ?_
  obtain ⟨k, rfl, hk⟩ := rng_mem hd
  have hk' := hc k (by omega)
  refine ⟨_, atB q w k, _, .trans (b := some [sw q, sw w, .dat (.int (k : Int))]) rfl rfl, hk', ?_⟩
  cases hb : atB q w k with
  | true =>
    refine .inl ⟨rfl, .dat (.int (k : Int)), [sw q, sw w, .dat (.int (k : Int))], .int (k : Int), rfl, rfl, ?_, ?_⟩
    · walk_at "ev"
    · show (if atB q w (k : Int).toNat then _ else _) = _
      rw [Int.toNat_natCast, hb]; rfl
  | false =>
    refine .inr ⟨rfl, ?_, ?_⟩
    · walk_at "ev"
    · show (if atB q w (k : Int).toNat then _ else _) = _
      rw [Int.toNat_natCast, hb]; rfl
theorem found_c {q w : List Nat} (n : Nat) (hq : q.length ≤ 24) (hw : w.length ≤ 1000) (k : Nat) (hk : k < q.length) : bVal (pCmpV false (tab prg (n+1)).eqL eqD (pSl (pVar 0) (oSome (pVar 2)) (oSome (pBinV ((tab prg (n+1)).binL "add") ((tab prg (n+1)).binR "add") addD (pVar 2) (pCall lenD (aCons (pVar 1) aNil))))) (pVar 1)) [sw q, sw w, .dat (.int (k : Int))] = some (atB q w k, [sw q, sw w, .dat (.int (k : Int))]) := by
  have hz : q.length ≤ sizeLine := Nat.le_trans hq (by decide)
  have hy : w.length ≤ sizeLine := Nat.le_trans hw (by decide)
  have e := sl_at (q := q) (k := k) (l := w.length) (by omega)
  unfold atB
  rw [← e]
  walk_at "ev"
theorem F_found_at (n : Nat) (q w : List Nat) (hq : Wd q) (ql : q.length ≤ 24) (hw : Wd w) (wl : w.length ≤ 1000) : d_found_at.F (tab prg (n+5)) 60 [sw q, sw w] = some (.own (.lst (natsD (fnd q w))), [sw q, sw w]) := by
  have hF := F_check_question n q hq ql
  have hG := F_word (n + 2) w hw wl
  have hz : q.length ≤ sizeLine := Nat.le_trans ql (by decide)
  have hr : -(2 ^ 62) ≤ (q.length : Int) ∧ (q.length : Int) < 2 ^ 62 := by omega
  have hlc := found_lc ql wl (Nat.le_refl q.length) _ (found_c (n + 4) ql wl)
  have hb : Nat.ble (rangeD 0 (q.length : Int).toNat).length sizeLine = true := by
    unfold rangeD
    rw [List.length_map, List.length_range, Int.toNat_natCast]; exact Nat.ble_eq_true_of_le hz
  rw [show q.length = (q.length : Int).toNat by rw [Int.toNat_natCast]] at hlc
  unfold fnd
  rw [show q.length = (q.length : Int).toNat by rw [Int.toNat_natCast], den_found_at]
  walk_at "ev"
end K13
end

section
set_option Elab.async false
set_option linter.all false
set_option maxRecDepth 100000
set_option maxHeartbeats 4000000
namespace K13
open PySem L2 Den PyProof.Rows
local macro_rules | `(tactic| walk_at "rf") => `(tactic| first
  | ((with_reducible show RV.cont _ _ = some _); exact rfl)
  | ((with_reducible show RV.dt _ = some _); exact rfl)
  | ((with_reducible show RV.cls _ = _); exact rfl)
  | ((with_reducible show RV.objf _ = _); exact rfl)
  | ((with_reducible show passE _ _ _ = some _); exact rfl)
  | ((with_reducible show BackAt _ _ _ _ _); first | exact BackAt.nil | apply BackAt.dat | apply BackAt.slot | apply BackAt.own)
  | ((with_reducible show onceB _ _ _ = true); exact rfl)
  | ((with_reducible show ownB _ _ _ = true); exact rfl)
  | ((with_reducible show pinned _ _ _ = false); exact rfl)
  | ((with_reducible show dts _ = some _); exact rfl)
  | ((with_reducible show conts _ _ = some _); exact rfl)
  | ((with_reducible show setSV _ _ = some _); exact rfl)
  | ((with_reducible show retK _ _ _ = some _); exact rfl)
  | ((with_reducible show fnK _ _ = some _); exact rfl)
  | ((with_reducible show List.length _ = _); exact rfl)
  | ((with_reducible show pick _ _ = _); exact rfl)
  | ((with_reducible show Nat.ble _ _ = true); exact rfl)
  | ((with_reducible show Nat.blt _ _ = true); exact rfl)
  | ((with_reducible show truthD _ = some _); exact rfl)
  | ((with_reducible show sideB _ _ = true); exact rfl)
  | ((with_reducible show intB _ = true); exact rfl)
  | ((with_reducible show eqSideB _ _ = true); exact rfl)
  | ((with_reducible show itemsD _ = some _); exact rfl)
  | ((with_reducible show putD _ _ _ = _); exact rfl)
  | ((with_reducible show List.lookup _ _ = _); exact rfl)
  | ((with_reducible show getElem? _ _ = some _); exact rfl)
  | with_reducible exact ixN0
  | with_reducible exact ixN1)
local macro_rules | `(tactic| walk_at "ln") => `(tactic| repeat' (first | with_reducible exact Ln.num (by walk_at "bd") | with_reducible exact Ln.lit | with_reducible exact Ln.emp | with_reducible apply Ln.app))
local macro_rules | `(tactic| walk_at "sa") => `(tactic| repeat' (first | with_reducible exact AppAt.nil | with_reducible apply AppAt.cons | with_reducible exact ZipAt.nil | with_reducible apply ZipAt.cons))
local macro_rules | `(tactic| walk_at "pr") => `(tactic| first
  | ((with_reducible apply ev_mul); walk_at "bd")
  | ((with_reducible apply ev_fdiv) <;> walk_at "bd")
  | ((with_reducible apply ev_mod); walk_at "bd")
  | ((with_reducible apply ev_divmod) <;> walk_at "bd")
  | ((with_reducible apply ev_pow) <;> walk_at "bd")
  | ((with_reducible apply ev_addS); exact Ln.ok2 (by walk_at "ln") (by walk_at "ln") rfl)
  | ((with_reducible apply ev_addL); walk_at "sa"; exact rfl)
  | ((with_reducible apply ev_append); walk_at "sa"; exact rfl)
  | ((with_reducible apply ev_strI); walk_at "bd")
  | with_reducible exact ev_twice
  | ((with_reducible apply len_Tx); walk_at "bd")
  | ((with_reducible apply add_Tx); walk_at "bd")
  | with_reducible exact eq_Tx _ _
  | with_reducible exact ne_Tx _ _
  | ((with_reducible apply sl_Tx); walk_at "bd")
  | ((with_reducible show addD _ _ = some _); exact rfl)
  | ((with_reducible show subD _ _ = some _); exact rfl)
  | ((with_reducible show cmpD _ _ _ _ = some _); exact rfl)
  | ((with_reducible show isD _ _ _ = some _); exact rfl)
  | ((with_reducible show ixD _ _ = some _); exact rfl)
  | ((with_reducible show absD _ = some _); exact rfl)
  | ((with_reducible show max2D _ = some _); exact rfl)
  | ((with_reducible show min2D _ = some _); exact rfl)
  | ((with_reducible show int1D _ = some _); exact rfl)
  | ((with_reducible show lenD _ = some _); exact rfl)
  | ((with_reducible show gcdD _ = some _); exact rfl)
  | ((with_reducible show allD _ = some _); exact rfl)
  | ((with_reducible show isi2D _ _ = some _); exact rfl)
  | ((with_reducible show negD _ = some _); exact rfl)
  | ((with_reducible show appendD _ _ = some _); exact rfl)
  | ((with_reducible show eqD _ _ = some _); exact rfl)
  | ((with_reducible show neD _ _ = some _); exact rfl)
  | ((with_reducible show mul3D _ _ = some _); exact rfl))
local macro_rules | `(tactic| walk_at "tt") => `(tactic| first | with_reducible exact bne_self _ | with_reducible assumption | exact rfl | assumption | (simp only [Bool.not_eq_true', Bool.not_eq_false', Bool.not_true, Bool.not_false, decide_eq_true_eq, decide_eq_false_iff_not, beq_iff_eq, bne_iff_ne, beq_eq_false_iff_ne, Bool.and_eq_true, Bool.and_true, Bool.true_and, if_true, Bool.false_eq_true, if_false]; first | done | assumption | omega) | (simp [*]; done))
local macro_rules | `(tactic| walk_at "ev1") => `(tactic| first
  | with_reducible exact ev_c
  | ((with_reducible show some _ = some _); with_reducible exact rfl)
  | ((with_reducible apply ev_vd); exact rfl)
  | ((with_reducible apply ev_vo); exact rfl)
  | ((with_reducible apply ev_vb); exact rfl)
  | with_reducible exact ev_aNil
  | with_reducible apply ev_aCons
  | with_reducible apply ev_aApp
  | with_reducible apply ev_aSel
  | with_reducible apply tail_of
  | with_reducible apply ev_binV
  | ((with_reducible apply binK_l (c := 0)); exact rfl)
  | ((with_reducible apply binK_r (c := 0)); exact rfl; exact rfl)
  | ((with_reducible apply binK_d); exact rfl; exact rfl)
  | with_reducible apply ev_bin
  | with_reducible apply ev_unV
  | ((with_reducible apply unK_l (c := 0)); exact rfl)
  | ((with_reducible apply unK_d); exact rfl)
  | with_reducible apply ev_cmpV
  | ((with_reducible apply cmpK_l (c := 0)); exact rfl)
  | ((with_reducible apply cmpK_d); exact rfl)
  | with_reducible apply ev_attrV
  | ((with_reducible apply attrK_l (c := 0)); exact rfl; walk_at "tb")
  | ((with_reducible apply attrK_f (c := 0)); exact rfl; walk_at "tb")
  | ((with_reducible apply attrK_s); exact rfl)
  | with_reducible apply fldV_of
  | with_reducible apply ev_reprV
  | ((with_reducible apply reprK_l (c := 0)); exact rfl)
  | ((with_reducible apply reprK_d); exact rfl)
  | with_reducible apply ev_fnS
  | with_reducible apply ev_cm
  | with_reducible apply ev_mkS
  | with_reducible apply ev_methS
  | with_reducible apply ev_call
  | with_reducible apply ev_tup
  | with_reducible apply ev_lst
  | with_reducible apply ev_not
  | ((with_reducible apply iteK_t); walk_at "tt")
  | ((with_reducible apply iteK_f); walk_at "tt")
  | with_reducible apply ev_if
  | with_reducible apply ev_and
  | with_reducible apply ev_or
  | with_reducible apply ev_bVal
  | with_reducible apply ev_bTruth
  | with_reducible apply ev_bNot
  | with_reducible apply ev_bAnd
  | with_reducible apply ev_bOr)
local macro_rules | `(tactic| walk_at "ev2") => `(tactic| first
  | with_reducible apply ev_seq
  | with_reducible apply seqK_nx
  | ((with_reducible show seqK _ _ = some _); exact rfl)
  | with_reducible apply ev_set
  | with_reducible apply ev_sif
  | with_reducible apply ev_ret
  | with_reducible exact ev_snil
  | with_reducible apply ev_par2
  | with_reducible apply ev_par3
  | with_reducible apply ev_asg
  | with_reducible apply ev_exp
  | with_reducible apply ev_mut
  | with_reducible apply ev_fld
  | with_reducible apply ev_gset
  | with_reducible apply ev_gtup
  | with_reducible apply ev_gsc
  | with_reducible exact ev_gsn
  | with_reducible apply ev_gix
  | with_reducible exact SetAt.zero
  | with_reducible apply SetAt.succ
  | with_reducible exact Pad.nil
  | with_reducible apply Pad.dat
  | with_reducible apply Pad.own
  | with_reducible apply Pad.bor
  | with_reducible apply Pad.und
  | with_reducible exact WipeAt.nil
  | with_reducible apply WipeAt.cons
  | with_reducible exact fz_nil
  | ((with_reducible apply fz_own); exact rfl)
  | with_reducible apply ev_fz
  | with_reducible apply ev_lc
  | with_reducible exact lc_nil
  | with_reducible apply lc_cons
  | with_reducible apply ev_zipA
  | with_reducible exact ZipAt.nil
  | with_reducible apply ZipAt.cons
  | with_reducible exact ev_jsN
  | with_reducible apply ev_jsC
  | ((with_reducible show _ ≤ sizeLine); exact Ln.ok (by walk_at "ln") rfl)
  | ((with_reducible show Nat.log2 _ < 1920); walk_at "bd")
  | with_reducible apply ev_fmtI
  | with_reducible apply ev_walkV
  | with_reducible apply ev_chainT
  | with_reducible exact ev_oN
  | with_reducible apply ev_oS
  | with_reducible apply ev_sl
  | with_reducible apply ev_m1
  | with_reducible apply ev_sortKey
  | ((with_reducible apply ev_mut0); exact rfl)
  | with_reducible apply ev_rng1
  | with_reducible apply ev_fn)
local macro_rules | `(tactic| walk_at "ev") => `(tactic| repeat' (first | walk_at "rf" | walk_at "ev1" | walk_at "ev2" | walk_at "tb" | walk_at "call" | walk_at "pr"))
local macro_rules | `(tactic| walk_at "bd") => `(tactic| first | assumption | decide | omega)
local macro_rules | `(tactic| walk_at "tb") => `(tactic| first | with_reducible exact tb_0 _ | with_reducible exact tb_1 _ | with_reducible exact tb_2 _ | with_reducible exact tb_3 _ | with_reducible exact tb_4 _ | with_reducible exact tb_5 _ | with_reducible exact tb_6 _)
local macro_rules | `(tactic| walk_at "call") => `(tactic| with_reducible assumption)
abbrev txs (ws : List (List Nat)) : List D := ws.map fun w => .str (Tx w)
theorem join_one (cs : List Nat) (hl : cs.length ≤ 1000) : joinD (Str.ofString "") (.lst (cs.map fun c => .str (Tx [c]))) = some (.dat (.str (Tx cs))) := by
  have e1 : ∀ cs : List Nat, strsD (cs.map fun c => .str (Tx [c])) = some (cs.map fun c => Tx [c]) := fun cs => by
    induction cs with
    | nil => rfl
    | cons c cs ih => rw [List.map_cons, List.map_cons, strsD, ih]; rfl
  have e2 : ∀ cs : List Nat, ((cs.map fun c => Tx [c]).map (·.length)).sum = cs.length := fun cs => by
    induction cs with
    | nil => rfl
    | cons c cs ih => rw [List.map_cons, List.map_cons, List.sum_cons, ih, Tx_len, List.length_cons, List.length_cons, List.length_nil]; omega
  have e3 : ∀ (cs : List Nat) (a : Array Nat), (cs.map fun c => Tx [c]).foldl (fun acc p => acc ++ (Str.ofString "").cps ++ p.cps) a = a ++ cs.toArray := fun cs => by
    induction cs with
    | nil => intro a; simp
    | cons c cs ih =>
      intro a
      rw [List.map_cons, List.foldl_cons, ih]
      show a ++ #[] ++ #[c] ++ cs.toArray = _
      simp
  unfold joinD
  dsimp only
  rw [e1, Option.bind_some, e2, if_pos (by show cs.length + (cs.map fun c => Tx [c]).length * 0 ≤ 16777216; omega)]
  have : Txt.join (Str.ofString "") (cs.map fun c => Tx [c]) = Tx cs := by
    cases cs with
    | nil => rfl
    | cons c cs =>
      show (⟨((cs.map fun c => Tx [c])).foldl (fun acc p => acc ++ (Str.ofString "").cps ++ p.cps) #[c]⟩ : Str) = _
      rw [e3]
      simp [Tx]
  rw [this]
theorem chars_of {s : List Nat} : ∀ ys : List D, (∀ y ∈ ys, ∃ c ∈ s, y = .str (Tx [c])) → ∃ cs : List Nat, ys = cs.map (fun c => .str (Tx [c])) ∧ ∀ c ∈ cs, c ∈ s
  | [], _ => ⟨[], rfl, fun c h => nomatch h⟩
  | y :: ys, h => by
    obtain ⟨c, hc, rfl⟩ := h y List.mem_cons_self
    obtain ⟨cs, rfl, h2⟩ := chars_of ys fun z hz => h z (List.mem_cons_of_mem _ hz)
    exact ⟨c :: cs, rfl, fun x hx => by rcases List.mem_cons.mp hx with rfl | q; exact hc; exact h2 x q⟩
theorem ex_inv {vs : List Nat} {g : GF} {c : BF} {P : PF} {env e1 e2 e3 e4 : Env'} {d y : D} {r : RV} {I : Env' → Prop} {Q : D → Prop} (h1 : g d env = some e1) (h2 : c e1 = some (true, e2)) (h3 : P e2 = some (r, e3)) (h4 : r.dt = some y) (h5 : WipeAt e3 vs e4) (h6 : I e4) (h7 : Q y) : ∃ e1 e2 r e3 y e4, g d env = some e1 ∧ c e1 = some (true, e2) ∧ P e2 = some (r, e3) ∧ r.dt = some y ∧ WipeAt e3 vs e4 ∧ I e4 ∧ Q y := ⟨_, _, _, _, _, _, h1, h2, h3, h4, h5, h6, h7⟩
theorem F_term (n : Nat) (p : Int × Int) (s : List Nat) (m : Int) (hp : POK p) (hs : 0 < s.length) (hs1 : s.length < 1000) (hm : 0 < m) (hm1 : m ≤ 900) :
    ∃ w q, d__law_term.F (tab prg (n+3)) 60 [.own (potD p), sw s, .dat (.int m)] = some (.dat (.str (Tx w)), [.own (potD q), sw s, .dat (.int m)]) ∧ 1 ≤ w.length ∧ (w.length : Int) ≤ m ∧ (∀ c ∈ w, c ∈ s) ∧ POK q := by
  obtain ⟨v, q0, hd, v0, v1, hq0⟩ := F_draw (n + 1) p m hp hm (by omega)
  have hr : -(2 ^ 62) ≤ 1 + v ∧ 1 + v < 2 ^ 62 := by omega
  have hlen : (rangeD 0 (1 + v).toNat).length = (1 + v).toNat := by unfold rangeD; rw [List.length_map, List.length_range]
  have hb : Nat.ble (rangeD 0 (1 + v).toNat).length sizeLine = true := by
    rw [hlen]; exact Nat.ble_eq_true_of_le (Nat.le_trans (show (1 + v).toNat ≤ 1000 by omega) (by decide))
  obtain ⟨ys, e', hl, ⟨q, rfl, hq⟩, yl, yq⟩ := lc_inv (vs := [3]) (g := gSet 0 3) (c := fun env => some (true, env)) (P := pFnS [true, false] (d__law_pick.F (tab prg (n+2)) 60) ⟨2, [], [0, 1]⟩ [] (aCons (pVar 0) (aCons (pVar 1) aNil)) aNil)
    (I := fun env => ∃ q, env = [.own (potD q), sw s, .dat (.int m), .und] ∧ POK q) (Q := fun y => ∃ c ∈ s, y = .str (Tx [c])) (rangeD 0 (1 + v).toNat) [.own (potD q0), sw s, .dat (.int m), .und] ⟨q0, rfl, hq0⟩ (by
      rintro d hd env ⟨q, rfl, hq⟩
      obtain ⟨c, q1, hc, cm, hq1⟩ := F_pickS n q s hq hs hs1
      apply ex_inv
      · walk_at "ev"
      · rfl
      · walk_at "ev"
      · rfl
      · walk_at "ev"
      · exact ⟨q1, rfl, hq1⟩
      · exact ⟨c, cm, rfl⟩)
  obtain ⟨cs, rfl, hcs⟩ := chars_of ys yq
  rw [List.length_map, hlen] at yl
  have hj := join_one cs (by omega)
  refine ⟨cs, q, ?_, by omega, by omega, hcs, hq⟩
  rw [den__law_term]
  walk_at "ev"
theorem any_Tx (w : List Nat) : ∀ ws : List (List Nat), (txs ws).any (fun y => eqF y (.str (Tx w))) = decide (w ∈ ws)
  | [] => rfl
  | v :: ws => by
    have ih := any_Tx w ws
    show (eqF (.str (Tx v)) (.str (Tx w)) || (txs ws).any _) = _
    rw [ih]
    show ((Tx v == Tx w) || _) = _
    rw [Tx_beq]
    by_cases h : v = w
    · subst h; simp
    · have h' : ¬ w = v := fun e => h e.symm
      simp [h, h']
theorem flat_Tx : ∀ ws : List (List Nat), (txs ws).all flatD = true
  | [] => rfl
  | v :: ws => by
    show (flatD (.str (Tx v)) && (txs ws).all flatD) = true
    rw [flat_Tx ws]; rfl
theorem in_Tx (w : List Nat) (ws : List (List Nat)) : in2B true (.str (Tx w)) (.lst (txs ws)) = some (.dat (.bl (!decide (w ∈ ws)))) := by
  show inB true (.str (Tx w)) (.lst (txs ws)) = _
  show (if (flatD (.str (Tx w)) && (txs ws).all flatD) = true then _ else _) = _
  rw [flat_Tx ws, if_pos rfl, any_Tx]
  rfl
theorem extend_Tx {ws vs : List (List Nat)} (h : ws.length + vs.length ≤ sizeLine) : extendD (.lst (txs ws)) [.lst (txs vs)] = some (.non, .lst (txs (ws ++ vs))) := by
  unfold extendD
  dsimp only
  rw [List.length_map, List.length_map, if_pos h, ← List.map_append]
/-- the words drawn, unlike -/
structure Wds (s : List Nat) (m : Int) (ws : List (List Nat)) : Prop where
  nd : ws.Nodup
  each : ∀ w ∈ ws, 1 ≤ w.length ∧ (w.length : Int) ≤ m ∧ ∀ c ∈ w, c ∈ s
theorem F_terms (n : Nat) (p : Int × Int) (s : List Nat) (k m : Int) (hp : POK p) (hs : 0 < s.length) (hs1 : s.length < 1000) (hk : 0 ≤ k) (hk1 : k ≤ 100) (hm : 0 < m) (hm1 : m ≤ 900) :
    ∃ ws q, d__law_terms.F (tab prg (n+4)) 60 [.own (potD p), sw s, .dat (.int k), .dat (.int m)] = some (.own (.lst (txs ws)), [.own (potD q), sw s, .dat (.int k), .dat (.int m)]) ∧ Wds s m ws ∧ POK q := by
  have key : ∃ r, d__law_terms.F (tab prg (n+4)) 60 [.own (potD p), sw s, .dat (.int k), .dat (.int m)] = some r ∧ ∃ ws q, r = (.own (.lst (txs ws)), [.own (potD q), sw s, .dat (.int k), .dat (.int m)]) ∧ Wds s m ws ∧ POK q := by
    rw [den__law_terms]
    apply ex_fn
    · walk_at "ev"
    apply ex_seq
    · walk_at "ev"
    have hr : -(2 ^ 62) ≤ k ∧ k < 2 ^ 62 := by omega
    have hlen : (rangeD 0 k.toNat).length = k.toNat := by unfold rangeD; rw [List.length_map, List.length_range]
    apply ex_for (fun i env => ∃ q ws t x, env = [.own (potD q), sw s, .dat (.int k), .dat (.int m), .own (.lst (txs ws)), t, x] ∧ POK q ∧ Wds s m ws ∧ ws.length ≤ i)
    · apply ev_rng1
      · walk_at "ev"
      · exact hr
    · rfl
    · exact ⟨p, [], _, _, rfl, hp, ⟨List.nodup_nil, fun w h => nomatch h⟩, Nat.le_refl _⟩
    · rintro i env d hd ⟨q, ws, t, x, rfl, hq, hw, hl⟩
      have hi : i < 1000 := by
        have := (List.getElem?_eq_some_iff.mp hd).1
        omega
      obtain ⟨w, q1, hF, w0, w1, w2, hq1⟩ := F_term n q s m hq hs hs1 hm hm1
      have hin := in_Tx w ws
      by_cases h : w ∈ ws
      · have hB : (!decide (w ∈ ws)) = false := by simp [h]
        have hE : extendD (.lst (txs ws)) [.lst []] = some (.non, .lst (txs (ws ++ []))) := extend_Tx (ws := ws) (vs := []) (Nat.le_trans (show ws.length + [].length ≤ 1000 by rw [List.length_nil]; omega) (by decide))
        rw [List.append_nil] at hE
        apply ex_step
        · walk_at "ev"
        · walk_at "ev"
        · exact ⟨q1, ws, _, _, rfl, hq1, hw, by omega⟩
      · have hB : (!decide (w ∈ ws)) = true := by simp [h]
        have hE : extendD (.lst (txs ws)) [.lst [.str (Tx w)]] = some (.non, .lst (txs (ws ++ [w]))) := extend_Tx (ws := ws) (vs := [w]) (Nat.le_trans (show ws.length + [w].length ≤ 1000 by rw [List.length_cons, List.length_nil]; omega) (by decide))
        apply ex_step
        · walk_at "ev"
        · walk_at "ev"
        · refine ⟨q1, ws ++ [w], _, _, rfl, hq1, ⟨?_, fun v hv => ?_⟩, by rw [List.length_append, List.length_cons, List.length_nil]; omega⟩
          · rw [List.nodup_append]
            refine ⟨hw.nd, by simp, fun a ha b hb => ?_⟩
            rw [List.mem_singleton] at hb
            subst hb
            exact fun e => h (e ▸ ha)
          · rcases List.mem_append.mp hv with q | q
            · exact hw.each v q
            · rw [List.mem_singleton] at q
              subst q
              exact ⟨w0, w1, w2⟩
    · rintro env ⟨q, ws, t, x, rfl, hq, hw, hl⟩
      apply ex_ret
      · walk_at "ev"
      · rfl
      · exact ⟨ws, q, rfl, hw, hq⟩
  obtain ⟨r, h, ws, q, rfl, hw, hq⟩ := key
  exact ⟨ws, q, h, hw, hq⟩
end K13
end

section
set_option Elab.async false
set_option linter.all false
set_option maxRecDepth 100000
set_option maxHeartbeats 4000000
namespace K13
open PySem L2 Den PyProof.Rows
local macro_rules | `(tactic| walk_at "rf") => `(tactic| first
  | ((with_reducible show RV.cont _ _ = some _); exact rfl)
  | ((with_reducible show RV.dt _ = some _); exact rfl)
  | ((with_reducible show RV.cls _ = _); exact rfl)
  | ((with_reducible show RV.objf _ = _); exact rfl)
  | ((with_reducible show passE _ _ _ = some _); exact rfl)
  | ((with_reducible show BackAt _ _ _ _ _); first | exact BackAt.nil | apply BackAt.dat | apply BackAt.slot | apply BackAt.own)
  | ((with_reducible show onceB _ _ _ = true); exact rfl)
  | ((with_reducible show ownB _ _ _ = true); exact rfl)
  | ((with_reducible show pinned _ _ _ = false); exact rfl)
  | ((with_reducible show dts _ = some _); exact rfl)
  | ((with_reducible show conts _ _ = some _); exact rfl)
  | ((with_reducible show setSV _ _ = some _); exact rfl)
  | ((with_reducible show retK _ _ _ = some _); exact rfl)
  | ((with_reducible show fnK _ _ = some _); exact rfl)
  | ((with_reducible show List.length _ = _); exact rfl)
  | ((with_reducible show pick _ _ = _); exact rfl)
  | ((with_reducible show Nat.ble _ _ = true); exact rfl)
  | ((with_reducible show Nat.blt _ _ = true); exact rfl)
  | ((with_reducible show truthD _ = some _); exact rfl)
  | ((with_reducible show sideB _ _ = true); exact rfl)
  | ((with_reducible show intB _ = true); exact rfl)
  | ((with_reducible show eqSideB _ _ = true); exact rfl)
  | ((with_reducible show itemsD _ = some _); exact rfl)
  | ((with_reducible show putD _ _ _ = _); exact rfl)
  | ((with_reducible show List.lookup _ _ = _); exact rfl)
  | ((with_reducible show getElem? _ _ = some _); exact rfl)
  | with_reducible exact ixN0
  | with_reducible exact ixN1)
local macro_rules | `(tactic| walk_at "ln") => `(tactic| repeat' (first | with_reducible exact Ln.num (by walk_at "bd") | with_reducible exact Ln.lit | with_reducible exact Ln.emp | with_reducible apply Ln.app))
local macro_rules | `(tactic| walk_at "sa") => `(tactic| repeat' (first | with_reducible exact AppAt.nil | with_reducible apply AppAt.cons | with_reducible exact ZipAt.nil | with_reducible apply ZipAt.cons))
local macro_rules | `(tactic| walk_at "pr") => `(tactic| first
  | ((with_reducible apply ev_mul); walk_at "bd")
  | ((with_reducible apply ev_fdiv) <;> walk_at "bd")
  | ((with_reducible apply ev_mod); walk_at "bd")
  | ((with_reducible apply ev_divmod) <;> walk_at "bd")
  | ((with_reducible apply ev_pow) <;> walk_at "bd")
  | ((with_reducible apply ev_addS); exact Ln.ok2 (by walk_at "ln") (by walk_at "ln") rfl)
  | ((with_reducible apply ev_addL); walk_at "sa"; exact rfl)
  | ((with_reducible apply ev_append); walk_at "sa"; exact rfl)
  | ((with_reducible apply ev_strI); walk_at "bd")
  | with_reducible exact ev_twice
  | ((with_reducible apply len_Tx); walk_at "bd")
  | ((with_reducible apply add_Tx); walk_at "bd")
  | with_reducible exact eq_Tx _ _
  | with_reducible exact ne_Tx _ _
  | ((with_reducible apply sl_Tx); walk_at "bd")
  | ((with_reducible show addD _ _ = some _); exact rfl)
  | ((with_reducible show subD _ _ = some _); exact rfl)
  | ((with_reducible show cmpD _ _ _ _ = some _); exact rfl)
  | ((with_reducible show isD _ _ _ = some _); exact rfl)
  | ((with_reducible show ixD _ _ = some _); exact rfl)
  | ((with_reducible show absD _ = some _); exact rfl)
  | ((with_reducible show max2D _ = some _); exact rfl)
  | ((with_reducible show min2D _ = some _); exact rfl)
  | ((with_reducible show int1D _ = some _); exact rfl)
  | ((with_reducible show lenD _ = some _); exact rfl)
  | ((with_reducible show gcdD _ = some _); exact rfl)
  | ((with_reducible show allD _ = some _); exact rfl)
  | ((with_reducible show isi2D _ _ = some _); exact rfl)
  | ((with_reducible show negD _ = some _); exact rfl)
  | ((with_reducible show appendD _ _ = some _); exact rfl)
  | ((with_reducible show eqD _ _ = some _); exact rfl)
  | ((with_reducible show neD _ _ = some _); exact rfl)
  | ((with_reducible show mul3D _ _ = some _); exact rfl))
local macro_rules | `(tactic| walk_at "tt") => `(tactic| first | with_reducible exact bne_self _ | with_reducible assumption | exact rfl | assumption | (simp only [Bool.not_eq_true', Bool.not_eq_false', Bool.not_true, Bool.not_false, decide_eq_true_eq, decide_eq_false_iff_not, beq_iff_eq, bne_iff_ne, beq_eq_false_iff_ne, Bool.and_eq_true, Bool.and_true, Bool.true_and, if_true, Bool.false_eq_true, if_false]; first | done | assumption | omega) | (simp [*]; done))
local macro_rules | `(tactic| walk_at "ev1") => `(tactic| first
  | with_reducible exact ev_c
  | ((with_reducible show some _ = some _); with_reducible exact rfl)
  | ((with_reducible apply ev_vd); exact rfl)
  | ((with_reducible apply ev_vo); exact rfl)
  | ((with_reducible apply ev_vb); exact rfl)
  | with_reducible exact ev_aNil
  | with_reducible apply ev_aCons
  | with_reducible apply ev_aApp
  | with_reducible apply ev_aSel
  | with_reducible apply tail_of
  | with_reducible apply ev_binV
  | ((with_reducible apply binK_l (c := 0)); exact rfl)
  | ((with_reducible apply binK_r (c := 0)); exact rfl; exact rfl)
  | ((with_reducible apply binK_d); exact rfl; exact rfl)
  | with_reducible apply ev_bin
  | with_reducible apply ev_unV
  | ((with_reducible apply unK_l (c := 0)); exact rfl)
  | ((with_reducible apply unK_d); exact rfl)
  | with_reducible apply ev_cmpV
  | ((with_reducible apply cmpK_l (c := 0)); exact rfl)
  | ((with_reducible apply cmpK_d); exact rfl)
  | with_reducible apply ev_attrV
  | ((with_reducible apply attrK_l (c := 0)); exact rfl; walk_at "tb")
  | ((with_reducible apply attrK_f (c := 0)); exact rfl; walk_at "tb")
  | ((with_reducible apply attrK_s); exact rfl)
  | with_reducible apply fldV_of
  | with_reducible apply ev_reprV
  | ((with_reducible apply reprK_l (c := 0)); exact rfl)
  | ((with_reducible apply reprK_d); exact rfl)
  | with_reducible apply ev_fnS
  | with_reducible apply ev_cm
  | with_reducible apply ev_mkS
  | with_reducible apply ev_methS
  | with_reducible apply ev_call
  | with_reducible apply ev_tup
  | with_reducible apply ev_lst
  | with_reducible apply ev_not
  | ((with_reducible apply iteK_t); walk_at "tt")
  | ((with_reducible apply iteK_f); walk_at "tt")
  | with_reducible apply ev_if
  | with_reducible apply ev_and
  | with_reducible apply ev_or
  | with_reducible apply ev_bVal
  | with_reducible apply ev_bTruth
  | with_reducible apply ev_bNot
  | with_reducible apply ev_bAnd
  | with_reducible apply ev_bOr)
local macro_rules | `(tactic| walk_at "ev2") => `(tactic| first
  | with_reducible apply ev_seq
  | with_reducible apply seqK_nx
  | ((with_reducible show seqK _ _ = some _); exact rfl)
  | with_reducible apply ev_set
  | with_reducible apply ev_sif
  | with_reducible apply ev_ret
  | with_reducible exact ev_snil
  | with_reducible apply ev_par2
  | with_reducible apply ev_par3
  | with_reducible apply ev_asg
  | with_reducible apply ev_exp
  | with_reducible apply ev_mut
  | with_reducible apply ev_fld
  | with_reducible apply ev_gset
  | with_reducible apply ev_gtup
  | with_reducible apply ev_gsc
  | with_reducible exact ev_gsn
  | with_reducible apply ev_gix
  | with_reducible exact SetAt.zero
  | with_reducible apply SetAt.succ
  | with_reducible exact Pad.nil
  | with_reducible apply Pad.dat
  | with_reducible apply Pad.own
  | with_reducible apply Pad.bor
  | with_reducible apply Pad.und
  | with_reducible exact WipeAt.nil
  | with_reducible apply WipeAt.cons
  | with_reducible exact fz_nil
  | ((with_reducible apply fz_own); exact rfl)
  | with_reducible apply ev_fz
  | with_reducible apply ev_lc
  | with_reducible exact lc_nil
  | with_reducible apply lc_cons
  | with_reducible apply ev_zipA
  | with_reducible exact ZipAt.nil
  | with_reducible apply ZipAt.cons
  | with_reducible exact ev_jsN
  | with_reducible apply ev_jsC
  | ((with_reducible show _ ≤ sizeLine); exact Ln.ok (by walk_at "ln") rfl)
  | ((with_reducible show Nat.log2 _ < 1920); walk_at "bd")
  | with_reducible apply ev_fmtI
  | with_reducible apply ev_walkV
  | with_reducible apply ev_chainT
  | with_reducible exact ev_oN
  | with_reducible apply ev_oS
  | with_reducible apply ev_sl
  | with_reducible apply ev_m1
  | with_reducible apply ev_sortKey
  | ((with_reducible apply ev_mut0); exact rfl)
  | with_reducible apply ev_rng1
  | with_reducible apply ev_fn)
local macro_rules | `(tactic| walk_at "ev") => `(tactic| repeat' (first | walk_at "rf" | walk_at "ev1" | walk_at "ev2" | walk_at "tb" | walk_at "call" | walk_at "pr"))
local macro_rules | `(tactic| walk_at "bd") => `(tactic| first | assumption | decide | omega)
local macro_rules | `(tactic| walk_at "tb") => `(tactic| first | with_reducible exact tb_0 _ | with_reducible exact tb_1 _ | with_reducible exact tb_2 _ | with_reducible exact tb_3 _ | with_reducible exact tb_4 _ | with_reducible exact tb_5 _ | with_reducible exact tb_6 _)
local macro_rules | `(tactic| walk_at "call") => `(tactic| with_reducible assumption)
theorem toPy_txs : ∀ ws : List (List Nat), toPyAll (txs ws) = some (ws.map fun w => .str (Tx w))
  | [] => by simp [toPyAll]
  | w :: ws => by
    show toPyAll (.str (Tx w) :: txs ws) = _
    rw [toPyAll, toPy_txs ws]; simp [toPy]
theorem shaped_txs {ws : List (List Nat)} (h : ∀ w ∈ ws, Lw w) : SeqAt.shaped (.list (ws.map fun w => PyData.str (Tx w))) = true := by
  have key : ∀ ws : List (List Nat), (∀ w ∈ ws, Lw w) → PyData.canLayAll0 (ws.map fun w => PyData.str (Tx w)) = true ∧ PyData.depthAll (ws.map fun w => PyData.str (Tx w)) = 0 := by
    intro ws h
    induction ws with
    | nil => simp [PyData.canLayAll0, PyData.depthAll]
    | cons w ws ih =>
      obtain ⟨i1, i2⟩ := ih fun x hx => h x (List.mem_cons_of_mem _ hx)
      have hw := h w List.mem_cons_self
      refine ⟨?_, ?_⟩
      · rw [List.map_cons, PyData.canLayAll0, i1, Bool.and_true]
        show PyData.strOk (Tx w) = true
        unfold PyData.strOk
        rw [Array.all_eq_true_iff_forall_mem]
        intro c hc
        have := hw c (by have : c ∈ (Tx w).cps.toList := Array.mem_toList_iff.mpr hc; rwa [Tx_cps] at this)
        simp; omega
      · rw [List.map_cons, PyData.depthAll, i2]; simp [PyData.depth]
  obtain ⟨k1, k2⟩ := key ws h
  unfold SeqAt.shaped
  rw [PyData.canLay0, k1, PyData.depth, k2]; rfl
theorem eqv_txs : ∀ ws : List (List Nat), PyData.eqvAll (ws.map fun w => PyData.str (Tx w)) (ws.map fun w => PyData.str (Tx w)) = true
  | [] => by simp [PyData.eqvAll]
  | w :: ws => by
    rw [List.map_cons, PyData.eqvAll, eqv_txs ws]; simp [PyData.eqv]
theorem eqB_txs {ws vs : List (List Nat)} (h : ∀ w ∈ ws, Lw w) (h' : ∀ w ∈ vs, Lw w) : eqB (.lst (txs ws)) (.lst (txs vs)) = some (PyData.eqv (.list (ws.map fun w => .str (Tx w))) (.list (vs.map fun w => .str (Tx w)))) := by
  unfold eqB
  have e : scalD (.lst (txs ws)) (.lst (txs vs)) = none := rfl
  rw [e]
  dsimp only
  rw [toPy, toPy, toPy_txs, toPy_txs]
  simp only [Option.map_some, shaped_txs h, shaped_txs h', Bool.and_self, if_true]
theorem eq_txs {ws : List (List Nat)} (h : ∀ w ∈ ws, Lw w) : eqD (.lst (txs ws)) (.lst (txs ws)) = some (.dat (.bl true)) := by
  unfold eqD
  rw [eqB_txs h h, PyData.eqv, eqv_txs]; rfl
theorem ne_nil : neD (.lst (txs [])) (.lst []) = some (.dat (.bl false)) := by
  show neD (.lst (txs [])) (.lst (txs [])) = _
  unfold neD
  rw [eqB_txs (by simp) (by simp), PyData.eqv, eqv_txs]; rfl
theorem ne_cons {v : List Nat} {ws : List (List Nat)} (h : ∀ w ∈ v :: ws, Lw w) : neD (.lst (txs (v :: ws))) (.lst []) = some (.dat (.bl true)) := by
  show neD (.lst (txs (v :: ws))) (.lst (txs [])) = _
  unfold neD
  rw [eqB_txs h (by simp), PyData.eqv, List.map_cons, List.map_nil, PyData.eqvAll]; rfl
theorem mem_txs {ws : List (List Nat)} {i : Nat} (h : i < (txs ws).length) : ∃ w ∈ ws, (txs ws).getD i .non = .str (Tx w) := by
  obtain ⟨w, hw, e⟩ := List.mem_map.mp (getD_mem h)
  exact ⟨w, hw, e.symm⟩
/-- what the law adds to a question -/
theorem F_more (n : Nat) (p : Int × Int) (ws : List (List Nat)) (s a : List Nat) (m : Int) (t x : SV) (hp : POK p) (hs : 0 < s.length) (hs1 : s.length < 1000) (ls : Lw s) (hw : ∀ w ∈ ws, Wd w ∧ w.length ≤ 12) (hl : ws.length < 1000) :
    ∃ w q, (pIf (bAnd (bVal (pCmpV true (tab prg (n+4)).eqL neD (pVar 1) (pLst aNil))) (bVal (pBin (cmpD (fun i j => decide (j < i)) fun i j => ltS j i) (pFnS [true, false] (d__law_draw.F (tab prg (n+3)) 60) ⟨2, [], [0, 1]⟩ [] (aCons (pVar 0) (aCons (pC (.int (4))) aNil)) aNil) (pC (.int (0)))))) (pFnS [true, false] (d__law_pick.F (tab prg (n+3)) 60) ⟨2, [], [0, 1]⟩ [] (aCons (pVar 0) (aCons (pVar 1) aNil)) aNil) (pFnS [true, false, false] (d__law_term.F (tab prg (n+3)) 60) ⟨3, [], [0, 1, 2]⟩ [] (aCons (pVar 0) (aCons (pVar 2) (aCons (pC (.int (2))) aNil))) aNil)) [.own (potD p), .dat (.lst (txs ws)), sw s, .dat (.int m), sw a, t, x] = some (.dat (.str (Tx w)), [.own (potD q), .dat (.lst (txs ws)), sw s, .dat (.int m), sw a, t, x]) ∧ Wd w ∧ w.length ≤ 12 ∧ POK q := by
  have wd : ∀ w : List Nat, 1 ≤ w.length → (∀ c ∈ w, c ∈ s) → Wd w := fun w h1 h2 => ⟨fun e => by subst e; exact absurd h1 (by decide), fun c hc => ls c (h2 c hc)⟩
  cases ws with
  | nil =>
    obtain ⟨w, q, hF, w0, w1, w2, hq⟩ := F_term n p s 2 hp hs hs1 (by decide) (by decide)
    have hne := ne_nil
    refine ⟨w, q, ?_, wd w w0 w2, by omega, hq⟩
    walk_at "ev"
  | cons v ws =>
    have hne := ne_cons (v := v) (ws := ws) fun w h => (hw w h).1.lw
    obtain ⟨i, q1, hD, i0, i1, hq1⟩ := F_draw (n + 2) p 4 hp (by decide) (by decide)
    by_cases h : 0 < i
    · have hi : decide (0 < i) = true := by simp [h]
      obtain ⟨j, q, hP, hj, hq⟩ := F_pick (n + 1) q1 (txs (v :: ws)) hq1 (by rw [List.length_map, List.length_cons]; omega) (by rw [List.length_map]; omega)
      obtain ⟨w, hm, e⟩ := mem_txs hj
      rw [e] at hP
      refine ⟨w, q, ?_, (hw w hm).1, (hw w hm).2, hq⟩
      walk_at "ev"
    · have hi : decide (0 < i) = false := by simp [h]
      obtain ⟨w, q, hF, w0, w1, w2, hq⟩ := F_term n q1 s 2 hq1 hs hs1 (by decide) (by decide)
      refine ⟨w, q, ?_, wd w w0 w2, by omega, hq⟩
      walk_at "ev"
end K13
end

section
set_option Elab.async false
set_option linter.all false
set_option maxRecDepth 100000
set_option maxHeartbeats 4000000
namespace K13
open PySem L2 Den PyProof.Rows
local macro_rules | `(tactic| walk_at "rf") => `(tactic| first
  | ((with_reducible show RV.cont _ _ = some _); exact rfl)
  | ((with_reducible show RV.dt _ = some _); exact rfl)
  | ((with_reducible show RV.cls _ = _); exact rfl)
  | ((with_reducible show RV.objf _ = _); exact rfl)
  | ((with_reducible show passE _ _ _ = some _); exact rfl)
  | ((with_reducible show BackAt _ _ _ _ _); first | exact BackAt.nil | apply BackAt.dat | apply BackAt.slot | apply BackAt.own)
  | ((with_reducible show onceB _ _ _ = true); exact rfl)
  | ((with_reducible show ownB _ _ _ = true); exact rfl)
  | ((with_reducible show pinned _ _ _ = false); exact rfl)
  | ((with_reducible show dts _ = some _); exact rfl)
  | ((with_reducible show conts _ _ = some _); exact rfl)
  | ((with_reducible show setSV _ _ = some _); exact rfl)
  | ((with_reducible show retK _ _ _ = some _); exact rfl)
  | ((with_reducible show fnK _ _ = some _); exact rfl)
  | ((with_reducible show List.length _ = _); exact rfl)
  | ((with_reducible show pick _ _ = _); exact rfl)
  | ((with_reducible show Nat.ble _ _ = true); exact rfl)
  | ((with_reducible show Nat.blt _ _ = true); exact rfl)
  | ((with_reducible show truthD _ = some _); exact rfl)
  | ((with_reducible show sideB _ _ = true); exact rfl)
  | ((with_reducible show intB _ = true); exact rfl)
  | ((with_reducible show eqSideB _ _ = true); exact rfl)
  | ((with_reducible show itemsD _ = some _); exact rfl)
  | ((with_reducible show putD _ _ _ = _); exact rfl)
  | ((with_reducible show List.lookup _ _ = _); exact rfl)
  | ((with_reducible show getElem? _ _ = some _); exact rfl)
  | with_reducible exact ixN0
  | with_reducible exact ixN1)
local macro_rules | `(tactic| walk_at "ln") => `(tactic| repeat' (first | with_reducible exact Ln.num (by walk_at "bd") | with_reducible exact Ln.lit | with_reducible exact Ln.emp | with_reducible apply Ln.app))
local macro_rules | `(tactic| walk_at "sa") => `(tactic| repeat' (first | with_reducible exact AppAt.nil | with_reducible apply AppAt.cons | with_reducible exact ZipAt.nil | with_reducible apply ZipAt.cons))
local macro_rules | `(tactic| walk_at "pr") => `(tactic| first
  | ((with_reducible apply ev_mul); walk_at "bd")
  | ((with_reducible apply ev_fdiv) <;> walk_at "bd")
  | ((with_reducible apply ev_mod); walk_at "bd")
  | ((with_reducible apply ev_divmod) <;> walk_at "bd")
  | ((with_reducible apply ev_pow) <;> walk_at "bd")
  | ((with_reducible apply ev_addS); exact Ln.ok2 (by walk_at "ln") (by walk_at "ln") rfl)
  | ((with_reducible apply ev_addL); walk_at "sa"; exact rfl)
  | ((with_reducible apply ev_append); walk_at "sa"; exact rfl)
  | ((with_reducible apply ev_strI); walk_at "bd")
  | with_reducible exact ev_twice
  | ((with_reducible apply len_Tx); walk_at "bd")
  | ((with_reducible apply add_Tx); walk_at "bd")
  | with_reducible exact eq_Tx _ _
  | with_reducible exact ne_Tx _ _
  | ((with_reducible apply sl_Tx); walk_at "bd")
  | ((with_reducible show addD _ _ = some _); exact rfl)
  | ((with_reducible show subD _ _ = some _); exact rfl)
  | ((with_reducible show cmpD _ _ _ _ = some _); exact rfl)
  | ((with_reducible show isD _ _ _ = some _); exact rfl)
  | ((with_reducible show ixD _ _ = some _); exact rfl)
  | ((with_reducible show absD _ = some _); exact rfl)
  | ((with_reducible show max2D _ = some _); exact rfl)
  | ((with_reducible show min2D _ = some _); exact rfl)
  | ((with_reducible show int1D _ = some _); exact rfl)
  | ((with_reducible show lenD _ = some _); exact rfl)
  | ((with_reducible show gcdD _ = some _); exact rfl)
  | ((with_reducible show allD _ = some _); exact rfl)
  | ((with_reducible show isi2D _ _ = some _); exact rfl)
  | ((with_reducible show negD _ = some _); exact rfl)
  | ((with_reducible show appendD _ _ = some _); exact rfl)
  | ((with_reducible show eqD _ _ = some _); exact rfl)
  | ((with_reducible show neD _ _ = some _); exact rfl)
  | ((with_reducible show mul3D _ _ = some _); exact rfl))
local macro_rules | `(tactic| walk_at "tt") => `(tactic| first | with_reducible exact bne_self _ | with_reducible assumption | exact rfl | assumption | (simp only [Bool.not_eq_true', Bool.not_eq_false', Bool.not_true, Bool.not_false, decide_eq_true_eq, decide_eq_false_iff_not, beq_iff_eq, bne_iff_ne, beq_eq_false_iff_ne, Bool.and_eq_true, Bool.and_true, Bool.true_and, if_true, Bool.false_eq_true, if_false]; first | done | assumption | omega) | (simp [*]; done))
local macro_rules | `(tactic| walk_at "ev1") => `(tactic| first
  | with_reducible exact ev_c
  | ((with_reducible show some _ = some _); with_reducible exact rfl)
  | ((with_reducible apply ev_vd); exact rfl)
  | ((with_reducible apply ev_vo); exact rfl)
  | ((with_reducible apply ev_vb); exact rfl)
  | with_reducible exact ev_aNil
  | with_reducible apply ev_aCons
  | with_reducible apply ev_aApp
  | with_reducible apply ev_aSel
  | with_reducible apply tail_of
  | with_reducible apply ev_binV
  | ((with_reducible apply binK_l (c := 0)); exact rfl)
  | ((with_reducible apply binK_r (c := 0)); exact rfl; exact rfl)
  | ((with_reducible apply binK_d); exact rfl; exact rfl)
  | with_reducible apply ev_bin
  | with_reducible apply ev_unV
  | ((with_reducible apply unK_l (c := 0)); exact rfl)
  | ((with_reducible apply unK_d); exact rfl)
  | with_reducible apply ev_cmpV
  | ((with_reducible apply cmpK_l (c := 0)); exact rfl)
  | ((with_reducible apply cmpK_d); exact rfl)
  | with_reducible apply ev_attrV
  | ((with_reducible apply attrK_l (c := 0)); exact rfl; walk_at "tb")
  | ((with_reducible apply attrK_f (c := 0)); exact rfl; walk_at "tb")
  | ((with_reducible apply attrK_s); exact rfl)
  | with_reducible apply fldV_of
  | with_reducible apply ev_reprV
  | ((with_reducible apply reprK_l (c := 0)); exact rfl)
  | ((with_reducible apply reprK_d); exact rfl)
  | with_reducible apply ev_fnS
  | with_reducible apply ev_cm
  | with_reducible apply ev_mkS
  | with_reducible apply ev_methS
  | with_reducible apply ev_call
  | with_reducible apply ev_tup
  | with_reducible apply ev_lst
  | with_reducible apply ev_not
  | ((with_reducible apply iteK_t); walk_at "tt")
  | ((with_reducible apply iteK_f); walk_at "tt")
  | with_reducible apply ev_if
  | with_reducible apply ev_and
  | with_reducible apply ev_or
  | with_reducible apply ev_bVal
  | with_reducible apply ev_bTruth
  | with_reducible apply ev_bNot
  | with_reducible apply ev_bAnd
  | with_reducible apply ev_bOr)
local macro_rules | `(tactic| walk_at "ev2") => `(tactic| first
  | with_reducible apply ev_seq
  | with_reducible apply seqK_nx
  | ((with_reducible show seqK _ _ = some _); exact rfl)
  | with_reducible apply ev_set
  | with_reducible apply ev_sif
  | with_reducible apply ev_ret
  | with_reducible exact ev_snil
  | with_reducible apply ev_par2
  | with_reducible apply ev_par3
  | with_reducible apply ev_asg
  | with_reducible apply ev_exp
  | with_reducible apply ev_mut
  | with_reducible apply ev_fld
  | with_reducible apply ev_gset
  | with_reducible apply ev_gtup
  | with_reducible apply ev_gsc
  | with_reducible exact ev_gsn
  | with_reducible apply ev_gix
  | with_reducible exact SetAt.zero
  | with_reducible apply SetAt.succ
  | with_reducible exact Pad.nil
  | with_reducible apply Pad.dat
  | with_reducible apply Pad.own
  | with_reducible apply Pad.bor
  | with_reducible apply Pad.und
  | with_reducible exact WipeAt.nil
  | with_reducible apply WipeAt.cons
  | with_reducible exact fz_nil
  | ((with_reducible apply fz_own); exact rfl)
  | with_reducible apply ev_fz
  | with_reducible apply ev_lc
  | with_reducible exact lc_nil
  | with_reducible apply lc_cons
  | with_reducible apply ev_zipA
  | with_reducible exact ZipAt.nil
  | with_reducible apply ZipAt.cons
  | with_reducible exact ev_jsN
  | with_reducible apply ev_jsC
  | ((with_reducible show _ ≤ sizeLine); exact Ln.ok (by walk_at "ln") rfl)
  | ((with_reducible show Nat.log2 _ < 1920); walk_at "bd")
  | with_reducible apply ev_fmtI
  | with_reducible apply ev_walkV
  | with_reducible apply ev_chainT
  | with_reducible exact ev_oN
  | with_reducible apply ev_oS
  | with_reducible apply ev_sl
  | with_reducible apply ev_m1
  | with_reducible apply ev_sortKey
  | ((with_reducible apply ev_mut0); exact rfl)
  | with_reducible apply ev_rng1
  | with_reducible apply ev_fn)
local macro_rules | `(tactic| walk_at "ev") => `(tactic| repeat' (first | walk_at "rf" | walk_at "ev1" | walk_at "ev2" | walk_at "tb" | walk_at "call" | walk_at "pr"))
local macro_rules | `(tactic| walk_at "bd") => `(tactic| first | assumption | decide | omega)
local macro_rules | `(tactic| walk_at "tb") => `(tactic| first | with_reducible exact tb_0 _ | with_reducible exact tb_1 _ | with_reducible exact tb_2 _ | with_reducible exact tb_3 _ | with_reducible exact tb_4 _ | with_reducible exact tb_5 _ | with_reducible exact tb_6 _)
local macro_rules | `(tactic| walk_at "call") => `(tactic| with_reducible assumption)
theorem F_found (n : Nat) (q w : List Nat) (ql : q.length ≤ 24) (hw : Wd w) (wl : w.length ≤ 1000) : d__law_found.F (tab prg (n+1)) 60 [sw q, sw w] = some (.own (.lst (natsD (fnd q w))), [sw q, sw w]) := by
  have hz : q.length ≤ sizeLine := Nat.le_trans ql (by decide)
  have hy : w.length ≤ sizeLine := Nat.le_trans wl (by decide)
  have wp := hw.pos
  have hr : -(2 ^ 62) ≤ (q.length : Int) - (w.length : Int) + 1 ∧ (q.length : Int) - (w.length : Int) + 1 < 2 ^ 62 := by omega
  have en : ((q.length : Int) - (w.length : Int) + 1).toNat = q.length + 1 - w.length := by omega
  have hlc := found_lc (m := q.length + 1 - w.length) ql wl (by omega) _ (found_c n ql wl)
  have hb : Nat.ble (rangeD 0 ((q.length : Int) - (w.length : Int) + 1).toNat).length sizeLine = true := by
    unfold rangeD
    rw [List.length_map, List.length_range]; exact Nat.ble_eq_true_of_le (Nat.le_trans (show _ ≤ 1000 by omega) (by decide))
  rw [fnd_short wp, ← en] at hlc
  rw [den__law_found]
  walk_at "ev"
end K13
end

section
set_option Elab.async false
set_option linter.all false
set_option maxRecDepth 100000
set_option maxHeartbeats 4000000
namespace K13
open PySem L2 Den PyProof.Rows
local macro_rules | `(tactic| walk_at "rf") => `(tactic| first
  | ((with_reducible show RV.cont _ _ = some _); exact rfl)
  | ((with_reducible show RV.dt _ = some _); exact rfl)
  | ((with_reducible show RV.cls _ = _); exact rfl)
  | ((with_reducible show RV.objf _ = _); exact rfl)
  | ((with_reducible show passE _ _ _ = some _); exact rfl)
  | ((with_reducible show BackAt _ _ _ _ _); first | exact BackAt.nil | apply BackAt.dat | apply BackAt.slot | apply BackAt.own)
  | ((with_reducible show onceB _ _ _ = true); exact rfl)
  | ((with_reducible show ownB _ _ _ = true); exact rfl)
  | ((with_reducible show pinned _ _ _ = false); exact rfl)
  | ((with_reducible show dts _ = some _); exact rfl)
  | ((with_reducible show conts _ _ = some _); exact rfl)
  | ((with_reducible show setSV _ _ = some _); exact rfl)
  | ((with_reducible show retK _ _ _ = some _); exact rfl)
  | ((with_reducible show fnK _ _ = some _); exact rfl)
  | ((with_reducible show List.length _ = _); exact rfl)
  | ((with_reducible show pick _ _ = _); exact rfl)
  | ((with_reducible show Nat.ble _ _ = true); exact rfl)
  | ((with_reducible show Nat.blt _ _ = true); exact rfl)
  | ((with_reducible show truthD _ = some _); exact rfl)
  | ((with_reducible show sideB _ _ = true); exact rfl)
  | ((with_reducible show intB _ = true); exact rfl)
  | ((with_reducible show eqSideB _ _ = true); exact rfl)
  | ((with_reducible show itemsD _ = some _); exact rfl)
  | ((with_reducible show putD _ _ _ = _); exact rfl)
  | ((with_reducible show List.lookup _ _ = _); exact rfl)
  | ((with_reducible show getElem? _ _ = some _); exact rfl)
  | with_reducible exact ixN0
  | with_reducible exact ixN1)
local macro_rules | `(tactic| walk_at "ln") => `(tactic| repeat' (first | with_reducible exact Ln.num (by walk_at "bd") | with_reducible exact Ln.lit | with_reducible exact Ln.emp | with_reducible apply Ln.app))
local macro_rules | `(tactic| walk_at "sa") => `(tactic| repeat' (first | with_reducible exact AppAt.nil | with_reducible apply AppAt.cons | with_reducible exact ZipAt.nil | with_reducible apply ZipAt.cons))
local macro_rules | `(tactic| walk_at "pr") => `(tactic| first
  | ((with_reducible apply ev_mul); walk_at "bd")
  | ((with_reducible apply ev_fdiv) <;> walk_at "bd")
  | ((with_reducible apply ev_mod); walk_at "bd")
  | ((with_reducible apply ev_divmod) <;> walk_at "bd")
  | ((with_reducible apply ev_pow) <;> walk_at "bd")
  | ((with_reducible apply ev_addS); exact Ln.ok2 (by walk_at "ln") (by walk_at "ln") rfl)
  | ((with_reducible apply ev_addL); walk_at "sa"; exact rfl)
  | ((with_reducible apply ev_append); walk_at "sa"; exact rfl)
  | ((with_reducible apply ev_strI); walk_at "bd")
  | with_reducible exact ev_twice
  | ((with_reducible apply len_Tx); walk_at "bd")
  | ((with_reducible apply add_Tx); walk_at "bd")
  | with_reducible exact eq_Tx _ _
  | with_reducible exact ne_Tx _ _
  | ((with_reducible apply sl_Tx); walk_at "bd")
  | ((with_reducible show addD _ _ = some _); exact rfl)
  | ((with_reducible show subD _ _ = some _); exact rfl)
  | ((with_reducible show cmpD _ _ _ _ = some _); exact rfl)
  | ((with_reducible show isD _ _ _ = some _); exact rfl)
  | ((with_reducible show ixD _ _ = some _); exact rfl)
  | ((with_reducible show absD _ = some _); exact rfl)
  | ((with_reducible show max2D _ = some _); exact rfl)
  | ((with_reducible show min2D _ = some _); exact rfl)
  | ((with_reducible show int1D _ = some _); exact rfl)
  | ((with_reducible show lenD _ = some _); exact rfl)
  | ((with_reducible show gcdD _ = some _); exact rfl)
  | ((with_reducible show allD _ = some _); exact rfl)
  | ((with_reducible show isi2D _ _ = some _); exact rfl)
  | ((with_reducible show negD _ = some _); exact rfl)
  | ((with_reducible show appendD _ _ = some _); exact rfl)
  | ((with_reducible show eqD _ _ = some _); exact rfl)
  | ((with_reducible show neD _ _ = some _); exact rfl)
  | ((with_reducible show mul3D _ _ = some _); exact rfl))
local macro_rules | `(tactic| walk_at "tt") => `(tactic| first | with_reducible exact bne_self _ | with_reducible assumption | exact rfl | assumption | (simp only [Bool.not_eq_true', Bool.not_eq_false', Bool.not_true, Bool.not_false, decide_eq_true_eq, decide_eq_false_iff_not, beq_iff_eq, bne_iff_ne, beq_eq_false_iff_ne, Bool.and_eq_true, Bool.and_true, Bool.true_and, if_true, Bool.false_eq_true, if_false]; first | done | assumption | omega) | (simp [*]; done))
local macro_rules | `(tactic| walk_at "ev1") => `(tactic| first
  | with_reducible exact ev_c
  | ((with_reducible show some _ = some _); with_reducible exact rfl)
  | ((with_reducible apply ev_vd); exact rfl)
  | ((with_reducible apply ev_vo); exact rfl)
  | ((with_reducible apply ev_vb); exact rfl)
  | with_reducible exact ev_aNil
  | with_reducible apply ev_aCons
  | with_reducible apply ev_aApp
  | with_reducible apply ev_aSel
  | with_reducible apply tail_of
  | with_reducible apply ev_binV
  | ((with_reducible apply binK_l (c := 0)); exact rfl)
  | ((with_reducible apply binK_r (c := 0)); exact rfl; exact rfl)
  | ((with_reducible apply binK_d); exact rfl; exact rfl)
  | with_reducible apply ev_bin
  | with_reducible apply ev_unV
  | ((with_reducible apply unK_l (c := 0)); exact rfl)
  | ((with_reducible apply unK_d); exact rfl)
  | with_reducible apply ev_cmpV
  | ((with_reducible apply cmpK_l (c := 0)); exact rfl)
  | ((with_reducible apply cmpK_d); exact rfl)
  | with_reducible apply ev_attrV
  | ((with_reducible apply attrK_l (c := 0)); exact rfl; walk_at "tb")
  | ((with_reducible apply attrK_f (c := 0)); exact rfl; walk_at "tb")
  | ((with_reducible apply attrK_s); exact rfl)
  | with_reducible apply fldV_of
  | with_reducible apply ev_reprV
  | ((with_reducible apply reprK_l (c := 0)); exact rfl)
  | ((with_reducible apply reprK_d); exact rfl)
  | with_reducible apply ev_fnS
  | with_reducible apply ev_cm
  | with_reducible apply ev_mkS
  | with_reducible apply ev_methS
  | with_reducible apply ev_call
  | with_reducible apply ev_tup
  | with_reducible apply ev_lst
  | with_reducible apply ev_not
  | ((with_reducible apply iteK_t); walk_at "tt")
  | ((with_reducible apply iteK_f); walk_at "tt")
  | with_reducible apply ev_if
  | with_reducible apply ev_and
  | with_reducible apply ev_or
  | with_reducible apply ev_bVal
  | with_reducible apply ev_bTruth
  | with_reducible apply ev_bNot
  | with_reducible apply ev_bAnd
  | with_reducible apply ev_bOr)
local macro_rules | `(tactic| walk_at "ev2") => `(tactic| first
  | with_reducible apply ev_seq
  | with_reducible apply seqK_nx
  | ((with_reducible show seqK _ _ = some _); exact rfl)
  | with_reducible apply ev_set
  | with_reducible apply ev_sif
  | with_reducible apply ev_ret
  | with_reducible exact ev_snil
  | with_reducible apply ev_par2
  | with_reducible apply ev_par3
  | with_reducible apply ev_asg
  | with_reducible apply ev_exp
  | with_reducible apply ev_mut
  | with_reducible apply ev_fld
  | with_reducible apply ev_gset
  | with_reducible apply ev_gtup
  | with_reducible apply ev_gsc
  | with_reducible exact ev_gsn
  | with_reducible apply ev_gix
  | with_reducible exact SetAt.zero
  | with_reducible apply SetAt.succ
  | with_reducible exact Pad.nil
  | with_reducible apply Pad.dat
  | with_reducible apply Pad.own
  | with_reducible apply Pad.bor
  | with_reducible apply Pad.und
  | with_reducible exact WipeAt.nil
  | with_reducible apply WipeAt.cons
  | with_reducible exact fz_nil
  | ((with_reducible apply fz_own); exact rfl)
  | with_reducible apply ev_fz
  | with_reducible apply ev_lc
  | with_reducible exact lc_nil
  | with_reducible apply lc_cons
  | with_reducible apply ev_zipA
  | with_reducible exact ZipAt.nil
  | with_reducible apply ZipAt.cons
  | with_reducible exact ev_jsN
  | with_reducible apply ev_jsC
  | ((with_reducible show _ ≤ sizeLine); exact Ln.ok (by walk_at "ln") rfl)
  | ((with_reducible show Nat.log2 _ < 1920); walk_at "bd")
  | with_reducible apply ev_fmtI
  | with_reducible apply ev_walkV
  | with_reducible apply ev_chainT
  | with_reducible exact ev_oN
  | with_reducible apply ev_oS
  | with_reducible apply ev_sl
  | with_reducible apply ev_m1
  | with_reducible apply ev_sortKey
  | ((with_reducible apply ev_mut0); exact rfl)
  | with_reducible apply ev_rng1
  | with_reducible apply ev_fn)
local macro_rules | `(tactic| walk_at "ev") => `(tactic| repeat' (first | walk_at "rf" | walk_at "ev1" | walk_at "ev2" | walk_at "tb" | walk_at "call" | walk_at "pr"))
local macro_rules | `(tactic| walk_at "bd") => `(tactic| first | assumption | decide | omega)
local macro_rules | `(tactic| walk_at "tb") => `(tactic| first | with_reducible exact tb_0 _ | with_reducible exact tb_1 _ | with_reducible exact tb_2 _ | with_reducible exact tb_3 _ | with_reducible exact tb_4 _ | with_reducible exact tb_5 _ | with_reducible exact tb_6 _)
local macro_rules | `(tactic| walk_at "call") => `(tactic| with_reducible assumption)
local macro_rules | `(tactic| walk_at "ev") => `(tactic| repeat' (first | walk_at "call" | walk_at "rf" | walk_at "ev1" | walk_at "ev2" | walk_at "tb" | walk_at "pr"))
theorem log8 {i : Int} (h0 : 0 ≤ i) (h : i < 200) : i.natAbs.log2 < 100 := Nat.lt_of_lt_of_le (log_lt (k := 8) (by omega) (by decide)) (by decide)
theorem cut_ex {w : List Nat} (lo hi : Option Int) (h : w.length ≤ sizeLine) (lw : Lw w) : ∃ u, slD (.str (Tx w)) lo hi = some (.dat (.str (Tx u))) ∧ u.length ≤ w.length ∧ Lw u :=
  ⟨_, sl_Tx h, by rw [List.length_take, List.length_drop]; omega, (lw.drop _).take _⟩
theorem cut_pre {a : List Nat} {m : Int} (h : a.length ≤ sizeLine) (hm : 0 ≤ m) (la : Lw a) : ∃ u, slD (.str (Tx a)) none (some m) = some (.dat (.str (Tx u))) ∧ u.length = min m.toNat a.length ∧ Lw u := by
  refine ⟨_, sl_Tx h, ?_, (la.drop _).take _⟩
  have em : HT.sIx a.length a.length (some m) = min m.toNat a.length := by
    unfold HT.sIx; dsimp only; rw [if_neg (by omega)]
  rw [HT.sIx_none, em, List.length_take, List.length_drop]
  omega
theorem F_asked (n : Nat) (p : Int × Int) (ws : List (List Nat)) (s : List Nat) (m : Int) (hp : POK p) (hs : 0 < s.length) (hs1 : s.length < 1000) (ls : Lw s) (hw : ∀ w ∈ ws, Wd w ∧ w.length ≤ 12) (hl : ws.length < 1000) (hm : 3 ≤ m) (hm1 : m ≤ 24) :
    ∃ w q, d__law_asked.F (tab prg (n+4)) 60 [.own (potD p), .dat (.lst (txs ws)), sw s, .dat (.int m)] = some (.dat (.str (Tx w)), [.own (potD q), .dat (.lst (txs ws)), sw s, .dat (.int m)]) ∧ Wd w ∧ w.length ≤ 24 ∧ POK q := by
  have key : ∃ r, d__law_asked.F (tab prg (n+4)) 60 [.own (potD p), .dat (.lst (txs ws)), sw s, .dat (.int m)] = some r ∧ ∃ w q, r = (.dat (.str (Tx w)), [.own (potD q), .dat (.lst (txs ws)), sw s, .dat (.int m)]) ∧ Wd w ∧ w.length ≤ 24 ∧ POK q := by
    have e0 : (Str.ofString "" : Str) = Tx [] := rfl
    rw [den__law_asked, e0]
    obtain ⟨v, q0, hD, v0, v1, hq0⟩ := F_draw (n + 2) p 6 hp (by decide) (by decide)
    apply ex_fn
    · walk_at "ev"
    apply ex_seq
    · walk_at "ev"
    have hr : -(2 ^ 62) ≤ 1 + v ∧ 1 + v < 2 ^ 62 := by omega
    have hlen : (rangeD 0 (1 + v).toNat).length = (1 + v).toNat := by unfold rangeD; rw [List.length_map, List.length_range]
    apply ex_for (fun i env => ∃ q a t x, env = [.own (potD q), .dat (.lst (txs ws)), sw s, .dat (.int m), sw a, t, x] ∧ POK q ∧ Lw a ∧ a.length ≤ 12 * i)
    · apply ev_rng1
      · walk_at "ev"
      · exact hr
    · rfl
    · exact ⟨q0, [], _, _, rfl, hq0, (fun c h => nomatch h), Nat.le_refl _⟩
    · rintro i env d hd ⟨q, a, t, x, rfl, hq, la, al⟩
      have hi : i < 10 := by
        have := (List.getElem?_eq_some_iff.mp hd).1
        omega
      obtain ⟨w, q1, hM, w0, w1, hq1⟩ := F_more n q ws s a m (.dat d) x hq hs hs1 ls hw hl
      obtain ⟨i1, q2, hD1, i10, i11, hq2⟩ := F_draw (n + 2) q1 2 hq1 (by decide) (by decide)
      have wp := w0.pos
      obtain ⟨i2, q3, hD2, i20, i21, hq3⟩ := F_draw (n + 2) q2 (w.length : Int) hq2 (by omega) (by omega)
      have hml : i1.natAbs.log2 + i2.natAbs.log2 < 1000000 := by
        have h1 := log8 (i := i1) i10 (by omega)
        have h2 := log8 (i := i2) i20 (by omega)
        omega
      have wz : w.length ≤ sizeLine := Nat.le_trans w1 (by decide)
      obtain ⟨u, hS, ul, lu⟩ := cut_ex (w := w) (some (i1 * i2)) none wz w0.lw
      have ul : u.length ≤ 12 := Nat.le_trans ul w1
      have uz : a.length + u.length ≤ sizeLine := Nat.le_trans (show a.length + u.length ≤ 1000 by omega) (by decide)
      apply ex_step
      · walk_at "ev"
      · walk_at "ev"
      · exact ⟨q3, a ++ u, _, _, rfl, hq3, la.app lu, by rw [List.length_append]; omega⟩
    · rintro env ⟨q, a, t, x, rfl, hq, la, al⟩
      have az : a.length ≤ sizeLine := Nat.le_trans (show a.length ≤ 1000 by omega) (by decide)
      by_cases h : a = []
      · subst h
        have hB : (!decide (([] : List Nat) = [])) = false := by simp
        obtain ⟨w, q1, hF, w0, w1, w2, hq1⟩ := F_term n q s 3 hq hs hs1 (by decide) (by decide)
        apply ex_ret
        · walk_at "ev"
        · rfl
        · exact ⟨w, q1, rfl, ⟨fun e => by subst e; exact absurd w0 (by decide), fun c hc => ls c (w2 c hc)⟩, by omega, hq1⟩
      · have hB : (!decide (a = [])) = true := by simp [h]
        obtain ⟨u, hS, ul, lu⟩ := cut_pre (m := m) az (by omega) la
        have ap : 1 ≤ a.length := by
          cases a with
          | nil => exact absurd rfl h
          | cons b l => rw [List.length_cons]; omega
        clear az
        apply ex_ret
        · walk_at "ev"
        · rfl
        · exact ⟨u, q, rfl, ⟨fun e => by subst e; rw [List.length_nil] at ul; omega, lu⟩, by omega, hq⟩
  obtain ⟨r, h, w, q, rfl, hw, hl, hq⟩ := key
  exact ⟨w, q, h, hw, hl, hq⟩
end K13
end

section
set_option Elab.async false
set_option linter.all false
set_option maxRecDepth 100000
set_option maxHeartbeats 4000000
namespace K13
open PySem L2 Den PyProof.Rows
local macro_rules | `(tactic| walk_at "rf") => `(tactic| first
  | ((with_reducible show RV.cont _ _ = some _); exact rfl)
  | ((with_reducible show RV.dt _ = some _); exact rfl)
  | ((with_reducible show RV.cls _ = _); exact rfl)
  | ((with_reducible show RV.objf _ = _); exact rfl)
  | ((with_reducible show passE _ _ _ = some _); exact rfl)
  | ((with_reducible show BackAt _ _ _ _ _); first | exact BackAt.nil | apply BackAt.dat | apply BackAt.slot | apply BackAt.own)
  | ((with_reducible show onceB _ _ _ = true); exact rfl)
  | ((with_reducible show ownB _ _ _ = true); exact rfl)
  | ((with_reducible show pinned _ _ _ = false); exact rfl)
  | ((with_reducible show dts _ = some _); exact rfl)
  | ((with_reducible show conts _ _ = some _); exact rfl)
  | ((with_reducible show setSV _ _ = some _); exact rfl)
  | ((with_reducible show retK _ _ _ = some _); exact rfl)
  | ((with_reducible show fnK _ _ = some _); exact rfl)
  | ((with_reducible show List.length _ = _); exact rfl)
  | ((with_reducible show pick _ _ = _); exact rfl)
  | ((with_reducible show Nat.ble _ _ = true); exact rfl)
  | ((with_reducible show Nat.blt _ _ = true); exact rfl)
  | ((with_reducible show truthD _ = some _); exact rfl)
  | ((with_reducible show sideB _ _ = true); exact rfl)
  | ((with_reducible show intB _ = true); exact rfl)
  | ((with_reducible show eqSideB _ _ = true); exact rfl)
  | ((with_reducible show itemsD _ = some _); exact rfl)
  | ((with_reducible show putD _ _ _ = _); exact rfl)
  | ((with_reducible show List.lookup _ _ = _); exact rfl)
  | ((with_reducible show getElem? _ _ = some _); exact rfl)
  | with_reducible exact ixN0
  | with_reducible exact ixN1)
local macro_rules | `(tactic| walk_at "ln") => `(tactic| repeat' (first | with_reducible exact Ln.num (by walk_at "bd") | with_reducible exact Ln.lit | with_reducible exact Ln.emp | with_reducible apply Ln.app))
local macro_rules | `(tactic| walk_at "sa") => `(tactic| repeat' (first | with_reducible exact AppAt.nil | with_reducible apply AppAt.cons | with_reducible exact ZipAt.nil | with_reducible apply ZipAt.cons))
local macro_rules | `(tactic| walk_at "pr") => `(tactic| first
  | ((with_reducible apply ev_mul); walk_at "bd")
  | ((with_reducible apply ev_fdiv) <;> walk_at "bd")
  | ((with_reducible apply ev_mod); walk_at "bd")
  | ((with_reducible apply ev_divmod) <;> walk_at "bd")
  | ((with_reducible apply ev_pow) <;> walk_at "bd")
  | ((with_reducible apply ev_addS); exact Ln.ok2 (by walk_at "ln") (by walk_at "ln") rfl)
  | ((with_reducible apply ev_addL); walk_at "sa"; exact rfl)
  | ((with_reducible apply ev_append); walk_at "sa"; exact rfl)
  | ((with_reducible apply ev_strI); walk_at "bd")
  | with_reducible exact ev_twice
  | ((with_reducible apply len_Tx); walk_at "bd")
  | ((with_reducible apply add_Tx); walk_at "bd")
  | with_reducible exact eq_Tx _ _
  | with_reducible exact ne_Tx _ _
  | ((with_reducible apply sl_Tx); walk_at "bd")
  | ((with_reducible show addD _ _ = some _); exact rfl)
  | ((with_reducible show subD _ _ = some _); exact rfl)
  | ((with_reducible show cmpD _ _ _ _ = some _); exact rfl)
  | ((with_reducible show isD _ _ _ = some _); exact rfl)
  | ((with_reducible show ixD _ _ = some _); exact rfl)
  | ((with_reducible show absD _ = some _); exact rfl)
  | ((with_reducible show max2D _ = some _); exact rfl)
  | ((with_reducible show min2D _ = some _); exact rfl)
  | ((with_reducible show int1D _ = some _); exact rfl)
  | ((with_reducible show lenD _ = some _); exact rfl)
  | ((with_reducible show gcdD _ = some _); exact rfl)
  | ((with_reducible show allD _ = some _); exact rfl)
  | ((with_reducible show isi2D _ _ = some _); exact rfl)
  | ((with_reducible show negD _ = some _); exact rfl)
  | ((with_reducible show appendD _ _ = some _); exact rfl)
  | ((with_reducible show eqD _ _ = some _); exact rfl)
  | ((with_reducible show neD _ _ = some _); exact rfl)
  | ((with_reducible show mul3D _ _ = some _); exact rfl))
local macro_rules | `(tactic| walk_at "tt") => `(tactic| first | with_reducible exact bne_self _ | with_reducible assumption | exact rfl | assumption | (simp only [Bool.not_eq_true', Bool.not_eq_false', Bool.not_true, Bool.not_false, decide_eq_true_eq, decide_eq_false_iff_not, beq_iff_eq, bne_iff_ne, beq_eq_false_iff_ne, Bool.and_eq_true, Bool.and_true, Bool.true_and, if_true, Bool.false_eq_true, if_false]; first | done | assumption | omega) | (simp [*]; done))
local macro_rules | `(tactic| walk_at "ev1") => `(tactic| first
  | with_reducible exact ev_c
  | ((with_reducible show some _ = some _); with_reducible exact rfl)
  | ((with_reducible apply ev_vd); exact rfl)
  | ((with_reducible apply ev_vo); exact rfl)
  | ((with_reducible apply ev_vb); exact rfl)
  | with_reducible exact ev_aNil
  | with_reducible apply ev_aCons
  | with_reducible apply ev_aApp
  | with_reducible apply ev_aSel
  | with_reducible apply tail_of
  | with_reducible apply ev_binV
  | ((with_reducible apply binK_l (c := 0)); exact rfl)
  | ((with_reducible apply binK_r (c := 0)); exact rfl; exact rfl)
  | ((with_reducible apply binK_d); exact rfl; exact rfl)
  | with_reducible apply ev_bin
  | with_reducible apply ev_unV
  | ((with_reducible apply unK_l (c := 0)); exact rfl)
  | ((with_reducible apply unK_d); exact rfl)
  | with_reducible apply ev_cmpV
  | ((with_reducible apply cmpK_l (c := 0)); exact rfl)
  | ((with_reducible apply cmpK_d); exact rfl)
  | with_reducible apply ev_attrV
  | ((with_reducible apply attrK_l (c := 0)); exact rfl; walk_at "tb")
  | ((with_reducible apply attrK_f (c := 0)); exact rfl; walk_at "tb")
  | ((with_reducible apply attrK_s); exact rfl)
  | with_reducible apply fldV_of
  | with_reducible apply ev_reprV
  | ((with_reducible apply reprK_l (c := 0)); exact rfl)
  | ((with_reducible apply reprK_d); exact rfl)
  | with_reducible apply ev_fnS
  | with_reducible apply ev_cm
  | with_reducible apply ev_mkS
  | with_reducible apply ev_methS
  | with_reducible apply ev_call
  | with_reducible apply ev_tup
  | with_reducible apply ev_lst
  | with_reducible apply ev_not
  | ((with_reducible apply iteK_t); walk_at "tt")
  | ((with_reducible apply iteK_f); walk_at "tt")
  | with_reducible apply ev_if
  | with_reducible apply ev_and
  | with_reducible apply ev_or
  | with_reducible apply ev_bVal
  | with_reducible apply ev_bTruth
  | with_reducible apply ev_bNot
  | with_reducible apply ev_bAnd
  | with_reducible apply ev_bOr)
local macro_rules | `(tactic| walk_at "ev2") => `(tactic| first
  | with_reducible apply ev_seq
  | with_reducible apply seqK_nx
  | ((with_reducible show seqK _ _ = some _); exact rfl)
  | with_reducible apply ev_set
  | with_reducible apply ev_sif
  | with_reducible apply ev_ret
  | with_reducible exact ev_snil
  | with_reducible apply ev_par2
  | with_reducible apply ev_par3
  | with_reducible apply ev_asg
  | with_reducible apply ev_exp
  | with_reducible apply ev_mut
  | with_reducible apply ev_fld
  | with_reducible apply ev_gset
  | with_reducible apply ev_gtup
  | with_reducible apply ev_gsc
  | with_reducible exact ev_gsn
  | with_reducible apply ev_gix
  | with_reducible exact SetAt.zero
  | with_reducible apply SetAt.succ
  | with_reducible exact Pad.nil
  | with_reducible apply Pad.dat
  | with_reducible apply Pad.own
  | with_reducible apply Pad.bor
  | with_reducible apply Pad.und
  | with_reducible exact WipeAt.nil
  | with_reducible apply WipeAt.cons
  | with_reducible exact fz_nil
  | ((with_reducible apply fz_own); exact rfl)
  | with_reducible apply ev_fz
  | with_reducible apply ev_lc
  | with_reducible exact lc_nil
  | with_reducible apply lc_cons
  | with_reducible apply ev_zipA
  | with_reducible exact ZipAt.nil
  | with_reducible apply ZipAt.cons
  | with_reducible exact ev_jsN
  | with_reducible apply ev_jsC
  | ((with_reducible show _ ≤ sizeLine); exact Ln.ok (by walk_at "ln") rfl)
  | ((with_reducible show Nat.log2 _ < 1920); walk_at "bd")
  | with_reducible apply ev_fmtI
  | with_reducible apply ev_walkV
  | with_reducible apply ev_chainT
  | with_reducible exact ev_oN
  | with_reducible apply ev_oS
  | with_reducible apply ev_sl
  | with_reducible apply ev_m1
  | with_reducible apply ev_sortKey
  | ((with_reducible apply ev_mut0); exact rfl)
  | with_reducible apply ev_rng1
  | with_reducible apply ev_fn)
local macro_rules | `(tactic| walk_at "ev") => `(tactic| repeat' (first | walk_at "rf" | walk_at "ev1" | walk_at "ev2" | walk_at "tb" | walk_at "call" | walk_at "pr"))
local macro_rules | `(tactic| walk_at "bd") => `(tactic| first | assumption | decide | omega)
local macro_rules | `(tactic| walk_at "tb") => `(tactic| first | with_reducible exact tb_0 _ | with_reducible exact tb_1 _ | with_reducible exact tb_2 _ | with_reducible exact tb_3 _ | with_reducible exact tb_4 _ | with_reducible exact tb_5 _ | with_reducible exact tb_6 _)
local macro_rules | `(tactic| walk_at "call") => `(tactic| with_reducible assumption)
local macro_rules | `(tactic| walk_at "ev") => `(tactic| repeat' (first | walk_at "call" | walk_at "rf" | walk_at "ev1" | walk_at "ev2" | walk_at "tb" | walk_at "pr"))
theorem ev_gixD {env e1 e2 : Env'} {P : PF} {i : Nat} {d0 d kd : D} {k : Key} {kvs : List (Key × D)} (h0 : env[i]? = some (.own d0)) (h1 : P env = some (.dat kd, e1)) (h2 : ownB env.length env e1 = true) (h3 : e1[i]? = some (.own (.dic kvs))) (h4 : keyOf kd = some k) (h5 : kvs.length < sizeLine) (h6 : Den.SetAt e1 i (.own (.dic (putKD kvs k d))) e2) : gIx2 i P d env = some e2 := by
  unfold gIx2
  rw [h0, h1]
  simp only [h2, h3, h4, h5, h6.eq, if_true]
theorem enum_get {ws : List (List Nat)} {i : Nat} {d : D} (h : (enumD (txs ws))[i]? = some d) : ∃ w, ws[i]? = some w ∧ d = .tup [.int (i : Nat), .str (Tx w)] := by
  unfold enumD at h
  rw [List.getElem?_map, Option.map_eq_some_iff] at h
  obtain ⟨⟨x, j⟩, h1, rfl⟩ := h
  rw [List.getElem?_zipIdx, Option.map_eq_some_iff] at h1
  obtain ⟨y, h2, h3⟩ := h1
  rw [List.getElem?_map, Option.map_eq_some_iff] at h2
  obtain ⟨w, h4, rfl⟩ := h2
  cases h3
  exact ⟨w, h4, by simp⟩
theorem hasK_put {kd : List (Key × D)} {k k' : Key} {d : D} (h : hasK kd k = false) (h' : hasK (putKD kd k d) k' = true) : hasK kd k' = true ∨ k' = k := by
  unfold putKD at h'
  rw [h] at h'
  simp only [Bool.false_eq_true, if_false] at h'
  unfold hasK at h' ⊢
  rw [List.any_append, Bool.or_eq_true] at h'
  rcases h' with h' | h'
  · exact .inl h'
  · right
    simp only [List.any_cons, List.any_nil, Bool.or_false, decide_eq_true_eq] at h'
    exact h'.symm
theorem put_len {kd : List (Key × D)} {k : Key} {d : D} : (putKD kd k d).length ≤ kd.length + 1 := by
  unfold putKD
  split
  · rw [List.length_map]; omega
  · rw [List.length_append]; exact Nat.le_refl _
theorem F_is_list (n : Nat) (xs : List D) : d_is_list.F (tab prg (n+1)) 60 [.dat (.lst xs)] = some (.dat (.bl true), [.dat (.lst xs)]) := by
  rw [den_is_list]
  walk_at "ev"
theorem F_check (n : Nat) (ws : List (List Nat)) (hw : ∀ w ∈ ws, Wd w ∧ w.length ≤ 12) (nd : ws.Nodup) (hl : ws.length ≤ 10) : d_check_lot_words.F (tab prg (n+4)) 60 [.dat (.lst (txs ws))] = some (.dat .non, [.dat (.lst (txs ws))]) := by
  have key : ∃ r, d_check_lot_words.F (tab prg (n+4)) 60 [.dat (.lst (txs ws))] = some r ∧ r = (.dat .non, [.dat (.lst (txs ws))]) := by
    rw [den_check_lot_words]
    have hI := F_is_list (n + 2) (txs ws)
    apply ex_fn
    · walk_at "ev"
    apply ex_fz fz_nil
    apply ex_seq
    · walk_at "ev"
    apply ex_fz fz_nil
    apply ex_seq (e1 := [.dat (.lst (txs ws)), .own (.dic []), .und, .und])
    · rfl
    apply ex_fz fz_nil
    apply ex_for (fun i env => ∃ kd t x, env = [.dat (.lst (txs ws)), .own (.dic kd), t, x] ∧ kd.length ≤ i ∧ ∀ w, hasK kd (.inr (Tx w)) = true → ∃ j, j < i ∧ ws[j]? = some w)
    · apply ev_enum (r := .dat (.lst (txs ws)))
      · walk_at "ev"
      · exact .inl rfl
    · rfl
    · exact ⟨[], _, _, rfl, Nat.le_refl _, fun w h => by simp [hasK] at h⟩
    · rintro i env d hd ⟨kd, t, x, rfl, kl, kh⟩
      obtain ⟨w, hi, rfl⟩ := enum_get hd
      have il : i < ws.length := (List.getElem?_eq_some_iff.mp hi).1
      have hm : w ∈ ws := List.mem_of_getElem? hi
      have hF := F_lot_word n w (hw w hm).1 (hw w hm).2
      have hk : hasK kd (.inr (Tx w)) = false := by
        cases h : hasK kd (.inr (Tx w)) with
        | false => rfl
        | true =>
          obtain ⟨j, h1, h2⟩ := kh w h
          exact absurd ((List.getElem?_inj il nd).mp (hi.trans h2.symm)) (by omega)
      have hin : in2B false (.str (Tx w)) (.dic kd) = some (.dat (.bl (hasK kd (.inr (Tx w))))) := rfl
      rw [hk] at hin
      have kz : kd.length < sizeLine := Nat.lt_of_le_of_lt (show kd.length ≤ 100 by omega) (by decide)
      have hg : gIx2 1 (pVar 3) (.bl true) [.dat (.lst (txs ws)), .own (.dic kd), .dat (.int (i : Nat)), sw w] = some [.dat (.lst (txs ws)), .own (.dic (putKD kd (.inr (Tx w)) (.bl true))), .dat (.int (i : Nat)), sw w] :=
        ev_gixD rfl rfl rfl rfl rfl kz (.succ .zero)
      apply ex_step
      · walk_at "ev"
      · walk_at "ev"
      · refine ⟨_, _, _, rfl, Nat.le_trans put_len (by omega), fun v hv => ?_⟩
        rcases hasK_put hk hv with h | h
        · obtain ⟨j, h1, h2⟩ := kh v h
          exact ⟨j, by omega, h2⟩
        · have : v = w := Tx_inj.mp (Sum.inr.inj h)
          subst this
          exact ⟨i, by omega, hi⟩
    · rintro env ⟨kd, t, x, rfl, _, _⟩
      apply ex_fz (e1 := [.dat (.lst (txs ws)), .dat (.dic kd), t, x])
      · exact fz_own rfl rfl (.succ .zero) fz_nil
      have hlen : lenD [.lst (txs ws)] = some (.dat (.int (ws.length : Nat))) := by
        show some (RV.dat (.int ((txs ws).length : Nat))) = _
        rw [List.length_map]
      have hB : decide ((10 : Int) < (ws.length : Int)) = false := by simp; omega
      apply ex_ret
      · walk_at "ev"
      · rfl
      · rfl
  obtain ⟨r, h, rfl⟩ := key
  exact h
def srt (ws : List (List Nat)) : List (List Nat) := ((ws.map Tx).mergeSort leS).map (·.cps.toList)
theorem srt_perm (ws : List (List Nat)) : (srt ws).Perm ws := by
  have h := (List.mergeSort_perm (ws.map Tx) leS).map (fun s : Str => s.cps.toList)
  rw [List.map_map] at h
  have e : ((fun s : Str => s.cps.toList) ∘ Tx) = id := funext fun w => rfl
  rw [e, List.map_id] at h
  exact h
theorem strs_txs : ∀ ws : List (List Nat), strsD (txs ws) = some (ws.map Tx)
  | [] => rfl
  | w :: ws => by
    show (strsD (txs ws)).map _ = _
    rw [strs_txs ws]; rfl
theorem sortKey_txs {ws : List (List Nat)} (hl : ws.length ≤ 1000) (hw : ∀ w ∈ ws, w.length ≤ 1000) : sortKeyD (.lst (txs ws)) = some (.own (.lst (txs (srt ws)))) := by
  unfold sortKeyD
  dsimp only
  rw [strs_txs, Option.bind_some]
  have hs : shortB (ws.map Tx) = true := by
    unfold shortB
    rw [Bool.and_eq_true, decide_eq_true_eq, List.length_map, List.all_eq_true]
    refine ⟨by omega, fun z hz => ?_⟩
    obtain ⟨w, hm, rfl⟩ := List.mem_map.mp hz
    have := hw w hm
    rw [decide_eq_true_eq, Tx_len]; omega
  rw [if_pos hs]
  have : ((ws.map Tx).mergeSort leS).map D.str = txs (srt ws) := by
    unfold srt txs
    rw [List.map_map]
    exact List.map_congr_left fun s _ => by show D.str s = D.str (Tx s.cps.toList); rw [Tx_of]
  rw [this]
theorem F_seq (n : Nat) (ws : List (List Nat)) (hw : ∀ w ∈ ws, Wd w ∧ w.length ≤ 12) (hl : ws.length ≤ 10) : d_in_sequence.F (tab prg (n+4)) 60 [.dat (.lst (txs ws))] = some (.own (.lst (txs (srt ws))), [.dat (.lst (txs ws))]) := by
  have key : ∃ r, d_in_sequence.F (tab prg (n+4)) 60 [.dat (.lst (txs ws))] = some r ∧ r = (.own (.lst (txs (srt ws))), [.dat (.lst (txs ws))]) := by
    rw [den_in_sequence]
    have hI := F_is_list (n + 2) (txs ws)
    have hS := sortKey_txs (ws := ws) (by omega) fun w h => by have := (hw w h).2; omega
    apply ex_fn
    · walk_at "ev"
    apply ex_seq
    · walk_at "ev"
    apply ex_for (fun i env => ∃ t x, env = [.dat (.lst (txs ws)), t, x])
    · apply ev_enum (r := .dat (.lst (txs ws)))
      · walk_at "ev"
      · exact .inl rfl
    · rfl
    · exact ⟨_, _, rfl⟩
    · rintro i env d hd ⟨t, x, rfl⟩
      obtain ⟨w, hi, rfl⟩ := enum_get hd
      have hm : w ∈ ws := List.mem_of_getElem? hi
      have hF := F_word (n + 1) w (hw w hm).1 (by have := (hw w hm).2; omega)
      apply ex_step
      · walk_at "ev"
      · walk_at "ev"
      · exact ⟨_, _, rfl⟩
    · rintro env ⟨t, x, rfl⟩
      apply ex_ret
      · walk_at "ev"
      · rfl
      · rfl
  obtain ⟨r, h, rfl⟩ := key
  exact h
abbrev lotD (ws : List (List Nat)) : D := .obj 0 [("_words", .lst (txs (srt ws)))]
theorem F_init (n : Nat) (ws : List (List Nat)) (hw : ∀ w ∈ ws, Wd w ∧ w.length ≤ 12) (nd : ws.Nodup) (hl : ws.length ≤ 10) : d_Lot___init__.F (tab prg (n+5)) 60 [.own (.obj 0 []), .dat (.lst (txs ws))] = some (.dat .non, [.own (lotD ws), .dat (.lst (txs ws))]) := by
  have h1 := F_check n ws hw nd hl
  have h2 := F_seq n ws hw hl
  rw [den_Lot___init__]
  walk_at "ev"
theorem F_eq (n : Nat) (ws : List (List Nat)) (hw : ∀ w ∈ ws, Wd w ∧ w.length ≤ 12) : d_Lot___eq__.F (tab prg (n+1)) 60 [.dat (lotD ws), .dat (lotD ws)] = some (.dat (.bl true), [.dat (lotD ws), .dat (lotD ws)]) := by
  have he := eq_txs (ws := srt ws) fun w h => (hw w ((srt_perm ws).mem_iff.mp h)).1.lw
  rw [den_Lot___eq__]
  walk_at "ev"
end K13
end

section
set_option Elab.async false
set_option linter.all false
set_option maxRecDepth 100000
set_option maxHeartbeats 4000000
namespace K13
open PySem L2 Den PyProof.Rows
local macro_rules | `(tactic| walk_at "rf") => `(tactic| first
  | ((with_reducible show RV.cont _ _ = some _); exact rfl)
  | ((with_reducible show RV.dt _ = some _); exact rfl)
  | ((with_reducible show RV.cls _ = _); exact rfl)
  | ((with_reducible show RV.objf _ = _); exact rfl)
  | ((with_reducible show passE _ _ _ = some _); exact rfl)
  | ((with_reducible show BackAt _ _ _ _ _); first | exact BackAt.nil | apply BackAt.dat | apply BackAt.slot | apply BackAt.own)
  | ((with_reducible show onceB _ _ _ = true); exact rfl)
  | ((with_reducible show ownB _ _ _ = true); exact rfl)
  | ((with_reducible show pinned _ _ _ = false); exact rfl)
  | ((with_reducible show dts _ = some _); exact rfl)
  | ((with_reducible show conts _ _ = some _); exact rfl)
  | ((with_reducible show setSV _ _ = some _); exact rfl)
  | ((with_reducible show retK _ _ _ = some _); exact rfl)
  | ((with_reducible show fnK _ _ = some _); exact rfl)
  | ((with_reducible show List.length _ = _); exact rfl)
  | ((with_reducible show pick _ _ = _); exact rfl)
  | ((with_reducible show Nat.ble _ _ = true); exact rfl)
  | ((with_reducible show Nat.blt _ _ = true); exact rfl)
  | ((with_reducible show truthD _ = some _); exact rfl)
  | ((with_reducible show sideB _ _ = true); exact rfl)
  | ((with_reducible show intB _ = true); exact rfl)
  | ((with_reducible show eqSideB _ _ = true); exact rfl)
  | ((with_reducible show itemsD _ = some _); exact rfl)
  | ((with_reducible show putD _ _ _ = _); exact rfl)
  | ((with_reducible show List.lookup _ _ = _); exact rfl)
  | ((with_reducible show getElem? _ _ = some _); exact rfl)
  | with_reducible exact ixN0
  | with_reducible exact ixN1)
local macro_rules | `(tactic| walk_at "ln") => `(tactic| repeat' (first | with_reducible exact Ln.num (by walk_at "bd") | with_reducible exact Ln.lit | with_reducible exact Ln.emp | with_reducible apply Ln.app))
local macro_rules | `(tactic| walk_at "sa") => `(tactic| repeat' (first | with_reducible exact AppAt.nil | with_reducible apply AppAt.cons | with_reducible exact ZipAt.nil | with_reducible apply ZipAt.cons))
local macro_rules | `(tactic| walk_at "pr") => `(tactic| first
  | ((with_reducible apply ev_mul); walk_at "bd")
  | ((with_reducible apply ev_fdiv) <;> walk_at "bd")
  | ((with_reducible apply ev_mod); walk_at "bd")
  | ((with_reducible apply ev_divmod) <;> walk_at "bd")
  | ((with_reducible apply ev_pow) <;> walk_at "bd")
  | ((with_reducible apply ev_addS); exact Ln.ok2 (by walk_at "ln") (by walk_at "ln") rfl)
  | ((with_reducible apply ev_addL); walk_at "sa"; exact rfl)
  | ((with_reducible apply ev_append); walk_at "sa"; exact rfl)
  | ((with_reducible apply ev_strI); walk_at "bd")
  | with_reducible exact ev_twice
  | ((with_reducible apply len_Tx); walk_at "bd")
  | ((with_reducible apply add_Tx); walk_at "bd")
  | with_reducible exact eq_Tx _ _
  | with_reducible exact ne_Tx _ _
  | ((with_reducible apply sl_Tx); walk_at "bd")
  | ((with_reducible show addD _ _ = some _); exact rfl)
  | ((with_reducible show subD _ _ = some _); exact rfl)
  | ((with_reducible show cmpD _ _ _ _ = some _); exact rfl)
  | ((with_reducible show isD _ _ _ = some _); exact rfl)
  | ((with_reducible show ixD _ _ = some _); exact rfl)
  | ((with_reducible show absD _ = some _); exact rfl)
  | ((with_reducible show max2D _ = some _); exact rfl)
  | ((with_reducible show min2D _ = some _); exact rfl)
  | ((with_reducible show int1D _ = some _); exact rfl)
  | ((with_reducible show lenD _ = some _); exact rfl)
  | ((with_reducible show gcdD _ = some _); exact rfl)
  | ((with_reducible show allD _ = some _); exact rfl)
  | ((with_reducible show isi2D _ _ = some _); exact rfl)
  | ((with_reducible show negD _ = some _); exact rfl)
  | ((with_reducible show appendD _ _ = some _); exact rfl)
  | ((with_reducible show eqD _ _ = some _); exact rfl)
  | ((with_reducible show neD _ _ = some _); exact rfl)
  | ((with_reducible show mul3D _ _ = some _); exact rfl))
local macro_rules | `(tactic| walk_at "tt") => `(tactic| first | with_reducible exact bne_self _ | with_reducible assumption | exact rfl | assumption | (simp only [Bool.not_eq_true', Bool.not_eq_false', Bool.not_true, Bool.not_false, decide_eq_true_eq, decide_eq_false_iff_not, beq_iff_eq, bne_iff_ne, beq_eq_false_iff_ne, Bool.and_eq_true, Bool.and_true, Bool.true_and, if_true, Bool.false_eq_true, if_false]; first | done | assumption | omega) | (simp [*]; done))
local macro_rules | `(tactic| walk_at "ev1") => `(tactic| first
  | with_reducible exact ev_c
  | ((with_reducible show some _ = some _); with_reducible exact rfl)
  | ((with_reducible apply ev_vd); exact rfl)
  | ((with_reducible apply ev_vo); exact rfl)
  | ((with_reducible apply ev_vb); exact rfl)
  | with_reducible exact ev_aNil
  | with_reducible apply ev_aCons
  | with_reducible apply ev_aApp
  | with_reducible apply ev_aSel
  | with_reducible apply tail_of
  | with_reducible apply ev_binV
  | ((with_reducible apply binK_l (c := 0)); exact rfl)
  | ((with_reducible apply binK_r (c := 0)); exact rfl; exact rfl)
  | ((with_reducible apply binK_d); exact rfl; exact rfl)
  | with_reducible apply ev_bin
  | with_reducible apply ev_unV
  | ((with_reducible apply unK_l (c := 0)); exact rfl)
  | ((with_reducible apply unK_d); exact rfl)
  | with_reducible apply ev_cmpV
  | ((with_reducible apply cmpK_l (c := 0)); exact rfl)
  | ((with_reducible apply cmpK_d); exact rfl)
  | with_reducible apply ev_attrV
  | ((with_reducible apply attrK_l (c := 0)); exact rfl; walk_at "tb")
  | ((with_reducible apply attrK_f (c := 0)); exact rfl; walk_at "tb")
  | ((with_reducible apply attrK_s); exact rfl)
  | with_reducible apply fldV_of
  | with_reducible apply ev_reprV
  | ((with_reducible apply reprK_l (c := 0)); exact rfl)
  | ((with_reducible apply reprK_d); exact rfl)
  | with_reducible apply ev_fnS
  | with_reducible apply ev_cm
  | with_reducible apply ev_mkS
  | with_reducible apply ev_methS
  | with_reducible apply ev_call
  | with_reducible apply ev_tup
  | with_reducible apply ev_lst
  | with_reducible apply ev_not
  | ((with_reducible apply iteK_t); walk_at "tt")
  | ((with_reducible apply iteK_f); walk_at "tt")
  | with_reducible apply ev_if
  | with_reducible apply ev_and
  | with_reducible apply ev_or
  | with_reducible apply ev_bVal
  | with_reducible apply ev_bTruth
  | with_reducible apply ev_bNot
  | with_reducible apply ev_bAnd
  | with_reducible apply ev_bOr)
local macro_rules | `(tactic| walk_at "ev2") => `(tactic| first
  | with_reducible apply ev_seq
  | with_reducible apply seqK_nx
  | ((with_reducible show seqK _ _ = some _); exact rfl)
  | with_reducible apply ev_set
  | with_reducible apply ev_sif
  | with_reducible apply ev_ret
  | with_reducible exact ev_snil
  | with_reducible apply ev_par2
  | with_reducible apply ev_par3
  | with_reducible apply ev_asg
  | with_reducible apply ev_exp
  | with_reducible apply ev_mut
  | with_reducible apply ev_fld
  | with_reducible apply ev_gset
  | with_reducible apply ev_gtup
  | with_reducible apply ev_gsc
  | with_reducible exact ev_gsn
  | with_reducible apply ev_gix
  | with_reducible exact SetAt.zero
  | with_reducible apply SetAt.succ
  | with_reducible exact Pad.nil
  | with_reducible apply Pad.dat
  | with_reducible apply Pad.own
  | with_reducible apply Pad.bor
  | with_reducible apply Pad.und
  | with_reducible exact WipeAt.nil
  | with_reducible apply WipeAt.cons
  | with_reducible exact fz_nil
  | ((with_reducible apply fz_own); exact rfl)
  | with_reducible apply ev_fz
  | with_reducible apply ev_lc
  | with_reducible exact lc_nil
  | with_reducible apply lc_cons
  | with_reducible apply ev_zipA
  | with_reducible exact ZipAt.nil
  | with_reducible apply ZipAt.cons
  | with_reducible exact ev_jsN
  | with_reducible apply ev_jsC
  | ((with_reducible show _ ≤ sizeLine); exact Ln.ok (by walk_at "ln") rfl)
  | ((with_reducible show Nat.log2 _ < 1920); walk_at "bd")
  | with_reducible apply ev_fmtI
  | with_reducible apply ev_walkV
  | with_reducible apply ev_chainT
  | with_reducible exact ev_oN
  | with_reducible apply ev_oS
  | with_reducible apply ev_sl
  | with_reducible apply ev_m1
  | with_reducible apply ev_sortKey
  | ((with_reducible apply ev_mut0); exact rfl)
  | with_reducible apply ev_rng1
  | with_reducible apply ev_fn)
local macro_rules | `(tactic| walk_at "ev") => `(tactic| repeat' (first | walk_at "rf" | walk_at "ev1" | walk_at "ev2" | walk_at "tb" | walk_at "call" | walk_at "pr"))
local macro_rules | `(tactic| walk_at "bd") => `(tactic| first | assumption | decide | omega)
local macro_rules | `(tactic| walk_at "tb") => `(tactic| first | with_reducible exact tb_0 _ | with_reducible exact tb_1 _ | with_reducible exact tb_2 _ | with_reducible exact tb_3 _ | with_reducible exact tb_4 _ | with_reducible exact tb_5 _ | with_reducible exact tb_6 _)
local macro_rules | `(tactic| walk_at "call") => `(tactic| with_reducible assumption)
local macro_rules | `(tactic| walk_at "ev") => `(tactic| repeat' (first | walk_at "call" | walk_at "rf" | walk_at "ev1" | walk_at "ev2" | walk_at "tb" | walk_at "pr"))
/-- the law's bridges -/
def due (ws : List (List Nat)) (q : List Nat) : List D := (links ws q).mergeSort leD
theorem sizes {a b : Nat} (h : a ≤ b) (hb : b ≤ 1000) : a ≤ sizeLine := Nat.le_trans h (Nat.le_trans hb (by decide))
theorem tris_lc {q w : List Nat} (a b : SV) (n : Nat) (hy : w.length ≤ 1000) (l : List Nat) : lcF [4] (gSet 0 4) (fun env => some (true, env)) (pTup (aCons (pVar 4) (aCons (pBinV ((tab prg (n+1)).binL "add") ((tab prg (n+1)).binR "add") addD (pVar 4) (pCall lenD (aCons (pVar 3) aNil))) (aCons (pVar 3) aNil)))) (natsD l) [a, sw q, b, sw w, .und] = some (l.map fun k => tri k w, [a, sw q, b, sw w, .und]) := by
  have hz : w.length ≤ sizeLine := sizes hy (Nat.le_refl _)
  induction l with
  | nil => rfl
  | cons k l ih =>
    show lcF _ _ _ _ (.int (k : Int) :: natsD l) _ = some (tri k w :: _, _)
    unfold tri
    apply lc_cons
    · walk_at "ev"
    · rfl
    · walk_at "ev"
    · rfl
    · walk_at "ev"
    · exact ih
theorem links_small {ws : List (List Nat)} {q : List Nat} (hl : ws.length ≤ 10) (hq : q.length ≤ 24) : (links ws q).length ≤ 240 := Nat.le_trans (links_len ws q) (Nat.mul_le_mul hl hq)
theorem sorted_links {ws : List (List Nat)} {q : List Nat} (hl : ws.length ≤ 10) (hq : q.length ≤ 24) : sortedD [.lst (links ws q)] = some (.own (.lst (due ws q))) :=
  sorted_tri (links_tri hq) (Nat.le_trans (links_small hl hq) (by decide))
theorem F_links (n : Nat) (ws : List (List Nat)) (q : List Nat) (hq : q.length ≤ 24) (hw : ∀ w ∈ ws, Wd w ∧ w.length ≤ 12) (hl : ws.length ≤ 10) : d__law_links.F (tab prg (n+2)) 60 [.dat (.lst (txs ws)), sw q] = some (.own (.lst (due ws q)), [.dat (.lst (txs ws)), sw q]) := by
  have key : ∃ r, d__law_links.F (tab prg (n+2)) 60 [.dat (.lst (txs ws)), sw q] = some r ∧ r = (.own (.lst (due ws q)), [.dat (.lst (txs ws)), sw q]) := by
    rw [den__law_links]
    apply ex_fn
    · walk_at "ev"
    apply ex_fz fz_nil
    apply ex_seq
    · walk_at "ev"
    apply ex_fz fz_nil
    apply ex_for (fun i env => ∃ t x, env = [.dat (.lst (txs ws)), sw q, .own (.lst (links (ws.take i) q)), t, x] ∧ (t = .und ∨ x = .und))
    · apply ev_walkV
      · walk_at "ev"
      · rfl
    · rfl
    · exact ⟨_, _, rfl, .inl rfl⟩
    · rintro i env d hd ⟨t, x, rfl, _⟩
      rw [List.getElem?_map, Option.map_eq_some_iff] at hd
      obtain ⟨w, hi, rfl⟩ := hd
      have il : i < ws.length := (List.getElem?_eq_some_iff.mp hi).1
      have hm : w ∈ ws := List.mem_of_getElem? hi
      have hF := F_found n q w hq (hw w hm).1 (by have := (hw w hm).2; omega)
      have hlc := tris_lc (q := q) (w := w) (.dat (.lst (txs ws))) (.own (.lst (links (ws.take i) q))) (n + 1) (by have := (hw w hm).2; omega) (fnd q w)
      have e : links (ws.take (i + 1)) q = links (ws.take i) q ++ trisOf q w := by
        unfold links
        have := (List.getElem?_eq_some_iff.mp hi).2
        rw [List.take_succ_eq_append_getElem il, List.flatMap_append, this]
        simp
      have hx : extendD (.lst (links (ws.take i) q)) [.lst ((fnd q w).map fun k => tri k w)] = some (.non, .lst (links (ws.take (i + 1)) q)) := by
        unfold extendD
        dsimp only
        have h1 := links_small (ws := ws.take i) (q := q) (by rw [List.length_take]; omega) hq
        have h2 := fnd_len q w
        rw [if_pos (sizes (b := 1000) (by rw [List.length_map]; omega) (Nat.le_refl _)), e]; rfl
      have hb : Nat.ble (natsD (fnd q w)).length sizeLine = true := by
        unfold natsD
        rw [List.length_map]; exact Nat.ble_eq_true_of_le (sizes (fnd_len q w) (by omega))
      refine ⟨[.dat (.lst (txs ws)), sw q, .own (.lst (links (ws.take i) q)), sw w, x], [.dat (.lst (txs ws)), sw q, .own (.lst (links (ws.take (i+1)) q)), sw w, .und], ?_, ?_, ?_⟩
      · walk_at "ev"
      · walk_at "ev"
      · exact ⟨_, _, rfl, .inr rfl⟩
    · rintro env ⟨t, x, rfl, _⟩
      have e : ws.take (List.map (fun w => D.str (Tx w)) ws).length = ws := by rw [List.length_map, List.take_length]
      rw [e]
      apply ex_fz (e1 := [.dat (.lst (txs ws)), sw q, .dat (.lst (links ws q)), t, x])
      · exact fz_own rfl rfl (.succ (.succ .zero)) fz_nil
      have hs := sorted_links hl hq
      apply ex_ret
      · walk_at "ev"
      · rfl
      · rfl
  obtain ⟨r, h, rfl⟩ := key
  exact h
end K13
end

section
set_option Elab.async false
set_option linter.all false
set_option maxRecDepth 100000
set_option maxHeartbeats 4000000
namespace K13
open PySem L2 Den PyProof.Rows
local macro_rules | `(tactic| walk_at "rf") => `(tactic| first
  | ((with_reducible show RV.cont _ _ = some _); exact rfl)
  | ((with_reducible show RV.dt _ = some _); exact rfl)
  | ((with_reducible show RV.cls _ = _); exact rfl)
  | ((with_reducible show RV.objf _ = _); exact rfl)
  | ((with_reducible show passE _ _ _ = some _); exact rfl)
  | ((with_reducible show BackAt _ _ _ _ _); first | exact BackAt.nil | apply BackAt.dat | apply BackAt.slot | apply BackAt.own)
  | ((with_reducible show onceB _ _ _ = true); exact rfl)
  | ((with_reducible show ownB _ _ _ = true); exact rfl)
  | ((with_reducible show pinned _ _ _ = false); exact rfl)
  | ((with_reducible show dts _ = some _); exact rfl)
  | ((with_reducible show conts _ _ = some _); exact rfl)
  | ((with_reducible show setSV _ _ = some _); exact rfl)
  | ((with_reducible show retK _ _ _ = some _); exact rfl)
  | ((with_reducible show fnK _ _ = some _); exact rfl)
  | ((with_reducible show List.length _ = _); exact rfl)
  | ((with_reducible show pick _ _ = _); exact rfl)
  | ((with_reducible show Nat.ble _ _ = true); exact rfl)
  | ((with_reducible show Nat.blt _ _ = true); exact rfl)
  | ((with_reducible show truthD _ = some _); exact rfl)
  | ((with_reducible show sideB _ _ = true); exact rfl)
  | ((with_reducible show intB _ = true); exact rfl)
  | ((with_reducible show eqSideB _ _ = true); exact rfl)
  | ((with_reducible show itemsD _ = some _); exact rfl)
  | ((with_reducible show putD _ _ _ = _); exact rfl)
  | ((with_reducible show List.lookup _ _ = _); exact rfl)
  | ((with_reducible show getElem? _ _ = some _); exact rfl)
  | with_reducible exact ixN0
  | with_reducible exact ixN1)
local macro_rules | `(tactic| walk_at "ln") => `(tactic| repeat' (first | with_reducible exact Ln.num (by walk_at "bd") | with_reducible exact Ln.lit | with_reducible exact Ln.emp | with_reducible apply Ln.app))
local macro_rules | `(tactic| walk_at "sa") => `(tactic| repeat' (first | with_reducible exact AppAt.nil | with_reducible apply AppAt.cons | with_reducible exact ZipAt.nil | with_reducible apply ZipAt.cons))
local macro_rules | `(tactic| walk_at "pr") => `(tactic| first
  | ((with_reducible apply ev_mul); walk_at "bd")
  | ((with_reducible apply ev_fdiv) <;> walk_at "bd")
  | ((with_reducible apply ev_mod); walk_at "bd")
  | ((with_reducible apply ev_divmod) <;> walk_at "bd")
  | ((with_reducible apply ev_pow) <;> walk_at "bd")
  | ((with_reducible apply ev_addS); exact Ln.ok2 (by walk_at "ln") (by walk_at "ln") rfl)
  | ((with_reducible apply ev_addL); walk_at "sa"; exact rfl)
  | ((with_reducible apply ev_append); walk_at "sa"; exact rfl)
  | ((with_reducible apply ev_strI); walk_at "bd")
  | with_reducible exact ev_twice
  | ((with_reducible apply len_Tx); walk_at "bd")
  | ((with_reducible apply add_Tx); walk_at "bd")
  | with_reducible exact eq_Tx _ _
  | with_reducible exact ne_Tx _ _
  | ((with_reducible apply sl_Tx); walk_at "bd")
  | ((with_reducible show addD _ _ = some _); exact rfl)
  | ((with_reducible show subD _ _ = some _); exact rfl)
  | ((with_reducible show cmpD _ _ _ _ = some _); exact rfl)
  | ((with_reducible show isD _ _ _ = some _); exact rfl)
  | ((with_reducible show ixD _ _ = some _); exact rfl)
  | ((with_reducible show absD _ = some _); exact rfl)
  | ((with_reducible show max2D _ = some _); exact rfl)
  | ((with_reducible show min2D _ = some _); exact rfl)
  | ((with_reducible show int1D _ = some _); exact rfl)
  | ((with_reducible show lenD _ = some _); exact rfl)
  | ((with_reducible show gcdD _ = some _); exact rfl)
  | ((with_reducible show allD _ = some _); exact rfl)
  | ((with_reducible show isi2D _ _ = some _); exact rfl)
  | ((with_reducible show negD _ = some _); exact rfl)
  | ((with_reducible show appendD _ _ = some _); exact rfl)
  | ((with_reducible show eqD _ _ = some _); exact rfl)
  | ((with_reducible show neD _ _ = some _); exact rfl)
  | ((with_reducible show mul3D _ _ = some _); exact rfl))
local macro_rules | `(tactic| walk_at "tt") => `(tactic| first | with_reducible exact bne_self _ | with_reducible assumption | exact rfl | assumption | (simp only [Bool.not_eq_true', Bool.not_eq_false', Bool.not_true, Bool.not_false, decide_eq_true_eq, decide_eq_false_iff_not, beq_iff_eq, bne_iff_ne, beq_eq_false_iff_ne, Bool.and_eq_true, Bool.and_true, Bool.true_and, if_true, Bool.false_eq_true, if_false]; first | done | assumption | omega) | (simp [*]; done))
local macro_rules | `(tactic| walk_at "ev1") => `(tactic| first
  | with_reducible exact ev_c
  | ((with_reducible show some _ = some _); with_reducible exact rfl)
  | ((with_reducible apply ev_vd); exact rfl)
  | ((with_reducible apply ev_vo); exact rfl)
  | ((with_reducible apply ev_vb); exact rfl)
  | with_reducible exact ev_aNil
  | with_reducible apply ev_aCons
  | with_reducible apply ev_aApp
  | with_reducible apply ev_aSel
  | with_reducible apply tail_of
  | with_reducible apply ev_binV
  | ((with_reducible apply binK_l (c := 0)); exact rfl)
  | ((with_reducible apply binK_r (c := 0)); exact rfl; exact rfl)
  | ((with_reducible apply binK_d); exact rfl; exact rfl)
  | with_reducible apply ev_bin
  | with_reducible apply ev_unV
  | ((with_reducible apply unK_l (c := 0)); exact rfl)
  | ((with_reducible apply unK_d); exact rfl)
  | with_reducible apply ev_cmpV
  | ((with_reducible apply cmpK_l (c := 0)); exact rfl)
  | ((with_reducible apply cmpK_d); exact rfl)
  | with_reducible apply ev_attrV
  | ((with_reducible apply attrK_l (c := 0)); exact rfl; walk_at "tb")
  | ((with_reducible apply attrK_f (c := 0)); exact rfl; walk_at "tb")
  | ((with_reducible apply attrK_s); exact rfl)
  | with_reducible apply fldV_of
  | with_reducible apply ev_reprV
  | ((with_reducible apply reprK_l (c := 0)); exact rfl)
  | ((with_reducible apply reprK_d); exact rfl)
  | with_reducible apply ev_fnS
  | with_reducible apply ev_cm
  | with_reducible apply ev_mkS
  | with_reducible apply ev_methS
  | with_reducible apply ev_call
  | with_reducible apply ev_tup
  | with_reducible apply ev_lst
  | with_reducible apply ev_not
  | ((with_reducible apply iteK_t); walk_at "tt")
  | ((with_reducible apply iteK_f); walk_at "tt")
  | with_reducible apply ev_if
  | with_reducible apply ev_and
  | with_reducible apply ev_or
  | with_reducible apply ev_bVal
  | with_reducible apply ev_bTruth
  | with_reducible apply ev_bNot
  | with_reducible apply ev_bAnd
  | with_reducible apply ev_bOr)
local macro_rules | `(tactic| walk_at "ev2") => `(tactic| first
  | with_reducible apply ev_seq
  | with_reducible apply seqK_nx
  | ((with_reducible show seqK _ _ = some _); exact rfl)
  | with_reducible apply ev_set
  | with_reducible apply ev_sif
  | with_reducible apply ev_ret
  | with_reducible exact ev_snil
  | with_reducible apply ev_par2
  | with_reducible apply ev_par3
  | with_reducible apply ev_asg
  | with_reducible apply ev_exp
  | with_reducible apply ev_mut
  | with_reducible apply ev_fld
  | with_reducible apply ev_gset
  | with_reducible apply ev_gtup
  | with_reducible apply ev_gsc
  | with_reducible exact ev_gsn
  | with_reducible apply ev_gix
  | with_reducible exact SetAt.zero
  | with_reducible apply SetAt.succ
  | with_reducible exact Pad.nil
  | with_reducible apply Pad.dat
  | with_reducible apply Pad.own
  | with_reducible apply Pad.bor
  | with_reducible apply Pad.und
  | with_reducible exact WipeAt.nil
  | with_reducible apply WipeAt.cons
  | with_reducible exact fz_nil
  | ((with_reducible apply fz_own); exact rfl)
  | with_reducible apply ev_fz
  | with_reducible apply ev_lc
  | with_reducible exact lc_nil
  | with_reducible apply lc_cons
  | with_reducible apply ev_zipA
  | with_reducible exact ZipAt.nil
  | with_reducible apply ZipAt.cons
  | with_reducible exact ev_jsN
  | with_reducible apply ev_jsC
  | ((with_reducible show _ ≤ sizeLine); exact Ln.ok (by walk_at "ln") rfl)
  | ((with_reducible show Nat.log2 _ < 1920); walk_at "bd")
  | with_reducible apply ev_fmtI
  | with_reducible apply ev_walkV
  | with_reducible apply ev_chainT
  | with_reducible exact ev_oN
  | with_reducible apply ev_oS
  | with_reducible apply ev_sl
  | with_reducible apply ev_m1
  | with_reducible apply ev_sortKey
  | ((with_reducible apply ev_mut0); exact rfl)
  | with_reducible apply ev_rng1
  | with_reducible apply ev_fn)
local macro_rules | `(tactic| walk_at "ev") => `(tactic| repeat' (first | walk_at "rf" | walk_at "ev1" | walk_at "ev2" | walk_at "tb" | walk_at "call" | walk_at "pr"))
local macro_rules | `(tactic| walk_at "bd") => `(tactic| first | assumption | decide | omega)
local macro_rules | `(tactic| walk_at "tb") => `(tactic| first | with_reducible exact tb_0 _ | with_reducible exact tb_1 _ | with_reducible exact tb_2 _ | with_reducible exact tb_3 _ | with_reducible exact tb_4 _ | with_reducible exact tb_5 _ | with_reducible exact tb_6 _)
local macro_rules | `(tactic| walk_at "call") => `(tactic| with_reducible assumption)
local macro_rules | `(tactic| walk_at "ev") => `(tactic| repeat' (first | walk_at "call" | walk_at "rf" | walk_at "ev1" | walk_at "ev2" | walk_at "tb" | walk_at "pr"))
def fB (q : List Nat) : D → List D
  | .str z => trisOf q z.cps.toList
  | _ => []
theorem flat_fB (q : List Nat) : ∀ ws : List (List Nat), (txs ws).flatMap (fB q) = links ws q
  | [] => rfl
  | w :: ws => by
    show fB q (.str (Tx w)) ++ (txs ws).flatMap (fB q) = trisOf q w ++ links ws q
    rw [flat_fB q ws]; rfl
theorem tris_lc2 {q w : List Nat} (a : SV) (n : Nat) (hy : w.length ≤ 1000) (l : List Nat) : lcF [3] (gSet 0 3) (fun env => some (true, env)) (pTup (aCons (pVar 3) (aCons (pBinV ((tab prg (n+1)).binL "add") ((tab prg (n+1)).binR "add") addD (pVar 3) (pCall lenD (aCons (pVar 2) aNil))) (aCons (pVar 2) aNil)))) (natsD l) [a, sw q, sw w, .und] = some (l.map fun k => tri k w, [a, sw q, sw w, .und]) := by
  have hz : w.length ≤ sizeLine := sizes hy (Nat.le_refl _)
  induction l with
  | nil => rfl
  | cons k l ih =>
    show lcF _ _ _ _ (.int (k : Int) :: natsD l) _ = some (tri k w :: _, _)
    unfold tri
    apply lc_cons
    · walk_at "ev"
    · rfl
    · walk_at "ev"
    · rfl
    · walk_at "ev"
    · exact ih
theorem F_bridges (n : Nat) (ws : List (List Nat)) (q : List Nat) (hq : Wd q) (ql : q.length ≤ 24) (hw : ∀ w ∈ ws, Wd w ∧ w.length ≤ 12) (hl : ws.length ≤ 10) : d_bridges.F (tab prg (n+6)) 60 [.dat (lotD ws), sw q] = some (.own (.lst (due ws q)), [.dat (lotD ws), sw q]) := by
  have hF := F_check_question (n + 1) q hq ql
  have hp := srt_perm ws
  have hs : sortedD [.lst (links (srt ws) q)] = some (.own (.lst (due ws q))) := by
    unfold due
    rw [← sort_links hp ql]
    exact sorted_links (by rw [hp.length_eq]; exact hl) ql
  have hlc : lcF2 [2, 3] [3] (gSet 0 2) (fun env => some (true, env)) (iWalkV (tab prg (n+6)).own (pFnS [false, false] (d_found_at.F (tab prg (n+5)) 60) ⟨2, [], [0, 1]⟩ [] (aCons (pVar 1) (aCons (pVar 2) aNil)) aNil)) (gSet 0 3) (fun env => some (true, env)) (pTup (aCons (pVar 3) (aCons (pBinV ((tab prg (n+6)).binL "add") ((tab prg (n+6)).binR "add") addD (pVar 3) (pCall lenD (aCons (pVar 2) aNil))) (aCons (pVar 2) aNil)))) (txs (srt ws)) [.dat (lotD ws), sw q, .und, .und] = some (links (srt ws) q, [.dat (lotD ws), sw q, .und, .und]) := by
    rw [← flat_fB]
    refine lc2_flat _ fun d hd => ?_
    obtain ⟨w, hm, rfl⟩ := List.mem_map.mp hd
    have hm' := hw w (hp.mem_iff.mp hm)
    have h1 := F_found_at n q w hq ql hm'.1 (by have := hm'.2; omega)
    have h2 := tris_lc2 (q := q) (w := w) (.dat (lotD ws)) (n + 5) (by have := hm'.2; omega) (fnd q w)
    refine ⟨[.dat (lotD ws), sw q, sw w, .und], _, natsD (fnd q w), [.dat (lotD ws), sw q, sw w, .und], [.dat (lotD ws), sw q, sw w, .und], [.dat (lotD ws), sw q, sw w, .und], ?_, rfl, rfl, ?_, ?_, h2, ?_⟩
    · walk_at "ev"
    · apply ev_walkV
      · walk_at "ev"
      · rfl
    · walk_at "ev"
    · walk_at "ev"
  have hz : (links (srt ws) q).length ≤ sizeLine := sizes (links_small (by rw [hp.length_eq]; exact hl) ql) (by decide)
  have hx : pLc2 [2, 3] [3] (iWalkV (tab prg (n+6)).own (pVar 0)) (gSet 0 2) (fun env => some (true, env)) (iWalkV (tab prg (n+6)).own (pFnS [false, false] (d_found_at.F (tab prg (n+5)) 60) ⟨2, [], [0, 1]⟩ [] (aCons (pVar 1) (aCons (pVar 2) aNil)) aNil)) (gSet 0 3) (fun env => some (true, env)) (pTup (aCons (pVar 3) (aCons (pBinV ((tab prg (n+6)).binL "add") ((tab prg (n+6)).binR "add") addD (pVar 3) (pCall lenD (aCons (pVar 2) aNil))) (aCons (pVar 2) aNil)))) [.dat (lotD ws), sw q, .und, .und] = some (.own (.lst (links (srt ws) q)), [.dat (lotD ws), sw q, .und, .und]) := by
    apply ev_lc2
    · apply ev_walkO
      · walk_at "ev"
      · rfl
      · rfl
      · exact tb_6 _
      · rfl
    · walk_at "ev"
    · exact hlc
    · exact hz
  rw [den_bridges]
  walk_at "ev"
/-! at a place -/
def fP (k : Nat) : D → Option D
  | .tup [.int i, .int j, x] => if (i == (k : Int) || (j == (k : Int) || false)) = true then some (.tup [.int i, .int j, x]) else none
  | _ => none
theorem sl_tri {i j x : D} : slD (.tup [i, j, x]) none (some 2) = some (.dat (.tup [i, j])) := rfl
theorem in_pair (i j k : Int) : in2B false (.int k) (.tup [.int i, .int j]) = some (.dat (.bl (i == k || (j == k || false)))) := rfl
theorem fP_some {k t : Nat} {w : List Nat} (h : (((t : Int)) == (k : Int) || (((t : Int) + (w.length : Int)) == (k : Int) || false)) = true) : fP k (tri t w) = some (tri t w) := by
  unfold tri fP
  dsimp only
  rw [if_pos h]
theorem fP_none {k t : Nat} {w : List Nat} (h : (((t : Int)) == (k : Int) || (((t : Int) + (w.length : Int)) == (k : Int) || false)) = false) : fP k (tri t w) = none := by
  unfold tri fP
  dsimp only
  rw [h]; rfl
theorem due_tri {ws : List (List Nat)} {q : List Nat} (hq : q.length ≤ 24) (hw : ∀ w ∈ ws, Lw w) : ∀ d ∈ due ws q, Tri d ∧ ∃ k w, d = tri k w ∧ k + w.length ≤ 24 ∧ Lw w := by
  intro d hd
  have hd := (List.mergeSort_perm (links ws q) leD).mem_iff.mp hd
  refine ⟨links_tri hq d hd, ?_⟩
  obtain ⟨w, hm, h⟩ := List.mem_flatMap.mp hd
  obtain ⟨k, hk, rfl⟩ := List.mem_map.mp h
  obtain ⟨h1, h2⟩ := fnd_mem hk
  have := congrArg List.length h2
  rw [List.length_take, List.length_drop] at this
  exact ⟨k, w, rfl, by omega, hw w hm⟩
theorem due_len {ws : List (List Nat)} {q : List Nat} (hl : ws.length ≤ 10) (hq : q.length ≤ 24) : (due ws q).length ≤ 240 := by
  unfold due
  rw [List.length_mergeSort]; exact links_small hl hq
theorem fP_mem {k : Nat} {ds : List D} {d : D} (h : ∀ d ∈ ds, Tri d ∧ ∃ k w, d = tri k w ∧ k + w.length ≤ 24 ∧ Lw w) (hd : d ∈ ds.filterMap (fP k)) : d ∈ ds := by
  obtain ⟨x, hx, e⟩ := List.mem_filterMap.mp hd
  obtain ⟨_, t, w, rfl, _⟩ := h x hx
  cases hb : (((t : Int)) == (k : Int) || (((t : Int) + (w.length : Int)) == (k : Int) || false)) with
  | true => rw [fP_some hb] at e; cases e; exact hx
  | false => rw [fP_none hb] at e; cases e
theorem F_is_place (n : Nat) (q : List Nat) (k : Nat) (ql : q.length ≤ 24) (hk : k ≤ q.length) : d_is_place.F (tab prg (n+2)) 60 [sw q, .dat (.int (k : Int))] = some (.dat (.bl true), [sw q, .dat (.int (k : Int))]) := by
  have hz : q.length ≤ sizeLine := sizes ql (by decide)
  have h0 : d_is_integer.F (tab prg (n+1)) 60 [.dat (.int (k : Int))] = some (.dat (.bl true), [.dat (.int (k : Int))]) := by
    rw [den_is_integer]
    walk_at "ev"
  have h1 : cmpD (fun i j => decide (i ≤ j)) (fun i j => !ltS j i) (.int 0) (.int (k : Int)) = some (.dat (.bl true)) := by
    show some (RV.dat (.bl (decide ((0 : Int) ≤ (k : Int))))) = _
    rw [decide_eq_true (by omega)]
  have h2 : cmpD (fun i j => decide (i ≤ j)) (fun i j => !ltS j i) (.int (k : Int)) (.int (q.length : Nat)) = some (.dat (.bl true)) := by
    show some (RV.dat (.bl (decide ((k : Int) ≤ (q.length : Int))))) = _
    rw [decide_eq_true (by omega)]
  rw [den_is_place]
  walk_at "ev"
theorem F_check_place (n : Nat) (q : List Nat) (k : Nat) (ql : q.length ≤ 24) (hk : k ≤ q.length) : d_check_place.F (tab prg (n+3)) 60 [sw q, .dat (.int (k : Int))] = some (.dat .non, [sw q, .dat (.int (k : Int))]) := by
  have h0 := F_is_place n q k ql hk
  rw [den_check_place]
  walk_at "ev"
theorem F_bridges_at (n : Nat) (ws : List (List Nat)) (q : List Nat) (k : Nat) (hq : Wd q) (ql : q.length ≤ 24) (hk : k ≤ q.length) (hw : ∀ w ∈ ws, Wd w ∧ w.length ≤ 12) (hl : ws.length ≤ 10) : d_bridges_at.F (tab prg (n+7)) 60 [.dat (lotD ws), sw q, .dat (.int (k : Int))] = some (.own (.lst ((due ws q).filterMap (fP k))), [.dat (lotD ws), sw q, .dat (.int (k : Int))]) := by
  have h1 := F_check_question (n + 2) q hq ql
  have h2 := F_check_place (n + 3) q k ql hk
  have h3 := F_bridges n ws q hq ql hw hl
  have hb : Nat.ble (due ws q).length sizeLine = true := Nat.ble_eq_true_of_le (sizes (due_len hl ql) (by decide))
  have hi : itemsD (.own (.lst (due ws q))) = some (due ws q) := rfl
  have hlc : lcF [3] (gSet 0 3) (bVal (pBin (in2B false) (pVar 2) (pSl (pVar 3) oNone (oSome (pC (.int (2))))))) (pVar 3) (due ws q) [.dat (lotD ws), sw q, .dat (.int (k : Int)), .und] = some ((due ws q).filterMap (fP k), [.dat (lotD ws), sw q, .dat (.int (k : Int)), .und]) := by
    refine lc_filt _ fun d hd => ?_
    obtain ⟨_, t, w, rfl, _⟩ := due_tri ql (fun w h => (hw w h).1.lw) d hd
    have hs := sl_tri (i := .int (t : Int)) (j := .int ((t : Int) + (w.length : Int))) (x := .str (Tx w))
    have hp := in_pair (t : Int) ((t : Int) + (w.length : Int)) (k : Int)
    refine ⟨[.dat (lotD ws), sw q, .dat (.int (k : Int)), .dat (tri t w)], ((t : Int) == (k : Int) || (((t : Int) + (w.length : Int)) == (k : Int) || false)), [.dat (lotD ws), sw q, .dat (.int (k : Int)), .dat (tri t w)], ?_, ?_, ?_⟩
    · walk_at "ev"
    · unfold tri
      walk_at "ev"
    · cases hB : ((t : Int) == (k : Int) || (((t : Int) + (w.length : Int)) == (k : Int) || false)) with
      | true =>
        refine .inl ⟨rfl, .dat (tri t w), [.dat (lotD ws), sw q, .dat (.int (k : Int)), .dat (tri t w)], tri t w, rfl, rfl, ?_, fP_some hB⟩
        walk_at "ev"
      | false =>
        refine .inr ⟨rfl, ?_, fP_none hB⟩
        walk_at "ev"
  rw [den_bridges_at]
  walk_at "ev"
end K13
end

section
set_option Elab.async false
set_option linter.all false
set_option maxRecDepth 100000
set_option maxHeartbeats 4000000
namespace K13
open PySem L2 Den PyProof.Rows
local macro_rules | `(tactic| walk_at "rf") => `(tactic| first
  | ((with_reducible show RV.cont _ _ = some _); exact rfl)
  | ((with_reducible show RV.dt _ = some _); exact rfl)
  | ((with_reducible show RV.cls _ = _); exact rfl)
  | ((with_reducible show RV.objf _ = _); exact rfl)
  | ((with_reducible show passE _ _ _ = some _); exact rfl)
  | ((with_reducible show BackAt _ _ _ _ _); first | exact BackAt.nil | apply BackAt.dat | apply BackAt.slot | apply BackAt.own)
  | ((with_reducible show onceB _ _ _ = true); exact rfl)
  | ((with_reducible show ownB _ _ _ = true); exact rfl)
  | ((with_reducible show pinned _ _ _ = false); exact rfl)
  | ((with_reducible show dts _ = some _); exact rfl)
  | ((with_reducible show conts _ _ = some _); exact rfl)
  | ((with_reducible show setSV _ _ = some _); exact rfl)
  | ((with_reducible show retK _ _ _ = some _); exact rfl)
  | ((with_reducible show fnK _ _ = some _); exact rfl)
  | ((with_reducible show List.length _ = _); exact rfl)
  | ((with_reducible show pick _ _ = _); exact rfl)
  | ((with_reducible show Nat.ble _ _ = true); exact rfl)
  | ((with_reducible show Nat.blt _ _ = true); exact rfl)
  | ((with_reducible show truthD _ = some _); exact rfl)
  | ((with_reducible show sideB _ _ = true); exact rfl)
  | ((with_reducible show intB _ = true); exact rfl)
  | ((with_reducible show eqSideB _ _ = true); exact rfl)
  | ((with_reducible show itemsD _ = some _); exact rfl)
  | ((with_reducible show putD _ _ _ = _); exact rfl)
  | ((with_reducible show List.lookup _ _ = _); exact rfl)
  | ((with_reducible show getElem? _ _ = some _); exact rfl)
  | with_reducible exact ixN0
  | with_reducible exact ixN1)
local macro_rules | `(tactic| walk_at "ln") => `(tactic| repeat' (first | with_reducible exact Ln.num (by walk_at "bd") | with_reducible exact Ln.lit | with_reducible exact Ln.emp | with_reducible apply Ln.app))
local macro_rules | `(tactic| walk_at "sa") => `(tactic| repeat' (first | with_reducible exact AppAt.nil | with_reducible apply AppAt.cons | with_reducible exact ZipAt.nil | with_reducible apply ZipAt.cons))
local macro_rules | `(tactic| walk_at "pr") => `(tactic| first
  | ((with_reducible apply ev_mul); walk_at "bd")
  | ((with_reducible apply ev_fdiv) <;> walk_at "bd")
  | ((with_reducible apply ev_mod); walk_at "bd")
  | ((with_reducible apply ev_divmod) <;> walk_at "bd")
  | ((with_reducible apply ev_pow) <;> walk_at "bd")
  | ((with_reducible apply ev_addS); exact Ln.ok2 (by walk_at "ln") (by walk_at "ln") rfl)
  | ((with_reducible apply ev_addL); walk_at "sa"; exact rfl)
  | ((with_reducible apply ev_append); walk_at "sa"; exact rfl)
  | ((with_reducible apply ev_strI); walk_at "bd")
  | with_reducible exact ev_twice
  | ((with_reducible apply len_Tx); walk_at "bd")
  | ((with_reducible apply add_Tx); walk_at "bd")
  | with_reducible exact eq_Tx _ _
  | with_reducible exact ne_Tx _ _
  | ((with_reducible apply sl_Tx); walk_at "bd")
  | ((with_reducible show addD _ _ = some _); exact rfl)
  | ((with_reducible show subD _ _ = some _); exact rfl)
  | ((with_reducible show cmpD _ _ _ _ = some _); exact rfl)
  | ((with_reducible show isD _ _ _ = some _); exact rfl)
  | ((with_reducible show ixD _ _ = some _); exact rfl)
  | ((with_reducible show absD _ = some _); exact rfl)
  | ((with_reducible show max2D _ = some _); exact rfl)
  | ((with_reducible show min2D _ = some _); exact rfl)
  | ((with_reducible show int1D _ = some _); exact rfl)
  | ((with_reducible show lenD _ = some _); exact rfl)
  | ((with_reducible show gcdD _ = some _); exact rfl)
  | ((with_reducible show allD _ = some _); exact rfl)
  | ((with_reducible show isi2D _ _ = some _); exact rfl)
  | ((with_reducible show negD _ = some _); exact rfl)
  | ((with_reducible show appendD _ _ = some _); exact rfl)
  | ((with_reducible show eqD _ _ = some _); exact rfl)
  | ((with_reducible show neD _ _ = some _); exact rfl)
  | ((with_reducible show mul3D _ _ = some _); exact rfl))
local macro_rules | `(tactic| walk_at "tt") => `(tactic| first | with_reducible exact bne_self _ | with_reducible assumption | exact rfl | assumption | (simp only [Bool.not_eq_true', Bool.not_eq_false', Bool.not_true, Bool.not_false, decide_eq_true_eq, decide_eq_false_iff_not, beq_iff_eq, bne_iff_ne, beq_eq_false_iff_ne, Bool.and_eq_true, Bool.and_true, Bool.true_and, if_true, Bool.false_eq_true, if_false]; first | done | assumption | omega) | (simp [*]; done))
local macro_rules | `(tactic| walk_at "ev1") => `(tactic| first
  | with_reducible exact ev_c
  | ((with_reducible show some _ = some _); with_reducible exact rfl)
  | ((with_reducible apply ev_vd); exact rfl)
  | ((with_reducible apply ev_vo); exact rfl)
  | ((with_reducible apply ev_vb); exact rfl)
  | with_reducible exact ev_aNil
  | with_reducible apply ev_aCons
  | with_reducible apply ev_aApp
  | with_reducible apply ev_aSel
  | with_reducible apply tail_of
  | with_reducible apply ev_binV
  | ((with_reducible apply binK_l (c := 0)); exact rfl)
  | ((with_reducible apply binK_r (c := 0)); exact rfl; exact rfl)
  | ((with_reducible apply binK_d); exact rfl; exact rfl)
  | with_reducible apply ev_bin
  | with_reducible apply ev_unV
  | ((with_reducible apply unK_l (c := 0)); exact rfl)
  | ((with_reducible apply unK_d); exact rfl)
  | with_reducible apply ev_cmpV
  | ((with_reducible apply cmpK_l (c := 0)); exact rfl)
  | ((with_reducible apply cmpK_d); exact rfl)
  | with_reducible apply ev_attrV
  | ((with_reducible apply attrK_l (c := 0)); exact rfl; walk_at "tb")
  | ((with_reducible apply attrK_f (c := 0)); exact rfl; walk_at "tb")
  | ((with_reducible apply attrK_s); exact rfl)
  | with_reducible apply fldV_of
  | with_reducible apply ev_reprV
  | ((with_reducible apply reprK_l (c := 0)); exact rfl)
  | ((with_reducible apply reprK_d); exact rfl)
  | with_reducible apply ev_fnS
  | with_reducible apply ev_cm
  | with_reducible apply ev_mkS
  | with_reducible apply ev_methS
  | with_reducible apply ev_call
  | with_reducible apply ev_tup
  | with_reducible apply ev_lst
  | with_reducible apply ev_not
  | ((with_reducible apply iteK_t); walk_at "tt")
  | ((with_reducible apply iteK_f); walk_at "tt")
  | with_reducible apply ev_if
  | with_reducible apply ev_and
  | with_reducible apply ev_or
  | with_reducible apply ev_bVal
  | with_reducible apply ev_bTruth
  | with_reducible apply ev_bNot
  | with_reducible apply ev_bAnd
  | with_reducible apply ev_bOr)
local macro_rules | `(tactic| walk_at "ev2") => `(tactic| first
  | with_reducible apply ev_seq
  | with_reducible apply seqK_nx
  | ((with_reducible show seqK _ _ = some _); exact rfl)
  | with_reducible apply ev_set
  | with_reducible apply ev_sif
  | with_reducible apply ev_ret
  | with_reducible exact ev_snil
  | with_reducible apply ev_par2
  | with_reducible apply ev_par3
  | with_reducible apply ev_asg
  | with_reducible apply ev_exp
  | with_reducible apply ev_mut
  | with_reducible apply ev_fld
  | with_reducible apply ev_gset
  | with_reducible apply ev_gtup
  | with_reducible apply ev_gsc
  | with_reducible exact ev_gsn
  | with_reducible apply ev_gix
  | with_reducible exact SetAt.zero
  | with_reducible apply SetAt.succ
  | with_reducible exact Pad.nil
  | with_reducible apply Pad.dat
  | with_reducible apply Pad.own
  | with_reducible apply Pad.bor
  | with_reducible apply Pad.und
  | with_reducible exact WipeAt.nil
  | with_reducible apply WipeAt.cons
  | with_reducible exact fz_nil
  | ((with_reducible apply fz_own); exact rfl)
  | with_reducible apply ev_fz
  | with_reducible apply ev_lc
  | with_reducible exact lc_nil
  | with_reducible apply lc_cons
  | with_reducible apply ev_zipA
  | with_reducible exact ZipAt.nil
  | with_reducible apply ZipAt.cons
  | with_reducible exact ev_jsN
  | with_reducible apply ev_jsC
  | ((with_reducible show _ ≤ sizeLine); exact Ln.ok (by walk_at "ln") rfl)
  | ((with_reducible show Nat.log2 _ < 1920); walk_at "bd")
  | with_reducible apply ev_fmtI
  | with_reducible apply ev_walkV
  | with_reducible apply ev_chainT
  | with_reducible exact ev_oN
  | with_reducible apply ev_oS
  | with_reducible apply ev_sl
  | with_reducible apply ev_m1
  | with_reducible apply ev_sortKey
  | ((with_reducible apply ev_mut0); exact rfl)
  | with_reducible apply ev_rng1
  | with_reducible apply ev_fn)
local macro_rules | `(tactic| walk_at "ev") => `(tactic| repeat' (first | walk_at "rf" | walk_at "ev1" | walk_at "ev2" | walk_at "tb" | walk_at "call" | walk_at "pr"))
local macro_rules | `(tactic| walk_at "bd") => `(tactic| first | assumption | decide | omega)
local macro_rules | `(tactic| walk_at "tb") => `(tactic| first | with_reducible exact tb_0 _ | with_reducible exact tb_1 _ | with_reducible exact tb_2 _ | with_reducible exact tb_3 _ | with_reducible exact tb_4 _ | with_reducible exact tb_5 _ | with_reducible exact tb_6 _)
local macro_rules | `(tactic| walk_at "call") => `(tactic| with_reducible assumption)
local macro_rules | `(tactic| walk_at "ev") => `(tactic| repeat' (first | walk_at "call" | walk_at "rf" | walk_at "ev1" | walk_at "ev2" | walk_at "tb" | walk_at "pr"))
def prs : D → Nat × Nat
  | .tup [.int i, .int j, _] => (i.toNat, j.toNat)
  | _ => (0, 0)
def pr2 : D → D
  | .tup [i, j, _] => .tup [i, j]
  | d => d
theorem prs_tri (k : Nat) (w : List Nat) : prs (tri k w) = (k, k + w.length) := by
  unfold tri prs
  dsimp only
  have : ((k : Int) + (w.length : Int)).toNat = k + w.length := by omega
  rw [this, Int.toNat_natCast]
theorem pairs_tri : ∀ ds : List D, (∀ d ∈ ds, Tri d) → pairsD (ds.map pr2) = some (ds.map prs)
  | [], _ => rfl
  | d :: ds, h => by
    have ih := pairs_tri ds fun x hx => h x (List.mem_cons_of_mem _ hx)
    obtain ⟨k, w, rfl, hk⟩ := h d List.mem_cons_self
    rw [List.map_cons, List.map_cons]
    show (if 0 ≤ (k : Int) ∧ (k : Int) < 25 ∧ 0 ≤ (k : Int) + (w.length : Int) ∧ (k : Int) + (w.length : Int) < 25 then (pairsD (ds.map pr2)).map (((k : Int).toNat, ((k : Int) + (w.length : Int)).toNat) :: ·) else none) = _
    rw [if_pos (by omega), ih]; rfl
theorem fnd_nodup (q w : List Nat) : (fnd q w).Nodup := List.Pairwise.filter _ List.nodup_range
theorem nodup_links (q : List Nat) : ∀ ws : List (List Nat), ws.Nodup → ((links ws q).map prs).Nodup
  | [], _ => List.nodup_nil
  | w :: ws, h => by
    obtain ⟨h1, h2⟩ := List.nodup_cons.mp h
    have ih := nodup_links q ws h2
    show ((trisOf q w ++ links ws q).map prs).Nodup
    rw [List.map_append, List.nodup_append]
    have e : (trisOf q w).map prs = (fnd q w).map fun k => (k, k + w.length) := by
      unfold trisOf
      rw [List.map_map]
      exact List.map_congr_left fun k _ => prs_tri k w
    refine ⟨?_, ih, ?_⟩
    · rw [e]
      have := fnd_nodup q w
      unfold List.Nodup at this ⊢
      rw [List.pairwise_map]
      exact this.imp fun {a b} hab he => hab (congrArg Prod.fst he)
    · intro a ha b hb hab
      rw [e] at ha
      obtain ⟨k, hk, rfl⟩ := List.mem_map.mp ha
      obtain ⟨d, hd, rfl⟩ := List.mem_map.mp hb
      obtain ⟨w', hm, hd⟩ := List.mem_flatMap.mp hd
      obtain ⟨k', hk', rfl⟩ := List.mem_map.mp hd
      rw [prs_tri] at hab
      have e1 : k = k' := congrArg Prod.fst hab
      have e2 : k + w.length = k' + w'.length := congrArg Prod.snd hab
      subst e1
      have e3 : w.length = w'.length := by omega
      have f1 := (fnd_mem hk).2
      have f2 := (fnd_mem hk').2
      rw [e3, f2] at f1
      exact h1 (f1 ▸ hm)
theorem due_pairs {ws : List (List Nat)} {q : List Nat} (nd : ws.Nodup) : ((due ws q).map prs).Nodup := by
  have p : ((due ws q).map prs).Perm ((links ws q).map prs) := (List.mergeSort_perm (links ws q) leD).map prs
  exact p.nodup_iff.mpr (nodup_links q ws nd)
theorem own_lc {ds : List D} (a b c t u : SV) (k : Nat) (h : ∀ d ∈ ds, Tri d ∧ ∃ k w, d = tri k w ∧ k + w.length ≤ 24 ∧ Lw w) (ha : ∀ d, t ≠ .bor d) : lcF [7] (gSet 0 7) (bVal (pBin (in2B false) (pVar 5) (pSl (pVar 7) oNone (oSome (pC (.int (2))))))) (pVar 7) ds [a, b, c, .dat (.lst ds), t, .dat (.int (k : Int)), u, .und] = some (ds.filterMap (fP k), [a, b, c, .dat (.lst ds), t, .dat (.int (k : Int)), u, .und]) := by
  generalize hL : (SV.dat (.lst ds)) = L
  refine lc_filt _ fun d hd => ?_
  obtain ⟨_, s, w, rfl, _⟩ := h d hd
  have hs := sl_tri (i := .int (s : Int)) (j := .int ((s : Int) + (w.length : Int))) (x := .str (Tx w))
  have hp := in_pair (s : Int) ((s : Int) + (w.length : Int)) (k : Int)
  refine ⟨[a, b, c, L, t, .dat (.int (k : Int)), u, .dat (tri s w)], ((s : Int) == (k : Int) || (((s : Int) + (w.length : Int)) == (k : Int) || false)), [a, b, c, L, t, .dat (.int (k : Int)), u, .dat (tri s w)], ?_, ?_, ?_⟩
  · walk_at "ev"
  · unfold tri
    walk_at "ev"
  · cases hB : ((s : Int) == (k : Int) || (((s : Int) + (w.length : Int)) == (k : Int) || false)) with
    | true =>
      refine .inl ⟨rfl, .dat (tri s w), [a, b, c, L, t, .dat (.int (k : Int)), u, .dat (tri s w)], tri s w, rfl, rfl, ?_, fP_some hB⟩
      walk_at "ev"
    | false =>
      refine .inr ⟨rfl, ?_, fP_none hB⟩
      walk_at "ev"
theorem pr_lc {ds : List D} (a b c t s u : SV) (h : ∀ d ∈ ds, Tri d) (L : SV) : lcF [7] (gSet 0 7) (fun env => some (true, env)) (pSl (pVar 7) oNone (oSome (pC (.int (2))))) ds [a, b, c, L, t, s, u, .und] = some (ds.map pr2, [a, b, c, L, t, s, u, .und]) := by
  refine lc_map _ fun d hd => ?_
  obtain ⟨k, w, rfl, _⟩ := h d hd
  have hs := sl_tri (i := .int (k : Int)) (j := .int ((k : Int) + (w.length : Int))) (x := .str (Tx w))
  refine ⟨[a, b, c, L, t, s, u, .dat (tri k w)], _, .dat (.tup [.int (k : Int), .int ((k : Int) + (w.length : Int))]), [a, b, c, L, t, s, u, .dat (tri k w)], ?_, rfl, ?_, rfl, ?_⟩
  · walk_at "ev"
  · unfold tri
    walk_at "ev"
  · walk_at "ev"
theorem append_any {ds : List D} {x : D} (h : ds.length ≤ 1000) : appendD (.lst ds) [x] = some (.non, .lst (ds ++ [x])) := by
  unfold appendD
  dsimp only
  rw [if_pos (Nat.lt_of_le_of_lt h (by decide))]
theorem F_links_right (n : Nat) (ws : List (List Nat)) (q : List Nat) (hq : Wd q) (ql : q.length ≤ 24) (hw : ∀ w ∈ ws, Wd w ∧ w.length ≤ 12) (nd : ws.Nodup) (hl : ws.length ≤ 10) : d__law_links_right.F (tab prg (n+8)) 60 [.dat (lotD ws), .dat (.lst (txs ws)), sw q] = some (.dat (.bl true), [.dat (lotD ws), .dat (.lst (txs ws)), sw q]) := by
  have key : ∃ r, d__law_links_right.F (tab prg (n+8)) 60 [.dat (lotD ws), .dat (.lst (txs ws)), sw q] = some r ∧ r = (.dat (.bl true), [.dat (lotD ws), .dat (.lst (txs ws)), sw q]) := by
    have h1 := F_links (n + 5) ws q ql hw hl
    have h2 := F_bridges (n + 1) ws q hq ql hw hl
    have dt := due_tri (ws := ws) ql fun w h => (hw w h).1.lw
    have dl := due_len (ws := ws) hl ql
    have hz : q.length ≤ sizeLine := sizes ql (by decide)
    obtain ⟨x, hx⟩ := show_tri dt (Nat.le_trans dl (by decide))
    have hb : Nat.ble (due ws q).length sizeLine = true := Nat.ble_eq_true_of_le (sizes dl (by decide))
    have hps := pairs_tri (due ws q) fun d hd => (dt d hd).1
    have hln : ((due ws q).map prs).length < 300 := by rw [List.length_map]; omega
    have hnd := due_pairs (ws := ws) (q := q) nd
    have hlen : lenD [.lst (due ws q)] = some (.dat (.int (due ws q).length)) := rfl
    have hne : neD (.int ((due ws q).map prs).length) (.int (due ws q).length) = some (.dat (.bl false)) := by
      rw [List.length_map]
      show some (RV.dat (.bl (!((due ws q).length : Int) == ((due ws q).length : Int)))) = _
      simp
    have hxx : neD (.str x) (.str x) = some (.dat (.bl false)) := by
      show some (RV.dat (.bl (!(x == x)))) = _
      simp
    have hr : -(2 ^ 62) ≤ (q.length : Int) + 1 ∧ (q.length : Int) + 1 < 2 ^ 62 := by omega
    generalize hdu : due ws q = du at *
    have hclr : clearD (.lst du) [] = some (.non, .lst []) := rfl
    rw [den__law_links_right]
    apply ex_fn
    · walk_at "ev"
    apply ex_fz fz_nil
    apply ex_seq
    · walk_at "ev"
    apply ex_fz fz_nil
    apply ex_seq
    · walk_at "ev"
    apply ex_fz fz_nil
    apply ex_seq
    · walk_at "ev"
    apply ex_fz fz_nil
    apply ex_seq (e1 := [.dat (lotD ws), .dat (.lst (txs ws)), sw q, .dat (.lst du), .own (.lst []), .und, .und, .und])
    · walk_at "ev"
    apply ex_fz fz_nil
    have hpl := pr_lc (ds := du) (.dat (lotD ws)) (.dat (.lst (txs ws))) (sw q) (.own (.lst [])) .und .und (fun d hd => (dt d hd).1) (.dat (.lst du))
    have hset : pLenSet (pLc [7] (iWalkV (tab prg (n+8)).own (pVar 3)) (gSet 0 7) (fun env => some (true, env)) (pSl (pVar 7) oNone (oSome (pC (.int (2)))))) [.dat (lotD ws), .dat (.lst (txs ws)), sw q, .dat (.lst du), .own (.lst []), .und, .und, .und] = some (.dat (.int (du.map prs).length), [.dat (lotD ws), .dat (.lst (txs ws)), sw q, .dat (.lst du), .own (.lst []), .und, .und, .und]) := by
      apply ev_lenSet (ds := du.map pr2)
      · walk_at "ev"
      · rfl
      · exact hps
      · exact hln
      · exact hnd
    apply ex_seq
    · walk_at "ev"
    apply ex_fz fz_nil
    apply ex_for (fun i env => ∃ d4 s o, env = [.dat (lotD ws), .dat (.lst (txs ws)), sw q, .dat (.lst du), .own d4, s, o, .und])
    · apply ev_rng1
      · walk_at "ev"
      · exact hr
    · rfl
    · exact ⟨_, _, _, rfl⟩
    · rintro i env d hd ⟨d4, s, o, rfl⟩
      obtain ⟨k, rfl, hk⟩ := rng_mem (List.mem_of_getElem? hd)
      have hk' : k ≤ q.length := by omega
      have h4 := F_bridges_at n ws q k hq ql hk' hw hl
      rw [hdu] at h4
      have ft : ∀ d ∈ du.filterMap (fP k), Tri d ∧ ∃ k w, d = tri k w ∧ k + w.length ≤ 24 ∧ Lw w := fun d h => dt d (fP_mem dt h)
      have fl : (du.filterMap (fP k)).length ≤ 240 := Nat.le_trans (List.length_filterMap_le _ _) dl
      obtain ⟨y, hy⟩ := show_tri ft (Nat.le_trans fl (by decide))
      have hyy : neD (.str y) (.str y) = some (.dat (.bl false)) := by
        show some (RV.dat (.bl (!(y == y)))) = _
        simp
      have ha := append_any (ds := du.filterMap (fP k)) (x := .non) (by omega)
      have ho := own_lc (ds := du) (.dat (lotD ws)) (.dat (.lst (txs ws))) (sw q) (.own d4) o k dt (fun d h => nomatch h)
      apply ex_step
      · walk_at "ev"
      · walk_at "ev"
      · exact ⟨_, _, _, rfl⟩
    · rintro env ⟨d4, s, o, rfl⟩
      apply ex_fz (e1 := [.dat (lotD ws), .dat (.lst (txs ws)), sw q, .dat (.lst du), .dat d4, s, o, .und])
      · exact fz_own rfl rfl (.succ (.succ (.succ (.succ .zero)))) fz_nil
      apply ex_ret
      · walk_at "ev"
      · rfl
      · rfl
  obtain ⟨r, h, rfl⟩ := key
  exact h
end K13
end

section
set_option Elab.async false
set_option linter.all false
set_option maxRecDepth 100000
set_option maxHeartbeats 4000000
namespace K13
open PySem L2 Den PyProof.Rows
local macro_rules | `(tactic| walk_at "rf") => `(tactic| first
  | ((with_reducible show RV.cont _ _ = some _); exact rfl)
  | ((with_reducible show RV.dt _ = some _); exact rfl)
  | ((with_reducible show RV.cls _ = _); exact rfl)
  | ((with_reducible show RV.objf _ = _); exact rfl)
  | ((with_reducible show passE _ _ _ = some _); exact rfl)
  | ((with_reducible show BackAt _ _ _ _ _); first | exact BackAt.nil | apply BackAt.dat | apply BackAt.slot | apply BackAt.own)
  | ((with_reducible show onceB _ _ _ = true); exact rfl)
  | ((with_reducible show ownB _ _ _ = true); exact rfl)
  | ((with_reducible show pinned _ _ _ = false); exact rfl)
  | ((with_reducible show dts _ = some _); exact rfl)
  | ((with_reducible show conts _ _ = some _); exact rfl)
  | ((with_reducible show setSV _ _ = some _); exact rfl)
  | ((with_reducible show retK _ _ _ = some _); exact rfl)
  | ((with_reducible show fnK _ _ = some _); exact rfl)
  | ((with_reducible show List.length _ = _); exact rfl)
  | ((with_reducible show pick _ _ = _); exact rfl)
  | ((with_reducible show Nat.ble _ _ = true); exact rfl)
  | ((with_reducible show Nat.blt _ _ = true); exact rfl)
  | ((with_reducible show truthD _ = some _); exact rfl)
  | ((with_reducible show sideB _ _ = true); exact rfl)
  | ((with_reducible show intB _ = true); exact rfl)
  | ((with_reducible show eqSideB _ _ = true); exact rfl)
  | ((with_reducible show itemsD _ = some _); exact rfl)
  | ((with_reducible show putD _ _ _ = _); exact rfl)
  | ((with_reducible show List.lookup _ _ = _); exact rfl)
  | ((with_reducible show getElem? _ _ = some _); exact rfl)
  | with_reducible exact ixN0
  | with_reducible exact ixN1)
local macro_rules | `(tactic| walk_at "ln") => `(tactic| repeat' (first | with_reducible exact Ln.num (by walk_at "bd") | with_reducible exact Ln.lit | with_reducible exact Ln.emp | with_reducible apply Ln.app))
local macro_rules | `(tactic| walk_at "sa") => `(tactic| repeat' (first | with_reducible exact AppAt.nil | with_reducible apply AppAt.cons | with_reducible exact ZipAt.nil | with_reducible apply ZipAt.cons))
local macro_rules | `(tactic| walk_at "pr") => `(tactic| first
  | ((with_reducible apply ev_mul); walk_at "bd")
  | ((with_reducible apply ev_fdiv) <;> walk_at "bd")
  | ((with_reducible apply ev_mod); walk_at "bd")
  | ((with_reducible apply ev_divmod) <;> walk_at "bd")
  | ((with_reducible apply ev_pow) <;> walk_at "bd")
  | ((with_reducible apply ev_addS); exact Ln.ok2 (by walk_at "ln") (by walk_at "ln") rfl)
  | ((with_reducible apply ev_addL); walk_at "sa"; exact rfl)
  | ((with_reducible apply ev_append); walk_at "sa"; exact rfl)
  | ((with_reducible apply ev_strI); walk_at "bd")
  | with_reducible exact ev_twice
  | ((with_reducible apply len_Tx); walk_at "bd")
  | ((with_reducible apply add_Tx); walk_at "bd")
  | with_reducible exact eq_Tx _ _
  | with_reducible exact ne_Tx _ _
  | ((with_reducible apply sl_Tx); walk_at "bd")
  | ((with_reducible show addD _ _ = some _); exact rfl)
  | ((with_reducible show subD _ _ = some _); exact rfl)
  | ((with_reducible show cmpD _ _ _ _ = some _); exact rfl)
  | ((with_reducible show isD _ _ _ = some _); exact rfl)
  | ((with_reducible show ixD _ _ = some _); exact rfl)
  | ((with_reducible show absD _ = some _); exact rfl)
  | ((with_reducible show max2D _ = some _); exact rfl)
  | ((with_reducible show min2D _ = some _); exact rfl)
  | ((with_reducible show int1D _ = some _); exact rfl)
  | ((with_reducible show lenD _ = some _); exact rfl)
  | ((with_reducible show gcdD _ = some _); exact rfl)
  | ((with_reducible show allD _ = some _); exact rfl)
  | ((with_reducible show isi2D _ _ = some _); exact rfl)
  | ((with_reducible show negD _ = some _); exact rfl)
  | ((with_reducible show appendD _ _ = some _); exact rfl)
  | ((with_reducible show eqD _ _ = some _); exact rfl)
  | ((with_reducible show neD _ _ = some _); exact rfl)
  | ((with_reducible show mul3D _ _ = some _); exact rfl))
local macro_rules | `(tactic| walk_at "tt") => `(tactic| first | with_reducible exact bne_self _ | with_reducible assumption | exact rfl | assumption | (simp only [Bool.not_eq_true', Bool.not_eq_false', Bool.not_true, Bool.not_false, decide_eq_true_eq, decide_eq_false_iff_not, beq_iff_eq, bne_iff_ne, beq_eq_false_iff_ne, Bool.and_eq_true, Bool.and_true, Bool.true_and, if_true, Bool.false_eq_true, if_false]; first | done | assumption | omega) | (simp [*]; done))
local macro_rules | `(tactic| walk_at "ev1") => `(tactic| first
  | with_reducible exact ev_c
  | ((with_reducible show some _ = some _); with_reducible exact rfl)
  | ((with_reducible apply ev_vd); exact rfl)
  | ((with_reducible apply ev_vo); exact rfl)
  | ((with_reducible apply ev_vb); exact rfl)
  | with_reducible exact ev_aNil
  | with_reducible apply ev_aCons
  | with_reducible apply ev_aApp
  | with_reducible apply ev_aSel
  | with_reducible apply tail_of
  | with_reducible apply ev_binV
  | ((with_reducible apply binK_l (c := 0)); exact rfl)
  | ((with_reducible apply binK_r (c := 0)); exact rfl; exact rfl)
  | ((with_reducible apply binK_d); exact rfl; exact rfl)
  | with_reducible apply ev_bin
  | with_reducible apply ev_unV
  | ((with_reducible apply unK_l (c := 0)); exact rfl)
  | ((with_reducible apply unK_d); exact rfl)
  | with_reducible apply ev_cmpV
  | ((with_reducible apply cmpK_l (c := 0)); exact rfl)
  | ((with_reducible apply cmpK_d); exact rfl)
  | with_reducible apply ev_attrV
  | ((with_reducible apply attrK_l (c := 0)); exact rfl; walk_at "tb")
  | ((with_reducible apply attrK_f (c := 0)); exact rfl; walk_at "tb")
  | ((with_reducible apply attrK_s); exact rfl)
  | with_reducible apply fldV_of
  | with_reducible apply ev_reprV
  | ((with_reducible apply reprK_l (c := 0)); exact rfl)
  | ((with_reducible apply reprK_d); exact rfl)
  | with_reducible apply ev_fnS
  | with_reducible apply ev_cm
  | with_reducible apply ev_mkS
  | with_reducible apply ev_methS
  | with_reducible apply ev_call
  | with_reducible apply ev_tup
  | with_reducible apply ev_lst
  | with_reducible apply ev_not
  | ((with_reducible apply iteK_t); walk_at "tt")
  | ((with_reducible apply iteK_f); walk_at "tt")
  | with_reducible apply ev_if
  | with_reducible apply ev_and
  | with_reducible apply ev_or
  | with_reducible apply ev_bVal
  | with_reducible apply ev_bTruth
  | with_reducible apply ev_bNot
  | with_reducible apply ev_bAnd
  | with_reducible apply ev_bOr)
local macro_rules | `(tactic| walk_at "ev2") => `(tactic| first
  | with_reducible apply ev_seq
  | with_reducible apply seqK_nx
  | ((with_reducible show seqK _ _ = some _); exact rfl)
  | with_reducible apply ev_set
  | with_reducible apply ev_sif
  | with_reducible apply ev_ret
  | with_reducible exact ev_snil
  | with_reducible apply ev_par2
  | with_reducible apply ev_par3
  | with_reducible apply ev_asg
  | with_reducible apply ev_exp
  | with_reducible apply ev_mut
  | with_reducible apply ev_fld
  | with_reducible apply ev_gset
  | with_reducible apply ev_gtup
  | with_reducible apply ev_gsc
  | with_reducible exact ev_gsn
  | with_reducible apply ev_gix
  | with_reducible exact SetAt.zero
  | with_reducible apply SetAt.succ
  | with_reducible exact Pad.nil
  | with_reducible apply Pad.dat
  | with_reducible apply Pad.own
  | with_reducible apply Pad.bor
  | with_reducible apply Pad.und
  | with_reducible exact WipeAt.nil
  | with_reducible apply WipeAt.cons
  | with_reducible exact fz_nil
  | ((with_reducible apply fz_own); exact rfl)
  | with_reducible apply ev_fz
  | with_reducible apply ev_lc
  | with_reducible exact lc_nil
  | with_reducible apply lc_cons
  | with_reducible apply ev_zipA
  | with_reducible exact ZipAt.nil
  | with_reducible apply ZipAt.cons
  | with_reducible exact ev_jsN
  | with_reducible apply ev_jsC
  | ((with_reducible show _ ≤ sizeLine); exact Ln.ok (by walk_at "ln") rfl)
  | ((with_reducible show Nat.log2 _ < 1920); walk_at "bd")
  | with_reducible apply ev_fmtI
  | with_reducible apply ev_walkV
  | with_reducible apply ev_chainT
  | with_reducible exact ev_oN
  | with_reducible apply ev_oS
  | with_reducible apply ev_sl
  | with_reducible apply ev_m1
  | with_reducible apply ev_sortKey
  | ((with_reducible apply ev_mut0); exact rfl)
  | with_reducible apply ev_rng1
  | with_reducible apply ev_fn)
local macro_rules | `(tactic| walk_at "ev") => `(tactic| repeat' (first | walk_at "rf" | walk_at "ev1" | walk_at "ev2" | walk_at "tb" | walk_at "call" | walk_at "pr"))
local macro_rules | `(tactic| walk_at "bd") => `(tactic| first | assumption | decide | omega)
local macro_rules | `(tactic| walk_at "tb") => `(tactic| first | with_reducible exact tb_0 _ | with_reducible exact tb_1 _ | with_reducible exact tb_2 _ | with_reducible exact tb_3 _ | with_reducible exact tb_4 _ | with_reducible exact tb_5 _ | with_reducible exact tb_6 _)
local macro_rules | `(tactic| walk_at "call") => `(tactic| with_reducible assumption)
local macro_rules | `(tactic| walk_at "ev") => `(tactic| repeat' (first | walk_at "call" | walk_at "rf" | walk_at "ev1" | walk_at "ev2" | walk_at "tb" | walk_at "pr"))
theorem append_any' {ds : List D} {x : D} (h : ds.length ≤ 1000) : appendD (.lst ds) [x] = some (.non, .lst (ds ++ [x])) := by
  unfold appendD
  dsimp only
  rw [if_pos (Nat.lt_of_le_of_lt h (by decide))]
theorem cat_txs {ws vs : List (List Nat)} (h : ws.length + vs.length ≤ 1000) : addD (.lst (txs ws)) (.lst (txs vs)) = some (.own (.lst (txs (ws ++ vs)))) := by
  unfold addD
  dsimp only
  rw [List.length_map, List.length_map, if_pos (Nat.le_trans h (by decide)), ← List.map_append]
theorem sIx_neg {n : Nat} (h : 2 ≤ n) : HT.sIx n 0 (some (-2)) = n - 2 := by
  unfold HT.sIx
  dsimp only
  rw [if_pos (by decide)]
  omega
theorem cut_some {w : List Nat} (lo hi : Option Int) (h : w.length ≤ 100) (lw : Lw w) (hne : HT.sIx w.length 0 lo < HT.sIx w.length w.length hi) (hle : HT.sIx w.length 0 lo < w.length) : ∃ u, slD (.str (Tx w)) lo hi = some (.dat (.str (Tx u))) ∧ u.length ≤ w.length ∧ Wd u := by
  refine ⟨_, sl_Tx (Nat.le_trans h (by decide)), by rw [List.length_take, List.length_drop]; omega, ⟨fun e => ?_, (lw.drop _).take _⟩⟩
  have := congrArg List.length e
  rw [List.length_take, List.length_drop, List.length_nil] at this
  omega
theorem rep_m : mul3D (.str (Str.ofString "m")) (.int 30) = some (.dat (.str (Tx (List.replicate 30 109)))) := by kernel_rfl!
theorem F_found_right (n : Nat) (p : Int × Int) (ws : List (List Nat)) (q : List Nat) (hp : POK p) (hq : Wd q) (ql : q.length ≤ 24) (hw : ∀ w ∈ ws, Wd w ∧ w.length ≤ 12) (hl : ws.length ≤ 10) :
    ∃ r, d__law_found_right.F (tab prg (n+6)) 60 [.own (potD p), sw q, .dat (.lst (txs ws))] = some r ∧ ∃ p', r = (.dat (.bl true), [.own (potD p'), sw q, .dat (.lst (txs ws))]) ∧ POK p' := by
  have e1 : (Str.ofString "a" : Str) = Tx [97] := rfl
  have e2 : (Str.ofString "abz" : Str) = Tx [97, 98, 122] := rfl
  have qp := hq.pos
  have wa : Lw [97] := by intro c hc; rw [List.mem_singleton] at hc; omega
  obtain ⟨t, p1, hT, t0, t1, t2, hp1⟩ := F_term (n + 2) p [97, 98, 122] 3 hp (by decide) (by decide) (by decide) (by decide)
  have hz : q.length ≤ sizeLine := Nat.le_trans ql (by decide)
  obtain ⟨u1, hu1, ul1, lu1⟩ := cut_ex (w := q) (some 1) none hz hq.lw
  obtain ⟨u2, hu2, ul2, wu2⟩ := cut_some (w := q) none (some 1) (by omega) hq.lw (by
    have : HT.sIx q.length q.length (some 1) = min 1 q.length := HT.sIx_nat q.length q.length 1
    rw [this, HT.sIx_none]; omega) (by rw [HT.sIx_none]; omega)
  obtain ⟨u3, hu3, ul3, wu3⟩ := cut_some (w := q) (some (-2)) none (by omega) hq.lw (by
    rw [HT.sIx_none]; unfold HT.sIx; dsimp only; rw [if_pos (by decide)]; omega) (by unfold HT.sIx; dsimp only; rw [if_pos (by decide)]; omega)
  have hz2 : q.length + [97].length ≤ sizeLine := Nat.le_trans (show q.length + 1 ≤ 100 by omega) (by decide)
  have hz3 : u1.length + [97].length ≤ sizeLine := Nat.le_trans (show u1.length + 1 ≤ 100 by omega) (by decide)
  have hm := rep_m
  let vs : List (List Nat) := [q, q ++ [97], u1 ++ [97], t, u2, u3, List.replicate 30 109]
  have hcat : addD (.lst (txs ws)) (.lst [.str (Tx q), .str (Tx (q ++ [97])), .str (Tx (u1 ++ [97])), .str (Tx t), .str (Tx u2), .str (Tx u3), .str (Tx (List.replicate 30 109))]) = some (.own (.lst (txs (ws ++ vs)))) := cat_txs (vs := vs) (by show ws.length + 7 ≤ 1000; omega)
  have hvs : ∀ w ∈ ws ++ vs, Wd w ∧ w.length ≤ 100 := by
    intro w hm
    rcases List.mem_append.mp hm with h | h
    · exact ⟨(hw w h).1, by have := (hw w h).2; omega⟩
    · simp only [vs, List.mem_cons, List.not_mem_nil, or_false] at h
      rcases h with rfl | rfl | rfl | rfl | rfl | rfl | rfl
      · exact ⟨hq, by omega⟩
      · exact ⟨⟨by simp, hq.lw.app wa⟩, by rw [List.length_append]; show q.length + 1 ≤ 100; omega⟩
      · exact ⟨⟨by simp, lu1.app wa⟩, by rw [List.length_append]; show u1.length + 1 ≤ 100; omega⟩
      · exact ⟨⟨fun e => by subst e; exact absurd t0 (by decide), fun c hc => by
          have := t2 c hc
          simp only [List.mem_cons, List.not_mem_nil, or_false] at this
          omega⟩, by omega⟩
      · exact ⟨wu2, by omega⟩
      · exact ⟨wu3, by omega⟩
      · exact ⟨⟨by decide, fun c hc => by have := (List.mem_replicate.mp hc).2; omega⟩, by decide⟩
  generalize ws ++ vs = ss at hcat hvs
  clear_value vs
  rw [den__law_found_right, e1, e2]
  apply ex_fn
  · walk_at "ev"
  apply ex_fz fz_nil
  apply ex_seq
  · walk_at "ev"
  apply ex_fz fz_nil
  apply ex_for (fun i env => ∃ a b c, env = [.own (potD p1), sw q, .dat (.lst (txs ws)), .dat (.lst (txs ss)), a, b, c] ∧ (c = .und ∨ ∃ d, c = .own d))
  · apply ev_walkV
    · walk_at "ev"
    · rfl
  · rfl
  · exact ⟨_, _, _, rfl, .inl rfl⟩
  · rintro i env d hd ⟨a, b, c, rfl, _⟩
    rw [List.getElem?_map, Option.map_eq_some_iff] at hd
    obtain ⟨w, hi, rfl⟩ := hd
    have hmm := hvs w (List.mem_of_getElem? hi)
    have h1 := F_found (n + 4) q w ql hmm.1 (by have := hmm.2; omega)
    have h2 := F_found_at n q w hq ql hmm.1 (by have := hmm.2; omega)
    obtain ⟨x, hx⟩ := show_nats (ns := fnd q w) (fun k hk => by have := (fnd_mem hk).1; omega) (by have := fnd_len q w; omega)
    have hxx : neD (.str x) (.str x) = some (.dat (.bl false)) := by
      show some (RV.dat (.bl (!(x == x)))) = _
      simp
    have ha := append_any' (ds := natsD (fnd q w)) (x := .int (-1)) (by unfold natsD; rw [List.length_map]; have := fnd_len q w; omega)
    apply ex_step
    · walk_at "ev"
    · walk_at "ev"
    · exact ⟨_, _, _, rfl, .inr ⟨_, rfl⟩⟩
  · rintro env ⟨a, b, c, rfl, rfl | ⟨d, rfl⟩⟩
    · apply ex_fz (e1 := [.own (potD p1), sw q, .dat (.lst (txs ws)), .dat (.lst (txs ss)), a, b, .und])
      · rfl
      apply ex_ret
      · walk_at "ev"
      · rfl
      · exact ⟨p1, rfl, hp1⟩
    · apply ex_fz (e1 := [.own (potD p1), sw q, .dat (.lst (txs ws)), .dat (.lst (txs ss)), a, b, .dat d])
      · exact fz_own rfl rfl (.succ (.succ (.succ (.succ (.succ (.succ .zero)))))) fz_nil
      apply ex_ret
      · walk_at "ev"
      · rfl
      · exact ⟨p1, rfl, hp1⟩
end K13
end

section
set_option Elab.async false
set_option linter.all false
set_option maxRecDepth 100000
set_option maxHeartbeats 4000000
namespace K13
open PySem L2 Den PyProof.Rows
local macro_rules | `(tactic| walk_at "rf") => `(tactic| first
  | ((with_reducible show RV.cont _ _ = some _); exact rfl)
  | ((with_reducible show RV.dt _ = some _); exact rfl)
  | ((with_reducible show RV.cls _ = _); exact rfl)
  | ((with_reducible show RV.objf _ = _); exact rfl)
  | ((with_reducible show passE _ _ _ = some _); exact rfl)
  | ((with_reducible show BackAt _ _ _ _ _); first | exact BackAt.nil | apply BackAt.dat | apply BackAt.slot | apply BackAt.own)
  | ((with_reducible show onceB _ _ _ = true); exact rfl)
  | ((with_reducible show ownB _ _ _ = true); exact rfl)
  | ((with_reducible show pinned _ _ _ = false); exact rfl)
  | ((with_reducible show dts _ = some _); exact rfl)
  | ((with_reducible show conts _ _ = some _); exact rfl)
  | ((with_reducible show setSV _ _ = some _); exact rfl)
  | ((with_reducible show retK _ _ _ = some _); exact rfl)
  | ((with_reducible show fnK _ _ = some _); exact rfl)
  | ((with_reducible show List.length _ = _); exact rfl)
  | ((with_reducible show pick _ _ = _); exact rfl)
  | ((with_reducible show Nat.ble _ _ = true); exact rfl)
  | ((with_reducible show Nat.blt _ _ = true); exact rfl)
  | ((with_reducible show truthD _ = some _); exact rfl)
  | ((with_reducible show sideB _ _ = true); exact rfl)
  | ((with_reducible show intB _ = true); exact rfl)
  | ((with_reducible show eqSideB _ _ = true); exact rfl)
  | ((with_reducible show itemsD _ = some _); exact rfl)
  | ((with_reducible show putD _ _ _ = _); exact rfl)
  | ((with_reducible show List.lookup _ _ = _); exact rfl)
  | ((with_reducible show getElem? _ _ = some _); exact rfl)
  | with_reducible exact ixN0
  | with_reducible exact ixN1)
local macro_rules | `(tactic| walk_at "ln") => `(tactic| repeat' (first | with_reducible exact Ln.num (by walk_at "bd") | with_reducible exact Ln.lit | with_reducible exact Ln.emp | with_reducible apply Ln.app))
local macro_rules | `(tactic| walk_at "sa") => `(tactic| repeat' (first | with_reducible exact AppAt.nil | with_reducible apply AppAt.cons | with_reducible exact ZipAt.nil | with_reducible apply ZipAt.cons))
local macro_rules | `(tactic| walk_at "pr") => `(tactic| first
  | ((with_reducible apply ev_mul); walk_at "bd")
  | ((with_reducible apply ev_fdiv) <;> walk_at "bd")
  | ((with_reducible apply ev_mod); walk_at "bd")
  | ((with_reducible apply ev_divmod) <;> walk_at "bd")
  | ((with_reducible apply ev_pow) <;> walk_at "bd")
  | ((with_reducible apply ev_addS); exact Ln.ok2 (by walk_at "ln") (by walk_at "ln") rfl)
  | ((with_reducible apply ev_addL); walk_at "sa"; exact rfl)
  | ((with_reducible apply ev_append); walk_at "sa"; exact rfl)
  | ((with_reducible apply ev_strI); walk_at "bd")
  | with_reducible exact ev_twice
  | ((with_reducible apply len_Tx); walk_at "bd")
  | ((with_reducible apply add_Tx); walk_at "bd")
  | with_reducible exact eq_Tx _ _
  | with_reducible exact ne_Tx _ _
  | ((with_reducible apply sl_Tx); walk_at "bd")
  | ((with_reducible show addD _ _ = some _); exact rfl)
  | ((with_reducible show subD _ _ = some _); exact rfl)
  | ((with_reducible show cmpD _ _ _ _ = some _); exact rfl)
  | ((with_reducible show isD _ _ _ = some _); exact rfl)
  | ((with_reducible show ixD _ _ = some _); exact rfl)
  | ((with_reducible show absD _ = some _); exact rfl)
  | ((with_reducible show max2D _ = some _); exact rfl)
  | ((with_reducible show min2D _ = some _); exact rfl)
  | ((with_reducible show int1D _ = some _); exact rfl)
  | ((with_reducible show lenD _ = some _); exact rfl)
  | ((with_reducible show gcdD _ = some _); exact rfl)
  | ((with_reducible show allD _ = some _); exact rfl)
  | ((with_reducible show isi2D _ _ = some _); exact rfl)
  | ((with_reducible show negD _ = some _); exact rfl)
  | ((with_reducible show appendD _ _ = some _); exact rfl)
  | ((with_reducible show eqD _ _ = some _); exact rfl)
  | ((with_reducible show neD _ _ = some _); exact rfl)
  | ((with_reducible show mul3D _ _ = some _); exact rfl))
local macro_rules | `(tactic| walk_at "tt") => `(tactic| first | with_reducible exact bne_self _ | with_reducible assumption | exact rfl | assumption | (simp only [Bool.not_eq_true', Bool.not_eq_false', Bool.not_true, Bool.not_false, decide_eq_true_eq, decide_eq_false_iff_not, beq_iff_eq, bne_iff_ne, beq_eq_false_iff_ne, Bool.and_eq_true, Bool.and_true, Bool.true_and, if_true, Bool.false_eq_true, if_false]; first | done | assumption | omega) | (simp [*]; done))
local macro_rules | `(tactic| walk_at "ev1") => `(tactic| first
  | with_reducible exact ev_c
  | ((with_reducible show some _ = some _); with_reducible exact rfl)
  | ((with_reducible apply ev_vd); exact rfl)
  | ((with_reducible apply ev_vo); exact rfl)
  | ((with_reducible apply ev_vb); exact rfl)
  | with_reducible exact ev_aNil
  | with_reducible apply ev_aCons
  | with_reducible apply ev_aApp
  | with_reducible apply ev_aSel
  | with_reducible apply tail_of
  | with_reducible apply ev_binV
  | ((with_reducible apply binK_l (c := 0)); exact rfl)
  | ((with_reducible apply binK_r (c := 0)); exact rfl; exact rfl)
  | ((with_reducible apply binK_d); exact rfl; exact rfl)
  | with_reducible apply ev_bin
  | with_reducible apply ev_unV
  | ((with_reducible apply unK_l (c := 0)); exact rfl)
  | ((with_reducible apply unK_d); exact rfl)
  | with_reducible apply ev_cmpV
  | ((with_reducible apply cmpK_l (c := 0)); exact rfl)
  | ((with_reducible apply cmpK_d); exact rfl)
  | with_reducible apply ev_attrV
  | ((with_reducible apply attrK_l (c := 0)); exact rfl; walk_at "tb")
  | ((with_reducible apply attrK_f (c := 0)); exact rfl; walk_at "tb")
  | ((with_reducible apply attrK_s); exact rfl)
  | with_reducible apply fldV_of
  | with_reducible apply ev_reprV
  | ((with_reducible apply reprK_l (c := 0)); exact rfl)
  | ((with_reducible apply reprK_d); exact rfl)
  | with_reducible apply ev_fnS
  | with_reducible apply ev_cm
  | with_reducible apply ev_mkS
  | with_reducible apply ev_methS
  | with_reducible apply ev_call
  | with_reducible apply ev_tup
  | with_reducible apply ev_lst
  | with_reducible apply ev_not
  | ((with_reducible apply iteK_t); walk_at "tt")
  | ((with_reducible apply iteK_f); walk_at "tt")
  | with_reducible apply ev_if
  | with_reducible apply ev_and
  | with_reducible apply ev_or
  | with_reducible apply ev_bVal
  | with_reducible apply ev_bTruth
  | with_reducible apply ev_bNot
  | with_reducible apply ev_bAnd
  | with_reducible apply ev_bOr)
local macro_rules | `(tactic| walk_at "ev2") => `(tactic| first
  | with_reducible apply ev_seq
  | with_reducible apply seqK_nx
  | ((with_reducible show seqK _ _ = some _); exact rfl)
  | with_reducible apply ev_set
  | with_reducible apply ev_sif
  | with_reducible apply ev_ret
  | with_reducible exact ev_snil
  | with_reducible apply ev_par2
  | with_reducible apply ev_par3
  | with_reducible apply ev_asg
  | with_reducible apply ev_exp
  | with_reducible apply ev_mut
  | with_reducible apply ev_fld
  | with_reducible apply ev_gset
  | with_reducible apply ev_gtup
  | with_reducible apply ev_gsc
  | with_reducible exact ev_gsn
  | with_reducible apply ev_gix
  | with_reducible exact SetAt.zero
  | with_reducible apply SetAt.succ
  | with_reducible exact Pad.nil
  | with_reducible apply Pad.dat
  | with_reducible apply Pad.own
  | with_reducible apply Pad.bor
  | with_reducible apply Pad.und
  | with_reducible exact WipeAt.nil
  | with_reducible apply WipeAt.cons
  | with_reducible exact fz_nil
  | ((with_reducible apply fz_own); exact rfl)
  | with_reducible apply ev_fz
  | with_reducible apply ev_lc
  | with_reducible exact lc_nil
  | with_reducible apply lc_cons
  | with_reducible apply ev_zipA
  | with_reducible exact ZipAt.nil
  | with_reducible apply ZipAt.cons
  | with_reducible exact ev_jsN
  | with_reducible apply ev_jsC
  | ((with_reducible show _ ≤ sizeLine); exact Ln.ok (by walk_at "ln") rfl)
  | ((with_reducible show Nat.log2 _ < 1920); walk_at "bd")
  | with_reducible apply ev_fmtI
  | with_reducible apply ev_walkV
  | with_reducible apply ev_chainT
  | with_reducible exact ev_oN
  | with_reducible apply ev_oS
  | with_reducible apply ev_sl
  | with_reducible apply ev_m1
  | with_reducible apply ev_sortKey
  | ((with_reducible apply ev_mut0); exact rfl)
  | with_reducible apply ev_rng1
  | with_reducible apply ev_fn)
local macro_rules | `(tactic| walk_at "ev") => `(tactic| repeat' (first | walk_at "rf" | walk_at "ev1" | walk_at "ev2" | walk_at "tb" | walk_at "call" | walk_at "pr"))
local macro_rules | `(tactic| walk_at "bd") => `(tactic| first | assumption | decide | omega)
local macro_rules | `(tactic| walk_at "tb") => `(tactic| first | with_reducible exact tb_0 _ | with_reducible exact tb_1 _ | with_reducible exact tb_2 _ | with_reducible exact tb_3 _ | with_reducible exact tb_4 _ | with_reducible exact tb_5 _ | with_reducible exact tb_6 _)
local macro_rules | `(tactic| walk_at "call") => `(tactic| with_reducible assumption)
local macro_rules | `(tactic| walk_at "ev") => `(tactic| repeat' (first | walk_at "call" | walk_at "rf" | walk_at "ev1" | walk_at "ev2" | walk_at "tb" | walk_at "pr"))
theorem Lw_of {w : List Nat} (h : w.all (fun c => decide (97 ≤ c) && decide (c ≤ 122)) = true) : Lw w := fun c hc => by
  have := List.all_eq_true.mp h c hc
  simpa using this
theorem pick_signs {i : Nat} (h : i < 5) : ∃ s, [D.str (Str.ofString "a"), .str (Str.ofString "ab"), .str (Str.ofString "ab"), .str (Str.ofString "abc"), .str (Str.ofString "abcd")].getD i .non = .str (Tx s) ∧ 0 < s.length ∧ s.length ≤ 4 ∧ Lw s := by
  match i, h with
  | 0, _ => exact ⟨[97], rfl, by decide, by decide, Lw_of (by decide)⟩
  | 1, _ => exact ⟨[97, 98], rfl, by decide, by decide, Lw_of (by decide)⟩
  | 2, _ => exact ⟨[97, 98], rfl, by decide, by decide, Lw_of (by decide)⟩
  | 3, _ => exact ⟨[97, 98, 99], rfl, by decide, by decide, Lw_of (by decide)⟩
  | 4, _ => exact ⟨[97, 98, 99, 100], rfl, by decide, by decide, Lw_of (by decide)⟩
theorem pick_more {i : Nat} (h : i < 3) : ∃ s, [D.str (Str.ofString ""), .str (Str.ofString ""), .str (Str.ofString "y")].getD i .non = .str (Tx s) ∧ s.length ≤ 1 ∧ Lw s := by
  match i, h with
  | 0, _ => exact ⟨[], rfl, by decide, Lw_of (by decide)⟩
  | 1, _ => exact ⟨[], rfl, by decide, Lw_of (by decide)⟩
  | 2, _ => exact ⟨[121], rfl, by decide, Lw_of (by decide)⟩
theorem pick_many {i : Nat} (h : i < 5) : ∃ k : Int, [D.int 0, .int 2, .int 4, .int 7, .int 14].getD i .non = .int k ∧ 0 ≤ k ∧ k ≤ 100 := by
  match i, h with
  | 0, _ => exact ⟨0, rfl, by decide, by decide⟩
  | 1, _ => exact ⟨2, rfl, by decide, by decide⟩
  | 2, _ => exact ⟨4, rfl, by decide, by decide⟩
  | 3, _ => exact ⟨7, rfl, by decide, by decide⟩
  | 4, _ => exact ⟨14, rfl, by decide, by decide⟩
theorem pick_most {i : Nat} (h : i < 4) : ∃ k : Int, [D.int 1, .int 2, .int 4, .int 12].getD i .non = .int k ∧ 0 < k ∧ k ≤ 12 := by
  match i, h with
  | 0, _ => exact ⟨1, rfl, by decide, by decide⟩
  | 1, _ => exact ⟨2, rfl, by decide, by decide⟩
  | 2, _ => exact ⟨4, rfl, by decide, by decide⟩
  | 3, _ => exact ⟨12, rfl, by decide, by decide⟩
theorem pick_len {i : Nat} (h : i < 3) : ∃ k : Int, [D.int 3, .int 8, .int 24].getD i .non = .int k ∧ 3 ≤ k ∧ k ≤ 24 := by
  match i, h with
  | 0, _ => exact ⟨3, rfl, by decide, by decide⟩
  | 1, _ => exact ⟨8, rfl, by decide, by decide⟩
  | 2, _ => exact ⟨24, rfl, by decide, by decide⟩
theorem take10 (ws : List (List Nat)) : slD (.lst (txs ws)) none (some 10) = some (.own (.lst (txs (ws.take 10)))) := by
  show some (RV.own (.lst (Den.cutD (txs ws) none (some 10)))) = _
  unfold Den.cutD
  have e : HT.sIx (txs ws).length (txs ws).length (some 10) = min 10 (txs ws).length := HT.sIx_nat _ _ 10
  rw [HT.sIx_none, e, List.drop_zero, Nat.sub_zero]
  have : (txs ws).take (min 10 (txs ws).length) = txs (ws.take 10) := by
    have e2 : (txs ws).take (min 10 (txs ws).length) = (txs ws).take 10 := by
      rw [List.take_eq_take_iff]; omega
    rw [e2]
    show (ws.map _).take 10 = (ws.take 10).map _
    rw [List.map_take]
  rw [this]
theorem F_right (n : Nat) (p : Int × Int) (hp : POK p) : ∃ r, d__law_right.F (tab prg (n+9)) 60 [.own (potD p)] = some r ∧ ∃ q, r = (.dat (.bl true), [.own (potD q)]) := by
  obtain ⟨i1, p1, c1, l1, hp1⟩ := F_pick (n + 6) p [.str (Str.ofString "a"), .str (Str.ofString "ab"), .str (Str.ofString "ab"), .str (Str.ofString "abc"), .str (Str.ofString "abcd")] hp (by decide) (by decide)
  obtain ⟨s, es, s0, s1, ls⟩ := pick_signs l1
  rw [es] at c1
  obtain ⟨i2, p2, c2, l2, hp2⟩ := F_pick (n + 6) p1 [.int 0, .int 2, .int 4, .int 7, .int 14] hp1 (by decide) (by decide)
  obtain ⟨k, ek, k0, k1⟩ := pick_many l2
  rw [ek] at c2
  obtain ⟨i3, p3, c3, l3, hp3⟩ := F_pick (n + 6) p2 [.int 1, .int 2, .int 4, .int 12] hp2 (by decide) (by decide)
  obtain ⟨m, em, m0, m1⟩ := pick_most l3
  rw [em] at c3
  obtain ⟨ws, p4, c4, hW, hp4⟩ := F_terms (n + 4) p3 s k m hp3 s0 (by omega) k0 k1 m0 (by omega)
  have ht := take10 ws
  have hw : ∀ w ∈ ws.take 10, Wd w ∧ w.length ≤ 12 := fun w h => by
    obtain ⟨w0, w1, w2⟩ := hW.each w (List.mem_of_mem_take h)
    exact ⟨⟨fun e => by subst e; exact absurd w0 (by decide), fun c hc => ls c (w2 c hc)⟩, by omega⟩
  have nd : (ws.take 10).Nodup := hW.nd.sublist (List.take_sublist _ _)
  have hl : (ws.take 10).length ≤ 10 := by rw [List.length_take]; omega
  generalize ws.take 10 = vs at ht hw nd hl
  have hI := F_init (n + 3) vs hw nd hl
  have hE := F_eq (n + 7) vs hw
  rw [den__law_right]
  apply ex_fn
  · walk_at "ev"
  apply ex_seq
  · walk_at "ev"
  apply ex_seq
  · walk_at "ev"
  apply ex_seq
  · walk_at "ev"
  apply ex_for (fun i env => ∃ q a b, env = [.own (potD q), sw s, .dat (.lst (txs vs)), .dat (lotD vs), a, b] ∧ POK q)
  · apply ev_rng1
    · walk_at "ev"
    · decide
  · rfl
  · exact ⟨p4, _, _, rfl, hp4⟩
  · rintro i env d hd ⟨q, a, b, rfl, hq⟩
    obtain ⟨j1, q1, d1, e1, hq1⟩ := F_pick (n + 6) q [.str (Str.ofString ""), .str (Str.ofString ""), .str (Str.ofString "y")] hq (by decide) (by decide)
    obtain ⟨u, eu, u1, lu⟩ := pick_more e1
    rw [eu] at d1
    obtain ⟨j2, q2, d2, e2, hq2⟩ := F_pick (n + 6) q1 [.int 3, .int 8, .int 24] hq1 (by decide) (by decide)
    obtain ⟨z, ez, z0, z1⟩ := pick_len e2
    rw [ez] at d2
    have ha := add_Tx (a := s) (b := u) (Nat.le_trans (show s.length + u.length ≤ 100 by omega) (by decide))
    obtain ⟨w, q3, d3, hwq, wl, hq3⟩ := F_asked (n + 4) q2 vs (s ++ u) z hq2 (by rw [List.length_append]; omega) (by rw [List.length_append]; omega) (ls.app lu) hw (by omega) z0 z1
    obtain ⟨r4, d4, q4, rfl, hq4⟩ := F_found_right (n + 2) q3 vs w hq3 hwq wl hw hl
    have d5 := F_links_right n vs w hwq wl hw nd hl
    apply ex_step
    · walk_at "ev"
    · walk_at "ev"
    · exact ⟨q4, _, _, rfl, hq4⟩
  · rintro env ⟨q, a, b, rfl, hq⟩
    apply ex_ret
    · walk_at "ev"
    · rfl
    · exact ⟨q, rfl⟩
theorem small5 (l : Nat) : (if (if (5 : Int) < (l : Int) then (5 : Int) else (l : Int)) > 2 then (if (5 : Int) < (l : Int) then (5 : Int) else (l : Int)) else 2) ≤ 5 := by (repeat' split) <;> omega
theorem small5' (l : Nat) : -(2 ^ 62) ≤ (if (if (5 : Int) < (l : Int) then (5 : Int) else (l : Int)) > 2 then (if (5 : Int) < (l : Int) then (5 : Int) else (l : Int)) else 2) ∧ (if (if (5 : Int) < (l : Int) then (5 : Int) else (l : Int)) > 2 then (if (5 : Int) < (l : Int) then (5 : Int) else (l : Int)) else 2) < 2 ^ 62 := by (repeat' split) <;> omega
end K13
end

section
set_option Elab.async false
set_option linter.all false
set_option maxRecDepth 100000
set_option maxHeartbeats 4000000
namespace K13
open PySem L2 Den PyProof.Rows
local macro_rules | `(tactic| walk_at "rf") => `(tactic| first
  | ((with_reducible show RV.cont _ _ = some _); exact rfl)
  | ((with_reducible show RV.dt _ = some _); exact rfl)
  | ((with_reducible show RV.cls _ = _); exact rfl)
  | ((with_reducible show RV.objf _ = _); exact rfl)
  | ((with_reducible show passE _ _ _ = some _); exact rfl)
  | ((with_reducible show BackAt _ _ _ _ _); first | exact BackAt.nil | apply BackAt.dat | apply BackAt.slot | apply BackAt.own)
  | ((with_reducible show onceB _ _ _ = true); exact rfl)
  | ((with_reducible show ownB _ _ _ = true); exact rfl)
  | ((with_reducible show pinned _ _ _ = false); exact rfl)
  | ((with_reducible show dts _ = some _); exact rfl)
  | ((with_reducible show conts _ _ = some _); exact rfl)
  | ((with_reducible show setSV _ _ = some _); exact rfl)
  | ((with_reducible show retK _ _ _ = some _); exact rfl)
  | ((with_reducible show fnK _ _ = some _); exact rfl)
  | ((with_reducible show List.length _ = _); exact rfl)
  | ((with_reducible show pick _ _ = _); exact rfl)
  | ((with_reducible show Nat.ble _ _ = true); exact rfl)
  | ((with_reducible show Nat.blt _ _ = true); exact rfl)
  | ((with_reducible show truthD _ = some _); exact rfl)
  | ((with_reducible show sideB _ _ = true); exact rfl)
  | ((with_reducible show intB _ = true); exact rfl)
  | ((with_reducible show eqSideB _ _ = true); exact rfl)
  | ((with_reducible show itemsD _ = some _); exact rfl)
  | ((with_reducible show putD _ _ _ = _); exact rfl)
  | ((with_reducible show List.lookup _ _ = _); exact rfl)
  | ((with_reducible show getElem? _ _ = some _); exact rfl)
  | with_reducible exact ixN0
  | with_reducible exact ixN1)
local macro_rules | `(tactic| walk_at "ln") => `(tactic| repeat' (first | with_reducible exact Ln.num (by walk_at "bd") | with_reducible exact Ln.lit | with_reducible exact Ln.emp | with_reducible apply Ln.app))
local macro_rules | `(tactic| walk_at "sa") => `(tactic| repeat' (first | with_reducible exact AppAt.nil | with_reducible apply AppAt.cons | with_reducible exact ZipAt.nil | with_reducible apply ZipAt.cons))
local macro_rules | `(tactic| walk_at "pr") => `(tactic| first
  | ((with_reducible apply ev_mul); walk_at "bd")
  | ((with_reducible apply ev_fdiv) <;> walk_at "bd")
  | ((with_reducible apply ev_mod); walk_at "bd")
  | ((with_reducible apply ev_divmod) <;> walk_at "bd")
  | ((with_reducible apply ev_pow) <;> walk_at "bd")
  | ((with_reducible apply ev_addS); exact Ln.ok2 (by walk_at "ln") (by walk_at "ln") rfl)
  | ((with_reducible apply ev_addL); walk_at "sa"; exact rfl)
  | ((with_reducible apply ev_append); walk_at "sa"; exact rfl)
  | ((with_reducible apply ev_strI); walk_at "bd")
  | with_reducible exact ev_twice
  | ((with_reducible apply len_Tx); walk_at "bd")
  | ((with_reducible apply add_Tx); walk_at "bd")
  | with_reducible exact eq_Tx _ _
  | with_reducible exact ne_Tx _ _
  | ((with_reducible apply sl_Tx); walk_at "bd")
  | ((with_reducible show addD _ _ = some _); exact rfl)
  | ((with_reducible show subD _ _ = some _); exact rfl)
  | ((with_reducible show cmpD _ _ _ _ = some _); exact rfl)
  | ((with_reducible show isD _ _ _ = some _); exact rfl)
  | ((with_reducible show ixD _ _ = some _); exact rfl)
  | ((with_reducible show absD _ = some _); exact rfl)
  | ((with_reducible show max2D _ = some _); exact rfl)
  | ((with_reducible show min2D _ = some _); exact rfl)
  | ((with_reducible show int1D _ = some _); exact rfl)
  | ((with_reducible show lenD _ = some _); exact rfl)
  | ((with_reducible show gcdD _ = some _); exact rfl)
  | ((with_reducible show allD _ = some _); exact rfl)
  | ((with_reducible show isi2D _ _ = some _); exact rfl)
  | ((with_reducible show negD _ = some _); exact rfl)
  | ((with_reducible show appendD _ _ = some _); exact rfl)
  | ((with_reducible show eqD _ _ = some _); exact rfl)
  | ((with_reducible show neD _ _ = some _); exact rfl)
  | ((with_reducible show mul3D _ _ = some _); exact rfl))
local macro_rules | `(tactic| walk_at "tt") => `(tactic| first | with_reducible exact bne_self _ | with_reducible assumption | exact rfl | assumption | (simp only [Bool.not_eq_true', Bool.not_eq_false', Bool.not_true, Bool.not_false, decide_eq_true_eq, decide_eq_false_iff_not, beq_iff_eq, bne_iff_ne, beq_eq_false_iff_ne, Bool.and_eq_true, Bool.and_true, Bool.true_and, if_true, Bool.false_eq_true, if_false]; first | done | assumption | omega) | (simp [*]; done))
local macro_rules | `(tactic| walk_at "ev1") => `(tactic| first
  | with_reducible exact ev_c
  | ((with_reducible show some _ = some _); with_reducible exact rfl)
  | ((with_reducible apply ev_vd); exact rfl)
  | ((with_reducible apply ev_vo); exact rfl)
  | ((with_reducible apply ev_vb); exact rfl)
  | with_reducible exact ev_aNil
  | with_reducible apply ev_aCons
  | with_reducible apply ev_aApp
  | with_reducible apply ev_aSel
  | with_reducible apply tail_of
  | with_reducible apply ev_binV
  | ((with_reducible apply binK_l (c := 0)); exact rfl)
  | ((with_reducible apply binK_r (c := 0)); exact rfl; exact rfl)
  | ((with_reducible apply binK_d); exact rfl; exact rfl)
  | with_reducible apply ev_bin
  | with_reducible apply ev_unV
  | ((with_reducible apply unK_l (c := 0)); exact rfl)
  | ((with_reducible apply unK_d); exact rfl)
  | with_reducible apply ev_cmpV
  | ((with_reducible apply cmpK_l (c := 0)); exact rfl)
  | ((with_reducible apply cmpK_d); exact rfl)
  | with_reducible apply ev_attrV
  | ((with_reducible apply attrK_l (c := 0)); exact rfl; walk_at "tb")
  | ((with_reducible apply attrK_f (c := 0)); exact rfl; walk_at "tb")
  | ((with_reducible apply attrK_s); exact rfl)
  | with_reducible apply fldV_of
  | with_reducible apply ev_reprV
  | ((with_reducible apply reprK_l (c := 0)); exact rfl)
  | ((with_reducible apply reprK_d); exact rfl)
  | with_reducible apply ev_fnS
  | with_reducible apply ev_cm
  | with_reducible apply ev_mkS
  | with_reducible apply ev_methS
  | with_reducible apply ev_call
  | with_reducible apply ev_tup
  | with_reducible apply ev_lst
  | with_reducible apply ev_not
  | ((with_reducible apply iteK_t); walk_at "tt")
  | ((with_reducible apply iteK_f); walk_at "tt")
  | with_reducible apply ev_if
  | with_reducible apply ev_and
  | with_reducible apply ev_or
  | with_reducible apply ev_bVal
  | with_reducible apply ev_bTruth
  | with_reducible apply ev_bNot
  | with_reducible apply ev_bAnd
  | with_reducible apply ev_bOr)
local macro_rules | `(tactic| walk_at "ev2") => `(tactic| first
  | with_reducible apply ev_seq
  | with_reducible apply seqK_nx
  | ((with_reducible show seqK _ _ = some _); exact rfl)
  | with_reducible apply ev_set
  | with_reducible apply ev_sif
  | with_reducible apply ev_ret
  | with_reducible exact ev_snil
  | with_reducible apply ev_par2
  | with_reducible apply ev_par3
  | with_reducible apply ev_asg
  | with_reducible apply ev_exp
  | with_reducible apply ev_mut
  | with_reducible apply ev_fld
  | with_reducible apply ev_gset
  | with_reducible apply ev_gtup
  | with_reducible apply ev_gsc
  | with_reducible exact ev_gsn
  | with_reducible apply ev_gix
  | with_reducible exact SetAt.zero
  | with_reducible apply SetAt.succ
  | with_reducible exact Pad.nil
  | with_reducible apply Pad.dat
  | with_reducible apply Pad.own
  | with_reducible apply Pad.bor
  | with_reducible apply Pad.und
  | with_reducible exact WipeAt.nil
  | with_reducible apply WipeAt.cons
  | with_reducible exact fz_nil
  | ((with_reducible apply fz_own); exact rfl)
  | with_reducible apply ev_fz
  | with_reducible apply ev_lc
  | with_reducible exact lc_nil
  | with_reducible apply lc_cons
  | with_reducible apply ev_zipA
  | with_reducible exact ZipAt.nil
  | with_reducible apply ZipAt.cons
  | with_reducible exact ev_jsN
  | with_reducible apply ev_jsC
  | ((with_reducible show _ ≤ sizeLine); exact Ln.ok (by walk_at "ln") rfl)
  | ((with_reducible show Nat.log2 _ < 1920); walk_at "bd")
  | with_reducible apply ev_fmtI
  | with_reducible apply ev_walkV
  | with_reducible apply ev_chainT
  | with_reducible exact ev_oN
  | with_reducible apply ev_oS
  | with_reducible apply ev_sl
  | with_reducible apply ev_m1
  | with_reducible apply ev_sortKey
  | ((with_reducible apply ev_mut0); exact rfl)
  | with_reducible apply ev_rng1
  | with_reducible apply ev_fn)
local macro_rules | `(tactic| walk_at "ev") => `(tactic| repeat' (first | walk_at "rf" | walk_at "ev1" | walk_at "ev2" | walk_at "tb" | walk_at "call" | walk_at "pr"))
local macro_rules | `(tactic| walk_at "bd") => `(tactic| first | assumption | decide | omega)
local macro_rules | `(tactic| walk_at "tb") => `(tactic| first | with_reducible exact tb_0 _ | with_reducible exact tb_1 _ | with_reducible exact tb_2 _ | with_reducible exact tb_3 _ | with_reducible exact tb_4 _ | with_reducible exact tb_5 _ | with_reducible exact tb_6 _)
local macro_rules | `(tactic| walk_at "call") => `(tactic| with_reducible assumption)
local macro_rules | `(tactic| walk_at "ev") => `(tactic| repeat' (first | walk_at "call" | walk_at "rf" | walk_at "ev1" | walk_at "ev2" | walk_at "tb" | walk_at "pr"))
theorem tr : ∀ ns : List Int, ns.length ≤ 63 → (∀ i ∈ ns, Builtin.Int.intBits i ≤ 1048576) → ∃ e, d_law.F (tab prg 10) prg.fuel [.dat (.scr ns)] = some (.dat (.bl true), e) := by
  intro ns _ _
  show ∃ e, d_law.F (tab prg (9 + 1)) 60 [.dat (.scr ns)] = some (.dat (.bl true), e)
  refine ⟨[.dat (.scr ns)], ?_⟩
  have hj := small5 ns.length
  have hr := small5' ns.length
  generalize hJ : (if (if (5 : Int) < (ns.length : Int) then (5 : Int) else (ns.length : Int)) > 2 then (if (5 : Int) < (ns.length : Int) then (5 : Int) else (ns.length : Int)) else 2) = j at hj hr
  have hm : min2D [.int (ns.length : Nat), .int 5] = some (.dat (.int (if (5 : Int) < (ns.length : Int) then (5 : Int) else (ns.length : Int)))) := rfl
  have hM : max2D [.int 2, .int (if (5 : Int) < (ns.length : Int) then (5 : Int) else (ns.length : Int))] = some (.dat (.int j)) := by
    rw [← hJ]; rfl
  have hlc : lcF [1] (gSet 0 1) (fun env => some (true, env)) (pFnS [true] (d__law_right.F (tab prg 9) 60) ⟨1, [], [0]⟩ [] (aCons (pFnS [false, false] (d__law_pot.F (tab prg 9) 60) ⟨2, [], [0, 1]⟩ [] (aCons (pVar 0) (aCons (pVar 1) aNil)) aNil) aNil) aNil) (rangeD 0 j.toNat) [.dat (.scr ns), .und] = some (List.replicate (rangeD 0 j.toNat).length (.bl true), [.dat (.scr ns), .und]) := by
    refine lc_true _ fun d hd => ?_
    obtain ⟨k, rfl, hk⟩ := rng_mem hd
    obtain ⟨p, hP, hp⟩ := F_pot 8 ns (k : Int) (by omega) (by omega)
    obtain ⟨r, hR, q, rfl⟩ := F_right 0 p hp
    apply ex_true
    · walk_at "ev"
    · rfl
    · walk_at "ev"
    · rfl
    · walk_at "ev"
  have hb : Nat.ble (rangeD 0 j.toNat).length sizeLine = true := by
    unfold rangeD
    rw [List.length_map, List.length_range]; exact Nat.ble_eq_true_of_le (Nat.le_trans (show j.toNat ≤ 5 by omega) (by decide))
  have hall := allR (rangeD 0 j.toNat).length
  rw [den_law]
  walk_at "ev"
end K13
end

section
set_option Elab.async false
set_option linter.all false
namespace K13
open PySem L2 Den
end K13
open K13
open PySem PySem.W PyProof.Rows in
set_option maxRecDepth 100000 in
set_option maxHeartbeats 0 in
theorem PySem.Challenge.cw_walksback_k13_whole_bridges_holds : PySem.Challenge.rw_walksback_k13_whole_bridges.Holds := by
  w_on; o_law; k_head; (case hw => w_witness2)
  k_fill
  refine Den.walkG (l := PySem.Challenge.rw_walksback_k13_whole_bridges) (n := 63) (k := 25) (x := "_law_script") (F := d_law.F (Den.tab prg 10) prg.fuel) rfl (by decide) rfl ⟨rfl, by decide, by decide⟩ ?F ?T
  case T => exact tr
  case F =>
    intro w mg fa h Y G hmg
    have KX := PySem.W.kIn_of Y
    refine' hF_mk KX G hmg ?law ?f__wall ?f_is_integer ?f_is_letter ?f_is_word ?f_is_question ?f_is_list ?f_in_sequence ?f_sequence_key ?f_is_place ?f_check_question ?f_check_place ?f_found_at ?f_bridges ?f_bridges_at ?f_is_lot_word ?f_check_lot_words ?f_check_lot ?f__law_pot ?f__law_draw ?f__law_pick ?f__law_term ?f__law_terms ?f__law_asked ?f__law_found ?f__law_links ?f__law_found_right ?f__law_links_right ?f__law_right ?f_law ?cons ?c_Lot_here ?c_Lot ?isi ?gcd ?keys ?walk ?b_len ?b_abs ?b_max ?b_min ?b_int ?b_divmod ?b_all ?b_repr ?b_any ?b_sum ?b_isinstance ?b_sorted ?b_list ?b_tuple ?b_str ?b_bool ?b_dict ?b_set ?rng ?enm ?zip
    (case c_Lot_here => k_is)
    (case law => refine' Den.lawD_of st_law lawB rfl KX G ?a ?l ?c; (case a => k_is); (case l => k_is); (case c => k_is))
    (case f__wall => refine' Den.fnD_of st__wall sh__wall KX G ?a ?l ?c ?k; (case a => k_is); (case l => k_is); (case c => k_is); (case k => k_is))
    (case f_is_integer => refine' Den.fnD_of st_is_integer sh_is_integer KX G ?a ?l ?c ?k; (case a => k_is); (case l => k_is); (case c => k_is); (case k => k_is))
    (case f_is_letter => refine' Den.fnD_of st_is_letter sh_is_letter KX G ?a ?l ?c ?k; (case a => k_is); (case l => k_is); (case c => k_is); (case k => k_is))
    (case f_is_word => refine' Den.fnD_of st_is_word sh_is_word KX G ?a ?l ?c ?k; (case a => k_is); (case l => k_is); (case c => k_is); (case k => k_is))
    (case f_is_question => refine' Den.fnD_of st_is_question sh_is_question KX G ?a ?l ?c ?k; (case a => k_is); (case l => k_is); (case c => k_is); (case k => k_is))
    (case f_is_list => refine' Den.fnD_of st_is_list sh_is_list KX G ?a ?l ?c ?k; (case a => k_is); (case l => k_is); (case c => k_is); (case k => k_is))
    (case f_in_sequence => refine' Den.fnD_of st_in_sequence sh_in_sequence KX G ?a ?l ?c ?k; (case a => k_is); (case l => k_is); (case c => k_is); (case k => k_is))
    (case f_sequence_key => refine' Den.fnD_of st_sequence_key sh_sequence_key KX G ?a ?l ?c ?k; (case a => k_is); (case l => k_is); (case c => k_is); (case k => k_is))
    (case f_is_place => refine' Den.fnD_of st_is_place sh_is_place KX G ?a ?l ?c ?k; (case a => k_is); (case l => k_is); (case c => k_is); (case k => k_is))
    (case f_check_question => refine' Den.fnD_of st_check_question sh_check_question KX G ?a ?l ?c ?k; (case a => k_is); (case l => k_is); (case c => k_is); (case k => k_is))
    (case f_check_place => refine' Den.fnD_of st_check_place sh_check_place KX G ?a ?l ?c ?k; (case a => k_is); (case l => k_is); (case c => k_is); (case k => k_is))
    (case f_found_at => refine' Den.fnD_of st_found_at sh_found_at KX G ?a ?l ?c ?k; (case a => k_is); (case l => k_is); (case c => k_is); (case k => k_is))
    (case f_bridges => refine' Den.fnD_of st_bridges sh_bridges KX G ?a ?l ?c ?k; (case a => k_is); (case l => k_is); (case c => k_is); (case k => k_is))
    (case f_bridges_at => refine' Den.fnD_of st_bridges_at sh_bridges_at KX G ?a ?l ?c ?k; (case a => k_is); (case l => k_is); (case c => k_is); (case k => k_is))
    (case f_is_lot_word => refine' Den.fnD_of st_is_lot_word sh_is_lot_word KX G ?a ?l ?c ?k; (case a => k_is); (case l => k_is); (case c => k_is); (case k => k_is))
    (case f_check_lot_words => refine' Den.fnD_of st_check_lot_words sh_check_lot_words KX G ?a ?l ?c ?k; (case a => k_is); (case l => k_is); (case c => k_is); (case k => k_is))
    (case f_check_lot => refine' Den.fnD_of st_check_lot sh_check_lot KX G ?a ?l ?c ?k; (case a => k_is); (case l => k_is); (case c => k_is); (case k => k_is))
    (case f__law_pot => refine' Den.fnD_of st__law_pot sh__law_pot KX G ?a ?l ?c ?k; (case a => k_is); (case l => k_is); (case c => k_is); (case k => k_is))
    (case f__law_draw => refine' Den.fnD_of st__law_draw sh__law_draw KX G ?a ?l ?c ?k; (case a => k_is); (case l => k_is); (case c => k_is); (case k => k_is))
    (case f__law_pick => refine' Den.fnD_of st__law_pick sh__law_pick KX G ?a ?l ?c ?k; (case a => k_is); (case l => k_is); (case c => k_is); (case k => k_is))
    (case f__law_term => refine' Den.fnD_of st__law_term sh__law_term KX G ?a ?l ?c ?k; (case a => k_is); (case l => k_is); (case c => k_is); (case k => k_is))
    (case f__law_terms => refine' Den.fnD_of st__law_terms sh__law_terms KX G ?a ?l ?c ?k; (case a => k_is); (case l => k_is); (case c => k_is); (case k => k_is))
    (case f__law_asked => refine' Den.fnD_of st__law_asked sh__law_asked KX G ?a ?l ?c ?k; (case a => k_is); (case l => k_is); (case c => k_is); (case k => k_is))
    (case f__law_found => refine' Den.fnD_of st__law_found sh__law_found KX G ?a ?l ?c ?k; (case a => k_is); (case l => k_is); (case c => k_is); (case k => k_is))
    (case f__law_links => refine' Den.fnD_of st__law_links sh__law_links KX G ?a ?l ?c ?k; (case a => k_is); (case l => k_is); (case c => k_is); (case k => k_is))
    (case f__law_found_right => refine' Den.fnD_of st__law_found_right sh__law_found_right KX G ?a ?l ?c ?k; (case a => k_is); (case l => k_is); (case c => k_is); (case k => k_is))
    (case f__law_links_right => refine' Den.fnD_of st__law_links_right sh__law_links_right KX G ?a ?l ?c ?k; (case a => k_is); (case l => k_is); (case c => k_is); (case k => k_is))
    (case f__law_right => refine' Den.fnD_of st__law_right sh__law_right KX G ?a ?l ?c ?k; (case a => k_is); (case l => k_is); (case c => k_is); (case k => k_is))
    (case f_law => refine' Den.fnD_of st_law sh_law KX G ?a ?l ?c ?k; (case a => k_is); (case l => k_is); (case c => k_is); (case k => k_is))
    (case cons => exact ⟨⟨_, .int (24), PySem.W.mg_of KX G (by k_is), ⟨_, rfl⟩, fun _ => .int _⟩, trivial⟩)
    (case keys =>
      refine' ⟨?y0, trivial⟩
      (case y0 => refine' Den.keyD_of st_sequence_key bn_sequence_key ⟨_, _, _, _, _, _, _, rfl⟩ rfl rfl rfl rfl rfl KX G (PySem.W.mg_none_of KX G ?b) ?a ?l ?c; (case b => k_is); (case a => k_is); (case l => k_is); (case c => k_is)))
    (case walk =>
      refine' ⟨?y0, trivial⟩
      (case y0 => dsimp only [Wc]; refine' Den.walkD_of st_Lot___iter__ sh_Lot___iter__ ⟨_, _, _, _, _, rfl⟩ rfl rfl rfl rfl rfl rfl KX G ?hm ⟨?pg, ?hd, ?po, ?sa⟩ ?na ?a ?i ?l ?c; (case hm => k_is); (case pg => k_is); (case hd => k_is); (case po => k_is); (case sa => k_is); (case na => unfold L2.NoAttr; k_is); (case a => k_is); (case i => k_is); (case l => k_is); (case c => k_is)))
    (case b_len => k_is)
    (case b_abs => k_is)
    (case b_max => k_is)
    (case b_min => k_is)
    (case b_int => k_is)
    (case b_divmod => k_is)
    (case b_all => k_is)
    (case b_repr => k_is)
    (case b_any => k_is)
    (case b_sum => k_is)
    (case b_isinstance => k_is)
    (case b_sorted => k_is)
    (case b_list => k_is)
    (case b_tuple => k_is)
    (case b_str => k_is)
    (case b_bool => k_is)
    (case b_dict => k_is)
    (case b_set => k_is)
    (case rng => k_is)
    (case enm => k_is)
    (case zip => k_is)
    (case gcd => exact trivial)
    (case c_Lot =>
      refine' ⟨?here, ?pg, ?hd, ?po, ?sa, ?fld, ?ini, ?ms, ?cms, ?props, ?bins, ?rbins, ?uns, ?eq, ?cv⟩
      (case here => exact PySem.W.mg_of KX G (by k_is))
      (case pg => k_is)
      (case hd => k_is)
      (case po => k_is)
      (case sa => k_is)
      (case fld => exact ⟨by dsimp only; k_is, trivial⟩)
      (case ini => refine' Den.iniA_of st_Lot___init__ sh_Lot___init__ ?mk ?a ?i ?k ?l ?c ?lT ?oT ?v; (case mk => k_is); (case a => k_is); (case i => k_is); (case k => k_is); (case l => k_is); (case c => k_is); (case lT => k_is); (case oT => rfl); (case v => rfl))
      (case ms =>
        refine' ⟨?x0, ?x1, ?x2, ?x3, ?x4, ?x5, ?x6, trivial⟩
        (case x0 => refine' Den.msD_of st_Lot_words sh_Lot_words ?a ?i ?k ?l ?c; (case a => k_is); (case i => k_is); (case k => k_is); (case l => k_is); (case c => k_is))
        (case x1 => refine' Den.msD_of st_Lot_letters sh_Lot_letters ?a ?i ?k ?l ?c; (case a => k_is); (case i => k_is); (case k => k_is); (case l => k_is); (case c => k_is))
        (case x2 => refine' Den.msD_of st_Lot_longest sh_Lot_longest ?a ?i ?k ?l ?c; (case a => k_is); (case i => k_is); (case k => k_is); (case l => k_is); (case c => k_is))
        (case x3 => refine' Den.msD_of st_Lot_shortest sh_Lot_shortest ?a ?i ?k ?l ?c; (case a => k_is); (case i => k_is); (case k => k_is); (case l => k_is); (case c => k_is))
        (case x4 => refine' Den.msD_of st_Lot_renamed sh_Lot_renamed ?a ?i ?k ?l ?c; (case a => k_is); (case i => k_is); (case k => k_is); (case l => k_is); (case c => k_is))
        (case x5 => refine' Den.msD_of st_Lot_backwards sh_Lot_backwards ?a ?i ?k ?l ?c; (case a => k_is); (case i => k_is); (case k => k_is); (case l => k_is); (case c => k_is))
        (case x6 => refine' Den.msD_of st_Lot_is_within sh_Lot_is_within ?a ?i ?k ?l ?c; (case a => k_is); (case i => k_is); (case k => k_is); (case l => k_is); (case c => k_is)))
      (case cms => trivial)
      (case props => trivial)
      (case bins =>
        refine' ⟨?x0, ?x1, trivial⟩
        (case x0 => refine' Den.binD_of st_Lot___add__ sh_Lot___add__ rfl ?a ?i ?sf ?r ?hr ?i1 ?i2 ?sb ?l ?c; (case a => k_is); (case i => k_is); (case sf => k_is); (case r => k_is); (case i1 => k_is); (case i2 => k_is); (case sb => k_is); (case l => k_is); (case c => k_is); (case hr => first | exact .inl rfl | exact .inr ⟨_, rfl⟩))
        (case x1 => refine' Den.binD_of st_Lot___sub__ sh_Lot___sub__ rfl ?a ?i ?sf ?r ?hr ?i1 ?i2 ?sb ?l ?c; (case a => k_is); (case i => k_is); (case sf => k_is); (case r => k_is); (case i1 => k_is); (case i2 => k_is); (case sb => k_is); (case l => k_is); (case c => k_is); (case hr => first | exact .inl rfl | exact .inr ⟨_, rfl⟩)))
      (case rbins => trivial)
      (case uns =>
        refine' ⟨?x0, trivial⟩
        (case x0 => refine' Den.unD_of st_Lot___repr__ sh_Lot___repr__ rfl ?a ?i ?l ?c; (case a => k_is); (case i => k_is); (case l => k_is); (case c => k_is)))
      (case eq => intro d hd; cases hd; refine' Den.eqD_of st_Lot___eq__ sh_Lot___eq__ rfl ?a ?i ?ne ?ob ?l ?c ⟨by dsimp only; k_is, by dsimp only; k_is, by dsimp only; k_is, by dsimp only; k_is, by dsimp only; k_is, by dsimp only; k_is, by dsimp only; k_is, trivial⟩; (case a => k_is); (case i => k_is); (case ne => k_is); (case ob => k_is); (case l => k_is); (case c => k_is))
      (case cv =>
        refine' ⟨?v0, ?v1, trivial⟩
        (case v0 => refine' Den.cvalD_of (mc := .type "type") (v := .int _) ?r ?ga ⟨?av, ?rl⟩ (fun _ _ => .int _); (case r => k_is); (case ga => k_is); (case av => k_is); (case rl => exact ⟨_, rfl⟩))
        (case v1 => refine' Den.cvalD_of (mc := .type "type") (v := .int _) ?r ?ga ⟨?av, ?rl⟩ (fun _ _ => .int _); (case r => k_is); (case ga => k_is); (case av => k_is); (case rl => exact ⟨_, rfl⟩))))
    (case isi => refine' Den.isiOk_of (cs := [0]) ?ia ?ib rfl; (case ia => refine' ⟨by dsimp only [Den.tyVal, Wc]; kit_is, by dsimp only [Den.tyVal, Wc]; kit_is, by dsimp only [Den.tyVal, Wc]; kit_is, by dsimp only [Den.tyVal, Wc]; kit_is, by dsimp only [Den.tyVal, Wc]; kit_is, by dsimp only [Den.tyVal, Wc]; kit_is, by dsimp only [Den.tyVal, Wc]; kit_is, by dsimp only [Den.tyVal, Wc]; kit_is, by dsimp only [Den.tyVal, Wc]; kit_is, by dsimp only [Den.tyVal, Wc]; kit_is, by dsimp only [Den.tyVal, Wc]; kit_is, by dsimp only [Den.tyVal, Wc]; kit_is, by dsimp only [Den.tyVal, Wc]; kit_is, by dsimp only [Den.tyVal, Wc]; kit_is, trivial⟩); (case ib => refine' ⟨⟨⟨by dsimp only [Wc]; k_is, by dsimp only [Wc]; k_is, by dsimp only [Wc]; k_is, by dsimp only [Wc]; k_is⟩, by dsimp only [Wc]; k_is, by dsimp only [Wc]; k_is, by dsimp only [Wc]; k_is, by dsimp only [Wc]; k_is⟩, trivial⟩))
end
