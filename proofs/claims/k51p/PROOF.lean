import PyProof.Rows.All
import Wide.All
import OpenK.AllK
import Wide.FinOn
import HandS.ForMost
import HandS.Flow
import HandS.IsInst
import HandS.Wide
import HandS.WideBits
import HandS.Walk
import HandS.Deep
import PyProof.StrOps2
import PyProof.ReprRoads
import HandS.Text
import HandS.Style
import HandS.SortInts
import KE.SortData
import HandS.Small
import HandS.SortKw
import HandS.ClsMeth
import KE.KOpsOwn
import HandS.Property
import HandS.Gcd
import HandS.FStr
import HandS.Ends
import HandS.HeadEnd
import HandS.EndBits
import HandS.Words
import HandS.Defaults
import PySem.Challenge.RW_walksback_k51_whole_fractions_reckoned
set_option Elab.async false
section
set_option Elab.async false
set_option linter.all false
set_option maxRecDepth 100000
set_option maxHeartbeats 2000000
/-! DenA: data as values (D), what a value stands for (Rp), slots (SV), the relation of slots and heap (Rel). -/
namespace Den
open PySem L2

/-- data as a value: no address in it -/
inductive D where
  | non | bl (b : Bool) | int (i : Int) | str (x : Str) | lst (xs : List D) | tup (xs : List D) | dic (kvs : List (Key × D)) | obj (c : Nat) (fs : List (Str × D)) | scr (ns : List Int) | typ (n : String) | kls (c : Nat)

/-- what is fixed: the written part, the addresses of the own classes -/
structure Pw where
  K : PySem.W.Frag
  cl : Nat → Addr

mutual
/-- v stands for d, by what G tracks -/
inductive Rp (W : Pw) (G : Hp) : V → D → Prop
  | non : Rp W G .non .non
  | bl (b : Bool) : Rp W G (.bl b) (.bl b)
  | int (i : Int) : Rp W G (.int i) (.int i)
  | str (x : Str) : Rp W G (.str x) (.str x)
  | lst {a : Addr} {xs : List V} {ds : List D} : G a = some (.lst xs) → RpAll W G xs ds → Rp W G (.ref a) (.lst ds)
  | scr {a : Addr} {ns : List Int} : SqL W.K G a (ns.map V.int) → Rp W G (.ref a) (.scr ns)
  | tup {a : Addr} {xs : List V} {ds : List D} : G a = some (.tup xs) → RpAll W G xs ds → Rp W G (.ref a) (.tup ds)
  | typ (n : String) : Rp W G (.ty n) (.typ n)
  | kls (c : Nat) : Rp W G (.ref (W.cl c)) (.kls c)
  | dic {a : Addr} {kv : List (Key × V)} {kd : List (Key × D)} : G a = some (.dK kv) → RpK W G kv kd → Rp W G (.ref a) (.dic kd)
  | obj {a dx : Addr} {c : Nat} {fv : List (Str × V)} {fd : List (Str × D)} : G a = some (.ins (W.cl c) dx fv) → RpF W G fv fd → Rp W G (.ref a) (.obj c fd)
inductive RpAll (W : Pw) (G : Hp) : List V → List D → Prop
  | nil : RpAll W G [] []
  | cons {v : V} {vs : List V} {d : D} {ds : List D} : Rp W G v d → RpAll W G vs ds → RpAll W G (v :: vs) (d :: ds)
inductive RpK (W : Pw) (G : Hp) : List (Key × V) → List (Key × D) → Prop
  | nil : RpK W G [] []
  | cons {k : Key} {v : V} {vs : List (Key × V)} {d : D} {ds : List (Key × D)} : Rp W G v d → RpK W G vs ds → RpK W G ((k, v) :: vs) ((k, d) :: ds)
inductive RpF (W : Pw) (G : Hp) : List (Str × V) → List (Str × D) → Prop
  | nil : RpF W G [] []
  | cons {k : Str} {v : V} {vs : List (Str × V)} {d : D} {ds : List (Str × D)} : Rp W G v d → RpF W G vs ds → RpF W G ((k, v) :: vs) ((k, d) :: ds)
end

theorem Same.seqT {K : PySem.W.Frag} {H H' : Hp} {a : Addr} {xs : List V} (e : Same H H') (h : SqT K H a xs) : SqT K H' a xs := by
  rcases h with (h | ⟨o, h⟩) | h
  · exact .inl (.inl (e _ _ h))
  · exact .inl (.inr ⟨o, e _ _ h⟩)
  · exact .inr h

mutual
theorem Rp.mono {W : Pw} {G G' : Hp} (s : Same G G') : ∀ {d : D} {v : V}, Rp W G v d → Rp W G' v d
  | .non, _, h => by cases h; exact .non
  | .bl b, _, h => by cases h; exact .bl b
  | .int i, _, h => by cases h; exact .int i
  | .str x, _, h => by cases h; exact .str x
  | .lst ds, _, h => by cases h with | lst q r => exact .lst (s _ _ q) (RpAll.mono s r)
  | .scr ns, _, h => by cases h with | scr q => exact .scr (s.seq q)
  | .tup ds, _, h => by cases h with | tup q r => exact .tup (s _ _ q) (RpAll.mono s r)
  | .typ n, _, h => by cases h; exact .typ n
  | .kls c, _, h => by cases h; exact .kls c
  | .dic kd, _, h => by cases h with | dic q r => exact .dic (s _ _ q) (RpK.mono s r)
  | .obj c fd, _, h => by cases h with | obj q r => exact .obj (s _ _ q) (RpF.mono s r)
theorem RpAll.mono {W : Pw} {G G' : Hp} (s : Same G G') : ∀ {ds : List D} {vs : List V}, RpAll W G vs ds → RpAll W G' vs ds
  | [], _, h => by cases h; exact .nil
  | d :: ds, _, h => by cases h with | cons a b => exact .cons (Rp.mono s a) (RpAll.mono s b)
theorem RpK.mono {W : Pw} {G G' : Hp} (s : Same G G') : ∀ {ds : List (Key × D)} {vs : List (Key × V)}, RpK W G vs ds → RpK W G' vs ds
  | [], _, h => by cases h; exact .nil
  | (k, d) :: ds, _, h => by cases h with | cons a b => exact .cons (Rp.mono s a) (RpK.mono s b)
theorem RpF.mono {W : Pw} {G G' : Hp} (s : Same G G') : ∀ {ds : List (Str × D)} {vs : List (Str × V)}, RpF W G vs ds → RpF W G' vs ds
  | [], _, h => by cases h; exact .nil
  | (k, d) :: ds, _, h => by cases h with | cons a b => exact .cons (Rp.mono s a) (RpF.mono s b)
end

section
variable {W : Pw} {G : Hp}
theorem RpAll.length : ∀ {vs : List V} {ds : List D}, RpAll W G vs ds → vs.length = ds.length
  | _, _, .nil => rfl
  | _, _, .cons _ r => by simp [RpAll.length r]
theorem RpAll.append : ∀ {xs ys : List V} {ds es : List D}, RpAll W G xs ds → RpAll W G ys es → RpAll W G (xs ++ ys) (ds ++ es)
  | _, _, _, _, .nil, s => s
  | _, _, _, _, .cons a r, s => .cons a (RpAll.append r s)
theorem RpAll.get : ∀ {vs : List V} {ds : List D} {i : Nat} {d : D}, RpAll W G vs ds → ds[i]? = some d → ∃ v, vs[i]? = some v ∧ Rp W G v d
  | _, _, _, _, .nil, e => by simp at e
  | _, _, 0, _, .cons a _, e => by simp at e; subst e; exact ⟨_, rfl, a⟩
  | _, _, i + 1, _, .cons _ r, e => by
    obtain ⟨v, h1, h2⟩ := RpAll.get (i := i) r (by simpa using e)
    exact ⟨v, by simpa using h1, h2⟩
theorem RpAll.getV : ∀ {vs : List V} {ds : List D} {i : Nat} {v : V}, RpAll W G vs ds → vs[i]? = some v → ∃ d, ds[i]? = some d ∧ Rp W G v d
  | _, _, _, _, .nil, e => by simp at e
  | _, _, 0, _, .cons a _, e => by simp at e; subst e; exact ⟨_, rfl, a⟩
  | _, _, i + 1, _, .cons _ r, e => by
    obtain ⟨v, h1, h2⟩ := RpAll.getV (i := i) r (by simpa using e)
    exact ⟨v, by simpa using h1, h2⟩
theorem RpAll.take : ∀ {vs : List V} {ds : List D} (n : Nat), RpAll W G vs ds → RpAll W G (vs.take n) (ds.take n)
  | _, _, 0, _ => .nil
  | _, _, _ + 1, .nil => .nil
  | _, _, n + 1, .cons a r => .cons a (RpAll.take n r)
theorem RpAll.drop : ∀ {vs : List V} {ds : List D} (n : Nat), RpAll W G vs ds → RpAll W G (vs.drop n) (ds.drop n)
  | _, _, 0, r => r
  | _, _, _ + 1, .nil => .nil
  | _, _, n + 1, .cons _ r => RpAll.drop n r
theorem RpAll.set {v : V} {d : D} (r : Rp W G v d) : ∀ {vs : List V} {ds : List D} (i : Nat), RpAll W G vs ds → RpAll W G (vs.set i v) (ds.set i d)
  | _, _, _, .nil => .nil
  | _, _, 0, .cons _ t => .cons r t
  | _, _, i + 1, .cons q t => .cons q (RpAll.set r i t)
theorem RpAll.reverse {vs : List V} {ds : List D} (r : RpAll W G vs ds) : RpAll W G vs.reverse ds.reverse := by
  induction r using RpAll.rec (motive_1 := fun _ _ _ => True) (motive_3 := fun _ _ _ => True) (motive_4 := fun _ _ _ => True) with
  | nil => exact .nil
  | cons a _ _ ih => simp only [List.reverse_cons]; exact RpAll.append ih (.cons a .nil)
  | _ => trivial
end

/-- a slot: nothing known, data that nobody changes, an object of one's own (changed by this name alone), somebody's object that is read -/
inductive SV where
  | und | dat (d : D) | own (d : D) | bor (d : D)

/-- the object o stands for d, the things in it by G -/
inductive Ob (W : Pw) (G : Hp) : HO → D → Prop
  | lst {xs : List V} {ds : List D} : RpAll W G xs ds → Ob W G (.lst xs) (.lst ds)
  | dic {kv : List (Key × V)} {kd : List (Key × D)} : RpK W G kv kd → Ob W G (.dK kv) (.dic kd)
  | obj {c : Nat} {dx : Addr} {fv : List (Str × V)} {fd : List (Str × D)} : RpF W G fv fd → Ob W G (.ins (W.cl c) dx fv) (.obj c fd)
theorem Ob.mono {W : Pw} {G G' : Hp} {o : HO} {d : D} (s : Same G G') (h : Ob W G o d) : Ob W G' o d := by
  cases h with
  | lst r => exact .lst (RpAll.mono s r)
  | dic r => exact .dic (RpK.mono s r)
  | obj r => exact .obj (RpF.mono s r)
/-- an object that is tracked, with what it stands for: frozen -/
theorem Ob.rp {W : Pw} {G : Hp} {a : Addr} {o : HO} {d : D} (e : G a = some o) (h : Ob W G o d) : Rp W G (.ref a) d := by
  cases h with
  | lst r => exact .lst e r
  | dic r => exact .dic e r
  | obj r => exact .obj e r

abbrev Env' := List SV
def SV.isOwn : SV → Bool
  | .own _ => true
  | _ => false
def SV.isObj : SV → Bool
  | .own _ => true
  | .bor _ => true
  | _ => false
/-- slot x, as s says: G the frozen part, H the heap -/
def SlOk (W : Pw) (G H : Hp) (x : Option (Option V)) : SV → Prop
  | .und => True
  | .dat d => ∃ v, x = some (some v) ∧ Rp W G v d
  | .own d => ∃ a o, x = some (some (.ref a)) ∧ H a = some o ∧ G a = none ∧ Ob W G o d
  | .bor d => ∃ a o, x = some (some (.ref a)) ∧ H a = some o ∧ Ob W G o d
/-- b is an object of one's own -/
def IsOwn (σ : St) (env : Env') (b : Addr) : Prop := ∃ (i : Nat) (d : D), env[i]? = some (.own d) ∧ σ[i]? = some (some (.ref b))

structure Rel (W : Pw) (σ : St) (env : Env') (H G : Hp) : Prop where
  len : σ.length = env.length
  sub : Same G H
  slot : ∀ (i : Nat) (s : SV), env[i]? = some s → SlOk W G H σ[i]? s
  dist : ∀ (i j : Nat) (d : D) (s : SV) (a : Addr), env[i]? = some (.own d) → env[j]? = some s → s.isObj = true → σ[i]? = some (some (.ref a)) → σ[j]? = some (some (.ref a)) → i = j

/-- what a step leaves: G grows by what is new, what is tracked stays tracked -/
structure Ext (H G H' G' : Hp) : Prop where
  same : Same G G'
  new : ∀ b, H b ≠ none → G b = none → G' b = none
  dom : ∀ b, H' b = none → H b = none
theorem Ext.refl (H G : Hp) : Ext H G H G := ⟨Same.refl G, fun _ _ h => h, fun _ h => h⟩
theorem Ext.trans {H G H1 G1 H2 G2 : Hp} (a : Ext H G H1 G1) (b : Ext H1 G1 H2 G2) : Ext H G H2 G2 :=
  ⟨a.same.trans b.same, fun c h e => b.new c (fun z => h (a.dom c z)) (a.new c h e), fun c h => a.dom c (b.dom c h)⟩

/-- the slots behind an expression: own ones may have changed, a block's are forgotten -/
def LeS : SV → SV → Prop
  | _, .und => True
  | s, .own _ => s.isOwn = true
  | s, t => s = t
structure Le (env env' : Env') : Prop where
  len : env.length = env'.length
  at_ : ∀ (i : Nat) (s s' : SV), env[i]? = some s → env'[i]? = some s' → LeS s s'
theorem LeS.refl (s : SV) : LeS s s := by cases s <;> simp [LeS, SV.isOwn]
theorem LeS.trans {a b c : SV} (h : LeS a b) (k : LeS b c) : LeS a c := by
  cases c <;> cases b <;> cases a <;> simp_all [LeS, SV.isOwn]
theorem Le.refl (env : Env') : Le env env := ⟨rfl, fun i s s' h h' => by rw [h] at h'; cases h'; exact LeS.refl s⟩
theorem Le.trans {a b c : Env'} (h : Le a b) (k : Le b c) : Le a c := ⟨h.len.trans k.len, fun i s s' e e' => by
  have hi : i < b.length := by
    have := (List.getElem?_eq_some_iff.mp e).1
    have := h.len; omega
  exact (h.at_ i s b[i] e (by simp [hi])).trans (k.at_ i b[i] s' (by simp [hi]) e')⟩
theorem Le.own {a b : Env'} (h : Le a b) {i : Nat} {d : D} (e : b[i]? = some (.own d)) : ∃ d', a[i]? = some (.own d') := by
  have hi : i < a.length := by
    have := (List.getElem?_eq_some_iff.mp e).1
    have := h.len; omega
  have q := h.at_ i a[i] _ (by simp [hi]) e
  cases z : a[i] <;> rw [z] at q <;> simp [LeS, SV.isOwn] at q
  exact ⟨_, by rw [List.getElem?_eq_getElem hi, z]⟩
theorem IsOwn.le {σ : St} {a b : Env'} (h : Le a b) {c : Addr} (o : IsOwn σ b c) : IsOwn σ a c := by
  obtain ⟨i, d, e, s⟩ := o
  obtain ⟨d', e'⟩ := h.own e
  exact ⟨i, d', e', s⟩

/-- behind an expression -/
structure Step (W : Pw) (σ : St) (env : Env') (H G : Hp) (env' : Env') (H' G' : Hp) : Prop where
  le : Le env env'
  rel : Rel W σ env' H' G'
  ext : Ext H G H' G'
  keep : ∀ b o, H b = some o → ¬ IsOwn σ env b → H' b = some o
theorem Step.refl {W : Pw} {σ : St} {env : Env'} {H G : Hp} (r : Rel W σ env H G) : Step W σ env H G env H G := ⟨Le.refl _, r, Ext.refl _ _, fun _ _ h _ => h⟩
theorem Step.trans {W : Pw} {σ : St} {env env1 env2 : Env'} {H G H1 G1 H2 G2 : Hp} (a : Step W σ env H G env1 H1 G1) (b : Step W σ env1 H1 G1 env2 H2 G2) : Step W σ env H G env2 H2 G2 :=
  ⟨a.le.trans b.le, b.rel, a.ext.trans b.ext, fun c o h n => b.keep c o (a.keep c o h n) fun z => n (z.le a.le)⟩

/-- an expression's value -/
inductive RV where
  | dat (d : D) | own (d : D) | slot (i : Nat)
/-- what the value holds now -/
def RV.cont (env : Env') : RV → Option D
  | .dat d => some d
  | .own d => some d
  | .slot i => match env[i]? with
    | some (.own d) => some d
    | some (.bor d) => some d
    | _ => none

/-- v is the value rv, behind a step from H to H' -/
def RvOk (W : Pw) (σ : St) (H H' G' : Hp) (v : V) : RV → Prop
  | .dat d => Rp W G' v d
  | .own d => ∃ a o, v = .ref a ∧ H' a = some o ∧ G' a = none ∧ H a = none ∧ Ob W G' o d
  | .slot i => ∃ a, v = .ref a ∧ σ[i]? = some (some (.ref a))
/-- behind a further step -/
theorem RvOk.step {W : Pw} {σ : St} {env env' : Env'} {H H1 G1 H2 G2 : Hp} {v : V} {rv : RV} (h : RvOk W σ H H1 G1 v rv) (r : Rel W σ env H1 G1) (hn : ∀ b, IsOwn σ env b → H b ≠ none) (s : Step W σ env H1 G1 env' H2 G2) : RvOk W σ H H2 G2 v rv := by
  cases rv with
  | dat d => exact Rp.mono s.ext.same h
  | own d =>
    obtain ⟨a, o, e, h1, g1, h0, ob⟩ := h
    have na : ¬ IsOwn σ env a := fun z => hn a z h0
    exact ⟨a, o, e, s.keep a o h1 na, s.ext.new a (by rw [h1]; simp) g1, h0, ob.mono s.ext.same⟩
  | slot i => exact h
theorem Rel.ownNe {W : Pw} {σ : St} {env : Env'} {H G : Hp} (r : Rel W σ env H G) {b : Addr} (o : IsOwn σ env b) : H b ≠ none := by
  obtain ⟨i, d, e, s⟩ := o
  obtain ⟨a, ob, h1, h2, _⟩ := r.slot i _ e
  rw [s] at h1
  cases h1
  rw [h2]; simp
theorem Step.ownNe {W : Pw} {σ : St} {env env' : Env'} {H G H' G' : Hp} (r : Rel W σ env H G) (s : Step W σ env H G env' H' G') {b : Addr} (o : IsOwn σ env' b) : H b ≠ none := r.ownNe (o.le s.le)

/-- v shows d: frozen or flat data, or an object that stands in H -/
inductive Vw (W : Pw) (G H : Hp) (v : V) (d : D) : Prop where
  | rp (h : Rp W G v d)
  | ob {a : Addr} {o : HO} (e : v = .ref a) (h : H a = some o) (q : Ob W G o d)
theorem RvOk.vw {W : Pw} {σ : St} {env : Env'} {H H' G' : Hp} {v : V} {rv : RV} {d : D} (h : RvOk W σ H H' G' v rv) (r : Rel W σ env H' G') (c : rv.cont env = some d) : Vw W G' H' v d := by
  cases rv with
  | dat e => simp [RV.cont] at c; subst c; exact .rp h
  | own e => simp [RV.cont] at c; subst c; obtain ⟨a, o, e1, h1, _, _, ob⟩ := h; exact .ob e1 h1 ob
  | slot i =>
    obtain ⟨a, e1, e2⟩ := h
    simp only [RV.cont] at c
    split at c
    · rename_i d' ed
      cases c
      obtain ⟨a', o, h1, h2, _, ob⟩ := r.slot i _ ed
      rw [e2] at h1; cases h1
      exact .ob e1 h2 ob
    · rename_i d' ed
      cases c
      obtain ⟨a', o, h1, h2, ob⟩ := r.slot i _ ed
      rw [e2] at h1; cases h1
      exact .ob e1 h2 ob
    · cases c
section
variable {W : Pw} {G H : Hp} {v : V}
theorem Vw.lst {ds : List D} (s : Same G H) (h : Vw W G H v (.lst ds)) : ∃ a vs, v = .ref a ∧ H a = some (.lst vs) ∧ RpAll W G vs ds := by
  cases h with
  | rp h => cases h with | lst q r => exact ⟨_, _, rfl, s _ _ q, r⟩
  | ob e h q => cases q with | lst r => exact ⟨_, _, e, h, r⟩
theorem Vw.scr {ns : List Int} (s : Same G H) (h : Vw W G H v (.scr ns)) : ∃ a, v = .ref a ∧ SqL W.K H a (ns.map V.int) := by
  cases h with
  | rp h => cases h with | scr q => exact ⟨_, rfl, s.seq q⟩
  | ob e h q => cases q
theorem Vw.tup {ds : List D} (s : Same G H) (h : Vw W G H v (.tup ds)) : ∃ a vs, v = .ref a ∧ H a = some (.tup vs) ∧ RpAll W G vs ds := by
  cases h with
  | rp h => cases h with | tup q r => exact ⟨_, _, rfl, s _ _ q, r⟩
  | ob e h q => cases q
theorem Vw.dic {ds : List (Key × D)} (s : Same G H) (h : Vw W G H v (.dic ds)) : ∃ a vs, v = .ref a ∧ H a = some (.dK vs) ∧ RpK W G vs ds := by
  cases h with
  | rp h => cases h with | dic q r => exact ⟨_, _, rfl, s _ _ q, r⟩
  | ob e h q => cases q with | dic r => exact ⟨_, _, e, h, r⟩
theorem Vw.obj {c : Nat} {fd : List (Str × D)} (s : Same G H) (h : Vw W G H v (.obj c fd)) : ∃ a dx fv, v = .ref a ∧ H a = some (.ins (W.cl c) dx fv) ∧ RpF W G fv fd := by
  cases h with
  | rp h => cases h with | obj q r => exact ⟨_, _, _, rfl, s _ _ q, r⟩
  | ob e h q => cases q with | obj r => exact ⟨_, _, _, e, h, r⟩
theorem Vw.typ {n : String} (h : Vw W G H v (.typ n)) : v = .ty n := by
  cases h with
  | rp h => cases h; rfl
  | ob e h q => cases q
theorem Vw.kls {c : Nat} (h : Vw W G H v (.kls c)) : v = .ref (W.cl c) := by
  cases h with
  | rp h => cases h; rfl
  | ob e h q => cases q
theorem Vw.str {x : Str} (h : Vw W G H v (.str x)) : v = .str x := by
  cases h with
  | rp h => cases h; rfl
  | ob e h q => cases q
theorem Vw.int {i : Int} (h : Vw W G H v (.int i)) : v = .int i := by
  cases h with
  | rp h => cases h; rfl
  | ob e h q => cases q
theorem Vw.bl {b : Bool} (h : Vw W G H v (.bl b)) : v = .bl b := by
  cases h with
  | rp h => cases h; rfl
  | ob e h q => cases q
theorem Vw.non (h : Vw W G H v .non) : v = .non := by
  cases h with
  | rp h => cases h; rfl
  | ob e h q => cases q
end

/-! ### the canonical readings -/
abbrev PF := Env' → Option (RV × Env')
def tE (W : Pw) (P : PF) : TE := fun σ H Q => ∃ env G rv env', Rel W σ env H G ∧ P env = some (rv, env') ∧ ∀ v H' G', Step W σ env H G env' H' G' → RvOk W σ H H' G' v rv → Q v H'
theorem PE.weak {X : Cx} {e : Expr} {t t' : TE} (h : PE X e t) (k : ∀ σ H Q, t' σ H Q → t σ H Q) : PE X e t' := ⟨fun pins s σ H Q I q => h.run pins s σ H Q I (k σ H Q q)⟩
theorem PT.weak {X : Cx} {e : Expr} {t t' : TT} (h : PT X e t) (k : ∀ σ H Q, t' σ H Q → t σ H Q) : PT X e t' := ⟨fun pins s σ H Q I q => h.run pins s σ H Q I (k σ H Q q)⟩
theorem PS.weak {X : Cx} {e : Stmt} {t t' : TS} (h : PS X e t) (k : ∀ D σ H, t' D σ H → t D σ H) : PS X e t' := ⟨fun pins s σ H D I q => h.run pins s σ H D I (k D σ H q)⟩
theorem PSs.weak {X : Cx} {e : List Stmt} {t t' : TS} (h : PSs X e t) (k : ∀ D σ H, t' D σ H → t D σ H) : PSs X e t' := ⟨fun pins s σ H D I q => h.run pins s σ H D I (k D σ H q)⟩
theorem PA.weak {X : Cx} {e : List Expr} {t t' : TA} (h : PA X e t) (k : ∀ σ H Q, t' σ H Q → t σ H Q) : PA X e t' := ⟨fun pos pins s σ H Q I q => h.run pos pins s σ H Q I (k σ H Q q)⟩

section
variable {W : Pw} {σ : St} {env e1 e2 : Env'} {H G : Hp}
/-- one operand -/
theorem tE_one {P : PF} {rv : RV} (r : Rel W σ env H G) (p : P env = some (rv, e1)) {Q : VK} (k : ∀ v H' G', Step W σ env H G e1 H' G' → RvOk W σ H H' G' v rv → Q v H') : tE W P σ H Q := ⟨env, G, rv, e1, r, p, k⟩
/-- two operands, one behind the other -/
theorem tE_two {P P' : PF} {ra rb : RV} (r : Rel W σ env H G) (p : P env = some (ra, e1)) (p' : P' e1 = some (rb, e2)) {R : V → V → Hp → Prop}
    (k : ∀ x y H' G', Step W σ env H G e2 H' G' → RvOk W σ H H' G' x ra → RvOk W σ H H' G' y rb → R x y H') : tE W P σ H fun x H1 => tE W P' σ H1 fun y H2 => R x y H2 := by
  refine ⟨env, G, ra, e1, r, p, fun v H1 G1 s1 o1 => ⟨e1, G1, rb, e2, s1.rel, p', fun u H2 G2 s2 o2 => ?_⟩⟩
  refine k v u H2 G2 (s1.trans s2) (o1.step s1.rel (fun b z => s1.ownNe r z) s2) ?_
  cases rb with
  | dat d => exact o2
  | own d =>
    obtain ⟨a, o, h1, h2, h3, h4, h5⟩ := o2
    exact ⟨a, o, h1, h2, h3, s1.ext.dom a h4, h5⟩
  | slot i => exact o2
end
end Den
end

section
set_option Elab.async false
set_option linter.all false
set_option maxRecDepth 100000
set_option maxHeartbeats 2000000
/-! DenB: expressions: constants, names, operators, tests, displays, arguments. -/
namespace Den
open PySem L2

/-- what an operation leaves that changes nothing that was there: a value that is no slot -/
structure NR (W : Pw) (H G : Hp) (v : V) (rv : RV) (H' G' : Hp) : Prop where
  kept : Same H H'
  ext : Ext H G H' G'
  sub : Same G' H'
  ok : match rv with
    | .dat d => Rp W G' v d
    | .own d => ∃ a o, v = .ref a ∧ H' a = some o ∧ G' a = none ∧ H a = none ∧ Ob W G' o d
    | .slot _ => False
theorem NR.dat {W : Pw} {H G : Hp} {v : V} {d : D} (s : Same G H) (h : Rp W G v d) : NR W H G v (.dat d) H G := ⟨Same.refl _, Ext.refl _ _, s, h⟩
theorem same_upd {H : Hp} {p : Addr} {o : HO} (n : H p = none) : Same H (upd H p o) := fun b u e => by rw [upd_ne (ne_of_none e n)]; exact e
theorem NR.own {W : Pw} {H G : Hp} {p : Addr} {o : HO} {d : D} (s : Same G H) (n : H p = none) (h : Ob W G o d) : NR W H G (.ref p) (.own d) (upd H p o) G := by
  have gp : G p = none := s.free n
  refine ⟨same_upd n, ⟨Same.refl _, fun _ _ h => h, fun b h => ?_⟩, s.trans (same_upd n), ⟨p, o, rfl, upd_same, gp, n, h⟩⟩
  by_cases e : b = p
  · subst e; exact n
  · rw [upd_ne e] at h; exact h
/-- a new object that is frozen at once -/
theorem NR.frz {W : Pw} {H G : Hp} {p : Addr} {o : HO} {d : D} (s : Same G H) (n : H p = none) (h : Rp W (upd G p o) (.ref p) d) : NR W H G (.ref p) (.dat d) (upd H p o) (upd G p o) := by
  have gp : G p = none := s.free n
  refine ⟨same_upd n, ⟨same_upd gp, fun b hb g => ?_, fun b h => ?_⟩, fun b u e => ?_, h⟩
  · have e : b ≠ p := fun z => hb (z ▸ n)
    rw [upd_ne e]; exact g
  · by_cases e : b = p
    · subst e; exact n
    · rw [upd_ne e] at h; exact h
  · by_cases z : b = p
    · subst z; rw [upd_same] at e ⊢; exact e
    · rw [upd_ne z] at e ⊢; exact s b u e
theorem Rel.grow {W : Pw} {σ : St} {env : Env'} {H G H' G' : Hp} (r : Rel W σ env H G) (k : Same H H') (e : Ext H G H' G') (s : Same G' H') : Rel W σ env H' G' := by
  refine ⟨r.len, s, fun i t h => ?_, r.dist⟩
  have q := r.slot i t h
  cases t with
  | und => trivial
  | dat d => obtain ⟨v, h1, h2⟩ := q; exact ⟨v, h1, Rp.mono e.same h2⟩
  | own d => obtain ⟨a, o, h1, h2, h3, h4⟩ := q; exact ⟨a, o, h1, k a o h2, e.new a (by rw [h2]; simp) h3, h4.mono e.same⟩
  | bor d => obtain ⟨a, o, h1, h2, h4⟩ := q; exact ⟨a, o, h1, k a o h2, h4.mono e.same⟩
theorem NR.step {W : Pw} {σ : St} {env : Env'} {H G H' G' : Hp} {v : V} {rv : RV} (n : NR W H G v rv H' G') (r : Rel W σ env H G) : Step W σ env H G env H' G' :=
  ⟨Le.refl _, r.grow n.kept n.ext n.sub, n.ext, fun b o h _ => n.kept b o h⟩
theorem NR.rv {W : Pw} {σ : St} {H0 H G H' G' : Hp} {v : V} {rv : RV} (n : NR W H G v rv H' G') (dom : ∀ b, H b = none → H0 b = none) : RvOk W σ H0 H' G' v rv := by
  have q := n.ok
  cases rv with
  | dat d => exact q
  | own d => obtain ⟨a, o, h1, h2, h3, h4, h5⟩ := q; exact ⟨a, o, h1, h2, h3, dom a h4, h5⟩
  | slot i => exact q.elim

/-! ### constants, names -/
abbrev PD (X : Cx) (W : Pw) (P : PF) (e : Expr) : Prop := PE X e (tE W P)
def pC (d : D) : PF := fun env => some (.dat d, env)
section
variable {X : Cx} {W : Pw}
theorem pd_flat {e : Expr} {v : V} {d : D} (h : PE X e (tC v)) (f : ∀ G, Rp W G v d) : PD X W (pC d) e := PE.weak h fun σ H Q ⟨env, G, rv, env', r, p, k⟩ => by
  simp only [pC, Option.some.injEq, Prod.mk.injEq] at p
  obtain ⟨rfl, rfl⟩ := p
  exact k v H G (Step.refl r) (f G)
theorem pd_int {i j pos} : PD X W (pC (.int i)) (.Constant (.int i) j pos) := pd_flat pe_int fun _ => .int i
theorem pd_bl {b j pos} : PD X W (pC (.bl b)) (.Constant (.bool b) j pos) := pd_flat pe_bl fun _ => .bl b
theorem pd_non {j pos} : PD X W (pC .non) (.Constant .none j pos) := pd_flat pe_non fun _ => .non
theorem pd_str {x j pos} : PD X W (pC (.str x)) (.Constant (.str x) j pos) := pd_flat pe_str fun _ => .str x
def pVar (i : Nat) : PF := fun env => match env[i]? with
  | some (.dat d) => some (.dat d, env)
  | some (.own _) => some (.slot i, env)
  | some (.bor _) => some (.slot i, env)
  | _ => none
theorem pd_var {i : Nat} {e : Expr} (h : PE X e (tVar i)) : PD X W (pVar i) e := PE.weak h fun σ H Q ⟨env, G, rv, env', r, p, k⟩ => by
  unfold pVar at p
  split at p
  · rename_i d hd
    cases p
    obtain ⟨v, h1, h2⟩ := r.slot i _ hd
    exact ⟨v, h1, k v H G (Step.refl r) h2⟩
  · rename_i d hd
    cases p
    obtain ⟨a, o, h1, _⟩ := r.slot i _ hd
    exact ⟨.ref a, h1, k _ H G (Step.refl r) ⟨a, rfl, h1⟩⟩
  · rename_i d hd
    cases p
    obtain ⟨a, o, h1, _⟩ := r.slot i _ hd
    exact ⟨.ref a, h1, k _ H G (Step.refl r) ⟨a, rfl, h1⟩⟩
  · cases p

/-! ### two operands -/
def pBin (f : D → D → Option RV) (P P' : PF) : PF := fun env => do
  let (ra, e1) ← P env
  let (rb, e2) ← P' e1
  let x ← ra.cont e2
  let y ← rb.cont e2
  let z ← f x y
  some (z, e2)
/-- the reading r gives what f tells -/
def OpD (W : Pw) (r : R2) (f : D → D → Option RV) : Prop := ∀ (x y : V) (d e : D) (G H : Hp) (Q : VK) (z : RV), Same G H → Vw W G H x d → Vw W G H y e → f d e = some z →
  (∀ v H' G', NR W H G v z H' G' → Q v H') → r x y H Q
theorem pBin_some {f : D → D → Option RV} {P P' : PF} {env env' : Env'} {rv : RV} (h : pBin f P P' env = some (rv, env')) :
    ∃ ra e1 rb x y, P env = some (ra, e1) ∧ P' e1 = some (rb, env') ∧ ra.cont env' = some x ∧ rb.cont env' = some y ∧ f x y = some rv := by
  unfold pBin at h
  simp only [Option.bind_eq_bind, Option.bind_eq_some_iff, Prod.exists, Option.some.injEq, Prod.mk.injEq] at h
  obtain ⟨ra, e1, h1, rb, e2, h2, x, h3, y, h4, z, h5, rfl, rfl⟩ := h
  exact ⟨ra, e1, rb, x, y, h1, h2, h3, h4, h5⟩
theorem op_tE {r : R2} {f : D → D → Option RV} (o : OpD W r f) {P P' : PF} {σ : St} {H : Hp} {Q : VK} (h : tE W (pBin f P P') σ H Q) : tOp r (tE W P) (tE W P') σ H Q := by
  obtain ⟨env, G, rv, env', rl, p, k⟩ := h
  obtain ⟨ra, e1, rb, x, y, h1, h2, h3, h4, h5⟩ := pBin_some p
  refine tE_two rl h1 h2 fun u v H1 G1 s o1 o2 => o u v x y G1 H1 Q rv s.rel.sub (o1.vw s.rel h3) (o2.vw s.rel h4) h5 fun w H2 G2 n => ?_
  exact k w H2 G2 (s.trans (n.step s.rel)) (n.rv s.ext.dom)
theorem pd_bin {op : Operator} {r : R2} {f : D → D → Option RV} {a b : Expr} {P P' : PF} {pos : Pos} (ho : OpR X (binaryOp op) r) (o : OpD W r f) (ha : PD X W P a) (hb : PD X W P' b) : PD X W (pBin f P P') (.BinOp a op b pos) :=
  PE.weak (pe_op ho ha hb) fun _ _ _ h => op_tE o h
def notSet : Expr → Bool
  | .Set .. => false
  | _ => true
theorem nomarks {op : CmpOp} {b : Expr} (h : notSet b = true) : behindInMarks op b = false := by cases b <;> first | rfl | cases h
theorem pd_cmp {op : CmpOp} {r : R2} {f : D → D → Option RV} {a b : Expr} {P P' : PF} {pos : Pos} (ho : OpR X (compareOp op) r) (o : OpD W r f) (ha : PD X W P a) (hb : PD X W P' b) (hn : notSet b = true) : PD X W (pBin f P P') (.Compare a [op] [b] pos) :=
  PE.weak (pe_cmpR ho ha hb (nomarks hn)) fun _ _ _ h => op_tE o h

/-! ### one operand -/
def pUn (f : D → Option RV) (P : PF) : PF := fun env => do
  let (ra, e1) ← P env
  let x ← ra.cont e1
  let z ← f x
  some (z, e1)
def UnD (W : Pw) (r : V → Hp → VK → Prop) (f : D → Option RV) : Prop := ∀ (x : V) (d : D) (G H : Hp) (Q : VK) (z : RV), Same G H → Vw W G H x d → f d = some z → (∀ v H' G', NR W H G v z H' G' → Q v H') → r x H Q
theorem un_tE {r : V → Hp → VK → Prop} {f : D → Option RV} (o : UnD W r f) {P : PF} {σ : St} {H : Hp} {Q : VK} (h : tE W (pUn f P) σ H Q) : tUn r (tE W P) σ H Q := by
  obtain ⟨env, G, rv, env', rl, p, k⟩ := h
  unfold pUn at p
  simp only [Option.bind_eq_bind, Option.bind_eq_some_iff, Prod.exists, Option.some.injEq, Prod.mk.injEq] at p
  obtain ⟨ra, e1, h1, x, h3, z, h5, rfl, rfl⟩ := p
  refine tE_one rl h1 fun u H1 G1 s o1 => o u x G1 H1 Q z s.rel.sub (o1.vw s.rel h3) h5 fun w H2 G2 n => ?_
  exact k w H2 G2 (s.trans (n.step s.rel)) (n.rv s.ext.dom)
theorem pd_un {op : UnaryOp} {r : V → Hp → VK → Prop} {f : D → Option RV} {a : Expr} {P : PF} {pos : Pos} (ho : UnR X (unaryOp op) r) (o : UnD W r f) (ha : PD X W P a) : PD X W (pUn f P) (.UnaryOp op a pos) :=
  PE.weak (pe_un ho ha) fun _ _ _ h => un_tE o h

/-! ### tests -/
abbrev BF := Env' → Option (Bool × Env')
def tT (W : Pw) (P : BF) : TT := fun σ H Q => ∃ env G b env', Rel W σ env H G ∧ P env = some (b, env') ∧ ∀ H' G', Step W σ env H G env' H' G' → Q b H'
abbrev PTD (X : Cx) (W : Pw) (P : BF) (e : Expr) : Prop := PT X e (tT W P)
/-- a value as a test: a truth, None, an int, a text, a list, a tuple -/
def truthD : D → Option Bool
  | .non => some false
  | .bl b => some b
  | .int i => some (i != 0)
  | .str x => if x.length ≤ sizeLine then some (x.length != 0) else none
  | .lst xs => some (!xs.isEmpty)
  | .tup xs => some (!xs.isEmpty)
  | _ => none
def bTruth (P : PF) : BF := fun env => do
  let (ra, e1) ← P env
  let x ← ra.cont e1
  let b ← truthD x
  some (b, e1)
theorem RpAll.isEmpty {G : Hp} {vs : List V} {ds : List D} (r : RpAll W G vs ds) : vs.isEmpty = ds.isEmpty := by cases r <;> rfl
theorem truV_of {G H : Hp} {x : V} {d : D} {b : Bool} (s : Same G H) (h : Vw W G H x d) (t : truthD d = some b) : TruV W.K x H b := by
  cases d with
  | non => cases h.non; cases t; rfl
  | bl c => cases h.bl; cases t; rfl
  | int i => cases h.int; cases t; rfl
  | str z =>
    cases h.str
    simp only [truthD] at t
    split at t
    · cases t
      refine ⟨by assumption, ?_⟩
      rw [Bool.eq_iff_iff]
      simp
    · cases t
  | lst xs =>
    obtain ⟨a, vs, rfl, q, r⟩ := h.lst s
    cases t
    exact .inl ⟨vs, SqL.of q, by rw [RpAll.isEmpty r]⟩
  | tup xs =>
    obtain ⟨a, vs, rfl, q, r⟩ := h.tup s
    cases t
    exact .inr (.inl ⟨vs, SqT.of q, by rw [RpAll.isEmpty r]⟩)
  | dic _ => cases t
  | obj _ _ => cases t
  | scr _ => cases t
  | typ _ => cases t
  | kls _ => cases t
theorem bTruth_some {P : PF} {env env' : Env'} {b : Bool} (h : bTruth P env = some (b, env')) : ∃ ra x, P env = some (ra, env') ∧ ra.cont env' = some x ∧ truthD x = some b := by
  unfold bTruth at h
  simp only [Option.bind_eq_bind, Option.bind_eq_some_iff, Prod.exists, Option.some.injEq, Prod.mk.injEq] at h
  obtain ⟨ra, e1, h1, x, h2, c, h3, rfl, rfl⟩ := h
  exact ⟨ra, x, h1, h2, h3⟩
theorem ptd_truth {a : Expr} {P : PF} (hK : X.K = W.K) (h : PD X W P a) (he : ∀ whole, isTrue a X.env whole = (do let v ← whole; standAt a.pos; holding [v] (truthy v))) : PTD X W (bTruth P) a :=
  PT.weak (pt_truth h he) fun σ H Q ⟨env, G, b, env', r, p, k⟩ => by
    obtain ⟨ra, x, h1, h2, h3⟩ := bTruth_some p
    refine tE_one r h1 fun v H1 G1 s o => ⟨b, ?_, k H1 G1 s⟩
    rw [hK]
    exact truV_of s.rel.sub (o.vw s.rel h2) h3
/-- a comparison as a test -/
def bVal (P : PF) : BF := fun env => match P env with
  | some (.dat (.bl b), e1) => some (b, e1)
  | _ => none
theorem bVal_some {P : PF} {env env' : Env'} {b : Bool} (h : bVal P env = some (b, env')) : P env = some (.dat (.bl b), env') := by
  unfold bVal at h
  split at h
  · cases h; assumption
  · cases h
theorem test_tE {P : PF} {σ : St} {H : Hp} {Q : Bool → Hp → Prop} (h : tT W (bVal P) σ H Q) : tE W P σ H fun x H' => ∃ k, x = .bl k ∧ Q k H' := by
  obtain ⟨env, G, b, env', r, p, k⟩ := h
  refine tE_one r (bVal_some p) fun v H1 G1 s o => ?_
  cases o
  exact ⟨b, rfl, k H1 G1 s⟩
theorem ptd_cmp {op : CmpOp} {r : R2} {f : D → D → Option RV} {a b : Expr} {P P' : PF} {pos : Pos} (ho : OpR X (compareOp op) r) (o : OpD W r f) (ha : PD X W P a) (hb : PD X W P' b) (hn : notSet b = true) : PTD X W (bVal (pBin f P P')) (.Compare a [op] [b] pos) :=
  PT.weak (pt_cmpR ho ha hb (nomarks hn)) fun σ H Q h => op_tE o (test_tE h)
def bNot (P : BF) : BF := fun env => (P env).map fun r => (!r.1, r.2)
theorem ptd_not {a : Expr} {P : BF} {pos : Pos} (h : PTD X W P a) : PTD X W (bNot P) (.UnaryOp .Not a pos) := PT.weak (pt_not h) fun σ H Q ⟨env, G, b, env', r, p, k⟩ => by
  unfold bNot at p
  simp only [Option.map_eq_some_iff, Prod.exists, Prod.mk.injEq] at p
  obtain ⟨c, e1, h1, rfl, rfl⟩ := p
  exact ⟨env, G, c, e1, r, h1, k⟩
def bAnd (P P' : BF) : BF := fun env => (P env).bind fun r => if r.1 then P' r.2 else some (false, r.2)
def bOr (P P' : BF) : BF := fun env => (P env).bind fun r => if r.1 then some (true, r.2) else P' r.2
theorem and_tT {P P' : BF} {σ : St} {H : Hp} {Q : Bool → Hp → Prop} (h : tT W (bAnd P P') σ H Q) : tAnd (tT W P) (tT W P') σ H Q := by
  obtain ⟨env, G, b, env', r, p, k⟩ := h
  unfold bAnd at p
  simp only [Option.bind_eq_some_iff, Prod.exists] at p
  obtain ⟨c, e1, h1, p⟩ := p
  refine ⟨env, G, c, e1, r, h1, fun H1 G1 s => ?_⟩
  cases c with
  | true => exact ⟨e1, G1, b, env', s.rel, p, fun H2 G2 s2 => k H2 G2 (s.trans s2)⟩
  | false => cases p; exact k H1 G1 s
theorem or_tT {P P' : BF} {σ : St} {H : Hp} {Q : Bool → Hp → Prop} (h : tT W (bOr P P') σ H Q) : tOr (tT W P) (tT W P') σ H Q := by
  obtain ⟨env, G, b, env', r, p, k⟩ := h
  unfold bOr at p
  simp only [Option.bind_eq_some_iff, Prod.exists] at p
  obtain ⟨c, e1, h1, p⟩ := p
  refine ⟨env, G, c, e1, r, h1, fun H1 G1 s => ?_⟩
  cases c with
  | false => exact ⟨e1, G1, b, env', s.rel, p, fun H2 G2 s2 => k H2 G2 (s.trans s2)⟩
  | true => cases p; exact k H1 G1 s
abbrev PWD (X : Cx) (W : Pw) (P : BF) (e : Expr) : Prop := PW X e (tT W P)
theorem PW.weak {X : Cx} {e : Expr} {t t' : TT} (h : PW X e t) (k : ∀ σ H Q, t' σ H Q → t σ H Q) : PW X e t' := ⟨fun wh pins s σ H Q I q => h.run wh pins s σ H Q I (k σ H Q q)⟩
theorem pwd_and1 {a : Expr} {P : BF} {pos : Pos} (h : PTD X W P a) : PWD X W P (.BoolOp .And [a] pos) := pw_and1 h
theorem pwd_or1 {a : Expr} {P : BF} {pos : Pos} (h : PTD X W P a) : PWD X W P (.BoolOp .Or [a] pos) := pw_or1 h
theorem pwd_and {a b : Expr} {rest : List Expr} {P P' : BF} {pos : Pos} (h : PTD X W P a) (h' : PWD X W P' (.BoolOp .And (b :: rest) pos)) : PWD X W (bAnd P P') (.BoolOp .And (a :: b :: rest) pos) := PW.weak (pw_and h h') fun _ _ _ q => and_tT q
theorem pwd_or {a b : Expr} {rest : List Expr} {P P' : BF} {pos : Pos} (h : PTD X W P a) (h' : PWD X W P' (.BoolOp .Or (b :: rest) pos)) : PWD X W (bOr P P') (.BoolOp .Or (a :: b :: rest) pos) := PW.weak (pw_or h h') fun _ _ _ q => or_tT q

/-! ### and, or, not, if as values -/
def pIf (c : BF) (P P' : PF) : PF := fun env => (c env).bind fun r => if r.1 then P r.2 else P' r.2
theorem RvOk.base {σ : St} {H H1 H2 G2 : Hp} {v : V} {rv : RV} (h : RvOk W σ H1 H2 G2 v rv) (d : ∀ b, H1 b = none → H b = none) : RvOk W σ H H2 G2 v rv := by
  cases rv with
  | dat _ => exact h
  | own _ => obtain ⟨a, o, h1, h2, h3, h4, h5⟩ := h; exact ⟨a, o, h1, h2, h3, d a h4, h5⟩
  | slot _ => exact h
theorem pd_if {c a b : Expr} {pc : BF} {P P' : PF} {pos : Pos} (hc : PTD X W pc c) (ha : PD X W P a) (hb : PD X W P' b) : PD X W (pIf pc P P') (.IfExp c a b pos) := PE.weak (pe_ifExp hc ha hb) fun σ H Q ⟨env, G, rv, env', r, p, k⟩ => by
  unfold pIf at p
  simp only [Option.bind_eq_some_iff, Prod.exists] at p
  obtain ⟨d, e1, h1, p⟩ := p
  refine ⟨env, G, d, e1, r, h1, fun H1 G1 s => ?_⟩
  cases d with
  | true => exact ⟨e1, G1, rv, env', s.rel, p, fun v H2 G2 s2 o => k v H2 G2 (s.trans s2) (o.base s.ext.dom)⟩
  | false => exact ⟨e1, G1, rv, env', s.rel, p, fun v H2 G2 s2 o => k v H2 G2 (s.trans s2) (o.base s.ext.dom)⟩
def pAnd (P P' : PF) : PF := fun env => do
  let (ra, e1) ← P env
  let x ← ra.cont e1
  let b ← truthD x
  if b then P' e1 else some (ra, e1)
def pOr (P P' : PF) : PF := fun env => do
  let (ra, e1) ← P env
  let x ← ra.cont e1
  let b ← truthD x
  if b then some (ra, e1) else P' e1
theorem pd_one {op : BoolOp} {a : Expr} {P : PF} {pos : Pos} (h : PD X W P a) : PD X W P (.BoolOp op [a] pos) := pe_one h
theorem pd_and {a b : Expr} {rest : List Expr} {P P' : PF} {pos : Pos} (hK : X.K = W.K) (h : PD X W P a) (h' : PD X W P' (.BoolOp .And (b :: rest) pos)) : PD X W (pAnd P P') (.BoolOp .And (a :: b :: rest) pos) := PE.weak (pe_andT h h') fun σ H Q ⟨env, G, rv, env', r, p, k⟩ => by
  unfold pAnd at p
  simp only [Option.bind_eq_bind, Option.bind_eq_some_iff, Prod.exists] at p
  obtain ⟨ra, e1, h1, x, h2, c, h3, p⟩ := p
  refine tE_one r h1 fun v H1 G1 s o => ⟨c, by rw [hK]; exact truV_of s.rel.sub (o.vw s.rel h2) h3, ?_⟩
  cases c with
  | true => exact ⟨e1, G1, rv, env', s.rel, p, fun v H2 G2 s2 o => k v H2 G2 (s.trans s2) (o.base s.ext.dom)⟩
  | false => cases p; exact k v H1 G1 s o
theorem pd_or {a b : Expr} {rest : List Expr} {P P' : PF} {pos : Pos} (hK : X.K = W.K) (h : PD X W P a) (h' : PD X W P' (.BoolOp .Or (b :: rest) pos)) : PD X W (pOr P P') (.BoolOp .Or (a :: b :: rest) pos) := PE.weak (pe_orT h h') fun σ H Q ⟨env, G, rv, env', r, p, k⟩ => by
  unfold pOr at p
  simp only [Option.bind_eq_bind, Option.bind_eq_some_iff, Prod.exists] at p
  obtain ⟨ra, e1, h1, x, h2, c, h3, p⟩ := p
  refine tE_one r h1 fun v H1 G1 s o => ⟨c, by rw [hK]; exact truV_of s.rel.sub (o.vw s.rel h2) h3, ?_⟩
  cases c with
  | false => exact ⟨e1, G1, rv, env', s.rel, p, fun v H2 G2 s2 o => k v H2 G2 (s.trans s2) (o.base s.ext.dom)⟩
  | true => cases p; exact k v H1 G1 s o
def pNot (P : PF) : PF := pUn (fun d => (truthD d).map fun b => .dat (.bl (!b))) P
theorem pd_not {a : Expr} {P : PF} {pos : Pos} (hK : X.K = W.K) (h : PD X W P a) : PD X W (pNot P) (.UnaryOp .Not a pos) := PE.weak (pe_notT h) fun σ H Q q => by
  refine un_tE (r := fun x H1 Q => ∃ k, TruV X.K x H1 k ∧ Q (.bl (!k)) H1) (fun x d G H Q z sb w e kk => ?_) q
  simp only [Option.map_eq_some_iff] at e
  obtain ⟨b, hb, rfl⟩ := e
  exact ⟨b, by rw [hK]; exact truV_of sb w hb, kk _ _ _ (NR.dat sb (.bl _))⟩

/-! ### argument lists -/
inductive RvsOk (W : Pw) (σ : St) (H H' G' : Hp) : List V → List RV → Prop
  | nil : RvsOk W σ H H' G' [] []
  | cons {v : V} {rv : RV} {vs : List V} {rvs : List RV} : RvOk W σ H H' G' v rv → (∀ (d e : D) (i : Nat), rv = RV.own d → rvs[i]? = some (RV.own e) → vs[i]? ≠ some v) → RvsOk W σ H H' G' vs rvs → RvsOk W σ H H' G' (v :: vs) (rv :: rvs)
theorem RvsOk.length {σ : St} {H H' G' : Hp} : ∀ {vs : List V} {rvs : List RV}, RvsOk W σ H H' G' vs rvs → vs.length = rvs.length
  | _, _, .nil => rfl
  | _, _, .cons _ _ r => by simp [RvsOk.length r]
theorem RvsOk.get {σ : St} {H H' G' : Hp} : ∀ {vs : List V} {rvs : List RV} {i : Nat} {rv : RV}, RvsOk W σ H H' G' vs rvs → rvs[i]? = some rv → ∃ v, vs[i]? = some v ∧ RvOk W σ H H' G' v rv
  | _, _, _, _, .nil, e => by simp at e
  | _, _, 0, _, .cons h _ _, e => by simp at e; subst e; exact ⟨_, rfl, h⟩
  | _, _, i + 1, _, .cons _ _ r, e => by
    obtain ⟨v, h1, h2⟩ := RvsOk.get (i := i) r (by simpa using e)
    exact ⟨v, by simpa using h1, h2⟩
theorem RvsOk.base {σ : St} {H H1 H2 G2 : Hp} (d : ∀ b, H1 b = none → H b = none) : ∀ {vs : List V} {rvs : List RV}, RvsOk W σ H1 H2 G2 vs rvs → RvsOk W σ H H2 G2 vs rvs
  | _, _, .nil => .nil
  | _, _, .cons h n r => .cons (h.base d) n (RvsOk.base d r)
abbrev PAF := Env' → Option (List RV × Env')
def tA (W : Pw) (P : PAF) : TA := fun σ H Q => ∃ env G rvs env', Rel W σ env H G ∧ P env = some (rvs, env') ∧ ∀ vs H' G', Step W σ env H G env' H' G' → RvsOk W σ H H' G' vs rvs → Q vs H'
abbrev PAD (X : Cx) (W : Pw) (P : PAF) (es : List Expr) : Prop := PA X es (tA W P)
def aNil : PAF := fun env => some ([], env)
def aCons (P : PF) (P' : PAF) : PAF := fun env => do
  let (r, e1) ← P env
  let (rs, e2) ← P' e1
  some (r :: rs, e2)
theorem pad_nil : PAD X W aNil [] := PA.weak pa_nil fun σ H Q ⟨env, G, rvs, env', r, p, k⟩ => by
  cases p
  exact k [] H G (Step.refl r) .nil
theorem RvsOk.fresh {σ : St} {H1 H2 G2 : Hp} {a : Addr} (h0 : H1 a ≠ none) : ∀ {vs : List V} {rvs : List RV} {i : Nat} {e : D}, RvsOk W σ H1 H2 G2 vs rvs → rvs[i]? = some (.own e) → vs[i]? ≠ some (.ref a)
  | vs, rvs, i, e, r, q => fun z => by
    obtain ⟨v, h1, h2⟩ := r.get q
    rw [z] at h1; cases h1
    obtain ⟨a', o, e1, _, _, e4, _⟩ := h2
    cases e1
    exact h0 e4
theorem pad_cons {e : Expr} {es : List Expr} {P : PF} {P' : PAF} (h : PD X W P e) (h' : PAD X W P' es) (hs : starEach (e :: es) X.env = (false, eval e X.env) :: starEach es X.env) : PAD X W (aCons P P') (e :: es) := PA.weak (pa_cons h h' hs) fun σ H Q ⟨env, G, rvs, env', r, p, k⟩ => by
  unfold aCons at p
  simp only [Option.bind_eq_bind, Option.bind_eq_some_iff, Prod.exists, Option.some.injEq, Prod.mk.injEq] at p
  obtain ⟨rv, e1, h1, rs, e2, h2, rfl, rfl⟩ := p
  refine tE_one r h1 fun v H1 G1 s o => ⟨e1, G1, rs, e2, s.rel, h2, fun vs H2 G2 s2 o2 => ?_⟩
  refine k (v :: vs) H2 G2 (s.trans s2) (.cons (o.step s.rel (fun b z => s.ownNe r z) s2) (fun d e i ed er => ?_) (o2.base s.ext.dom))
  subst ed
  obtain ⟨a, ob, ea, ha, _⟩ := o
  subst ea
  exact o2.fresh (by rw [ha]; simp) er
/-- no star -/
def notStar : Expr → Bool
  | .Starred .. => false
  | _ => true
theorem star_plain {e : Expr} {es : List Expr} {env : Env} (h : notStar e = true) : starEach (e :: es) env = (false, eval e env) :: starEach es env := by
  cases e <;> first | rfl | cases h

/-! ### frozen all -/
/-- what a list of values shows -/
def conts (env : Env') : List RV → Option (List D)
  | [] => some []
  | r :: rs => do
    let d ← r.cont env
    let ds ← conts env rs
    some (d :: ds)
/-- values that are put into something: no slot's own object -/
def RV.dt : RV → Option D
  | .dat d => some d
  | .own d => some d
  | .slot _ => none
def dts : List RV → Option (List D)
  | [] => some []
  | r :: rs => do
    let d ← r.dt
    let ds ← dts rs
    some (d :: ds)
/-- own objects that are let go of: from here on they are frozen -/
theorem RvsOk.freeze {σ : St} {env : Env'} : ∀ {vs : List V} {rvs : List RV} {ds : List D} {H H' G' : Hp}, RvsOk W σ H H' G' vs rvs → Rel W σ env H' G' → (∀ b, IsOwn σ env b → H b ≠ none) → dts rvs = some ds →
    ∃ G2, Same G' G2 ∧ Rel W σ env H' G2 ∧ (∀ b, H b ≠ none → G' b = none → G2 b = none) ∧ RpAll W G2 vs ds
  | _, _, _, H, H', G', .nil, r, _, e => by cases e; exact ⟨G', Same.refl _, r, fun _ _ h => h, .nil⟩
  | _, _, _, H, H', G', .cons (v := v) (rv := rv) (vs := vs) (rvs := rvs) h n rr, r, hn, e => by
    simp only [dts, Option.bind_eq_bind, Option.bind_eq_some_iff, Option.some.injEq] at e
    obtain ⟨d, h1, ds, h2, rfl⟩ := e
    obtain ⟨G2, s2, r2, k2, q2⟩ := RvsOk.freeze rr r hn h2
    cases rv with
    | dat d' => cases h1; exact ⟨G2, s2, r2, k2, .cons (Rp.mono s2 h) q2⟩
    | slot i => cases h1
    | own d' =>
      cases h1
      obtain ⟨a, o, rfl, ha, ga, h0, ob⟩ := h
      have na : ¬ IsOwn σ env a := fun z => hn a z h0
      by_cases g2 : G2 a = none
      · have sg : Same G2 (upd G2 a o) := same_upd g2
        refine ⟨upd G2 a o, s2.trans sg, ⟨r2.len, fun b u e => ?_, fun i t ht => ?_, r2.dist⟩, fun b hb gb => ?_, .cons ((ob.mono (s2.trans sg)).rp upd_same) (RpAll.mono sg q2)⟩
        · by_cases z : b = a
          · subst z; rw [upd_same] at e; cases e; exact ha
          · rw [upd_ne z] at e; exact r2.sub b u e
        · have q := r2.slot i t ht
          cases t with
          | und => trivial
          | dat d => obtain ⟨v, h1, h2⟩ := q; exact ⟨v, h1, Rp.mono sg h2⟩
          | own d =>
            obtain ⟨b, o', h1, h2, h3, h4⟩ := q
            have ne : b ≠ a := fun z => na ⟨i, d, ht, by rw [h1, z]⟩
            exact ⟨b, o', h1, h2, by rw [upd_ne ne]; exact h3, h4.mono sg⟩
          | bor d => obtain ⟨b, o', h1, h2, h4⟩ := q; exact ⟨b, o', h1, h2, h4.mono sg⟩
        · have ne : b ≠ a := fun z => hb (z ▸ h0)
          rw [upd_ne ne]; exact k2 b hb gb
      · cases g : G2 a with
        | none => exact (g2 g).elim
        | some u =>
          have e := r2.sub a u g
          rw [ha] at e; cases e
          exact ⟨G2, s2, r2, k2, .cons ((ob.mono s2).rp g) q2⟩
end
end Den
end

section
set_option Elab.async false
set_option linter.all false
set_option maxRecDepth 100000
set_option maxHeartbeats 2000000
/-! DenC: the operators by data. -/
namespace Den
open PySem L2 PySem.Spec PyProof.Rows

mutual
def toPy : D → Option PyData
  | .non => some .none
  | .bl b => some (.bool b)
  | .int i => some (.int i)
  | .str x => some (.str x)
  | .lst xs => (toPyAll xs).map .list
  | .tup xs => (toPyAll xs).map .tuple
  | .dic _ => none
  | .obj _ _ => none
  | .scr _ => none
  | .typ _ => none
  | .kls _ => none
def toPyAll : List D → Option (List PyData)
  | [] => some []
  | d :: ds => match toPy d, toPyAll ds with
    | some p, some ps => some (p :: ps)
    | _, _ => none
end
section
variable {W : Pw} {G : Hp}
mutual
theorem Rp.dp : ∀ {d : D} {v : V} {p : PyData}, Rp W G v d → toPy d = some p → Dp W.K G v p
  | .non, _, _, h, e => by cases h; cases e; exact .non
  | .bl b, _, _, h, e => by cases h; cases e; exact .bl b
  | .int i, _, _, h, e => by cases h; cases e; exact .int i
  | .str x, _, _, h, e => by cases h; cases e; exact .str x
  | .lst xs, _, _, h, e => by
    cases h with
    | lst q r =>
      simp only [toPy, Option.map_eq_some_iff] at e
      obtain ⟨ps, e1, rfl⟩ := e
      exact .lst (SqL.of q) (RpAll.dp r e1)
  | .tup xs, _, _, h, e => by
    cases h with
    | tup q r =>
      simp only [toPy, Option.map_eq_some_iff] at e
      obtain ⟨ps, e1, rfl⟩ := e
      exact .tup (SqT.of q) (RpAll.dp r e1)
  | .dic _, _, _, _, e => by simp [toPy] at e
  | .obj _ _, _, _, _, e => by simp [toPy] at e
  | .scr _, _, _, _, e => by simp [toPy] at e
  | .typ _, _, _, _, e => by simp [toPy] at e
  | .kls _, _, _, _, e => by simp [toPy] at e
theorem RpAll.dp : ∀ {ds : List D} {vs : List V} {ps : List PyData}, RpAll W G vs ds → toPyAll ds = some ps → DpAll W.K G vs ps
  | [], _, _, h, e => by cases h; cases e; exact .nil
  | d :: ds, _, _, h, e => by
    cases h with
    | cons a b =>
      simp only [toPyAll] at e
      split at e
      · rename_i p qs e1 e2
        cases e
        exact .cons (Rp.dp a e1) (RpAll.dp b e2)
      · cases e
end
end
mutual
theorem Dp.mono' {K : PySem.W.Frag} {G H : Hp} (s : Same G H) : ∀ {p : PyData} {v : V}, Dp K G v p → Dp K H v p
  | .none, _, h => by cases h; exact .non
  | .bool b, _, h => by cases h; exact .bl b
  | .int i, _, h => by cases h; exact .int i
  | .str x, _, h => by cases h; exact .str x
  | .list ds, _, h => by cases h with | lst q r => exact .lst (s.seq q) (DpAll.mono' s r)
  | .tuple ds, _, h => by cases h with | tup q r => exact .tup (Same.seqT s q) (DpAll.mono' s r)
  | .dict _, _, h => by cases h
theorem DpAll.mono' {K : PySem.W.Frag} {G H : Hp} (s : Same G H) : ∀ {ps : List PyData} {vs : List V}, DpAll K G vs ps → DpAll K H vs ps
  | [], _, h => by cases h; exact .nil
  | p :: ps, _, h => by cases h with | cons a b => exact .cons (Dp.mono' s a) (DpAll.mono' s b)
end
section
variable {W : Pw} {G H : Hp} {v : V}
theorem Vw.dp {d : D} {p : PyData} (s : Same G H) (h : Vw W G H v d) (e : toPy d = some p) : Dp W.K H v p := by
  cases h with
  | rp h => exact Dp.mono' s (Rp.dp h e)
  | ob ev h q =>
    subst ev
    cases q with
    | lst r =>
      simp only [toPy, Option.map_eq_some_iff] at e
      obtain ⟨ps, e1, rfl⟩ := e
      exact .lst (SqL.of h) (DpAll.mono' s (RpAll.dp r e1))
    | dic r => simp [toPy] at e
    | obj r => simp [toPy] at e
end

/-- two readings of one operation -/
theorem OpR.or {X : Cx} {f : Value → Value → Sem Value} {r r' : R2} (h : OpR X f r) (h' : OpR X f r') : OpR X f (fun x y H Q => r x y H Q ∨ r' x y H Q) :=
  fun pins s σ H x y v u Q I rx ry q => q.elim (h pins s σ H x y v u Q I rx ry) (h' pins s σ H x y v u Q I rx ry)

section
variable {X : Cx} {W : Pw}

/-! ### + - * // % ** -/
def addD : D → D → Option RV
  | .int i, .int j => some (.dat (.int (i + j)))
  | .str x, .str y => if x.length + y.length ≤ sizeLine then some (.dat (.str (x ++ y))) else none
  | .lst xs, .lst ys => if xs.length + ys.length ≤ sizeLine then some (.own (.lst (xs ++ ys))) else none
  | _, _ => none
def rAdd : R2 := fun x y H Q => ((rI0 fun i j => .int (i + j)) x y H Q ∨ (∃ i j, x = .str i ∧ y = .str j ∧ i.length + j.length ≤ sizeLine ∧ Q (.str (i ++ j)) H)) ∨ rCat x y H Q
theorem opr_add : OpR X (binaryOp .Add) rAdd := (op_add.or op_add_str).or op_cat
theorem opd_add : OpD W rAdd addD := by
  intro x y d e G H Q z s vx vy hf k
  unfold addD at hf
  split at hf
  · cases vx.int; cases vy.int; cases hf
    exact .inl (.inl ⟨_, _, rfl, rfl, k _ _ _ (NR.dat s (.int _))⟩)
  · cases vx.str; cases vy.str
    split at hf
    · cases hf
      exact .inl (.inr ⟨_, _, rfl, rfl, by assumption, k _ _ _ (NR.dat s (.str _))⟩)
    · cases hf
  · obtain ⟨a, vs, rfl, ha, ra⟩ := vx.lst s
    obtain ⟨b, ws, rfl, hb, rb⟩ := vy.lst s
    split at hf
    · rename_i hz
      cases hf
      refine .inr ⟨a, b, vs, ws, rfl, rfl, ha, hb, by rw [ra.length, rb.length]; exact hz, fun p hp => k _ _ _ (NR.own s hp (.lst (ra.append rb)))⟩
    · cases hf
  · cases hf
/-- an operation of two ints under a condition -/
def intD (C : Int → Int → Bool) (g : Int → Int → D) : D → D → Option RV
  | .int i, .int j => if C i j then some (.dat (g i j)) else none
  | _, _ => none
theorem opd_int {C : Int → Int → Prop} {Cb : Int → Int → Bool} {g : Int → Int → V} {gd : Int → Int → D} (hC : ∀ i j, Cb i j = true → C i j) (hg : ∀ G i j, Rp W G (g i j) (gd i j)) : OpD W (rI C g) (intD Cb gd) := by
  intro x y d e G H Q z s vx vy hf k
  unfold intD at hf
  split at hf
  · cases vx.int; cases vy.int
    split at hf
    · rename_i hz
      cases hf
      exact ⟨_, _, rfl, rfl, hC _ _ hz, k _ _ _ (NR.dat s (hg _ _ _))⟩
    · cases hf
  · cases hf
theorem rI0_I {g : Int → Int → V} {x y : V} {H : Hp} {Q : VK} (h : rI (fun _ _ => True) g x y H Q) : rI0 g x y H Q := by
  obtain ⟨i, j, h1, h2, _, h3⟩ := h
  exact ⟨i, j, h1, h2, h3⟩
theorem opd_int0 {g : Int → Int → V} {gd : Int → Int → D} (hg : ∀ G i j, Rp W G (g i j) (gd i j)) : OpD W (rI0 g) (intD (fun _ _ => true) gd) :=
  fun x y d e G H Q z s vx vy hf k => rI0_I (opd_int (C := fun _ _ => True) (fun _ _ _ => trivial) hg x y d e G H Q z s vx vy hf k)
def subD : D → D → Option RV := intD (fun _ _ => true) fun i j => .int (i - j)
theorem opd_sub : OpD W (rI0 fun i j => .int (i - j)) subD := opd_int0 fun _ _ _ => .int _
def mulB (i j : Int) : Bool := (decide (-(2 ^ 64) < i) && decide (i < 2 ^ 64)) || (decide (-(2 ^ 64) < j) && decide (j < 2 ^ 64))
theorem mulB_ok {i j : Int} (h : mulB i j = true) : CMul i j := by
  unfold mulB at h
  simp only [Bool.or_eq_true, Bool.and_eq_true, decide_eq_true_eq] at h
  exact h
def rMul : R2 := fun x y H Q => rI CMul (fun i j => .int (i * j)) x y H Q ∨ rRep x y H Q
theorem opr_mul : OpR X (binaryOp .Mult) rMul := op_mul.or op_rep
def mulD : D → D → Option RV
  | .int i, .int j => if mulB i j then some (.dat (.int (i * j))) else none
  | .lst xs, .int k => if -(2 ^ 63) ≤ k ∧ k < 2 ^ 63 ∧ xs.length * k.toNat ≤ sizeLine then some (.own (.lst (List.replicate k.toNat xs).flatten)) else none
  | _, _ => none
theorem RpAll.rep {G : Hp} {vs : List V} {ds : List D} (r : RpAll W G vs ds) : ∀ n : Nat, RpAll W G (List.replicate n vs).flatten (List.replicate n ds).flatten
  | 0 => .nil
  | n + 1 => by
    rw [List.replicate_succ, List.replicate_succ, List.flatten_cons, List.flatten_cons]
    exact r.append (RpAll.rep r n)
theorem opd_mul : OpD W rMul mulD := by
  intro x y d e G H Q z s vx vy hf k
  unfold mulD at hf
  split at hf
  · cases vx.int; cases vy.int
    split at hf
    · rename_i hz
      cases hf
      exact .inl ⟨_, _, rfl, rfl, mulB_ok hz, k _ _ _ (NR.dat s (.int _))⟩
    · cases hf
  · obtain ⟨a, vs, rfl, ha, ra⟩ := vx.lst s
    cases vy.int
    split at hf
    · rename_i hz
      cases hf
      refine .inr ⟨a, _, vs, rfl, rfl, ha, hz.1, hz.2.1, by rw [ra.length]; exact hz.2.2, fun p hp => k _ _ _ (NR.own s hp (.lst (ra.rep _)))⟩
    · cases hf
  · cases hf
def modD : D → D → Option RV := intD (fun _ j => decide (0 < j)) fun i j => .int (i % j)
theorem opd_mod : OpD W (rI (fun _ j => 0 < j) fun i j => .int (i % j)) modD := opd_int (fun _ _ h => of_decide_eq_true h) fun _ _ _ => .int _
def fdivD : D → D → Option RV := intD (fun _ j => decide (0 < j) && decide (j < 1073741824)) fun i j => .int (i / j)
theorem opd_fdiv : OpD W (rI CDiv fun i j => .int (i / j)) fdivD := opd_int (fun _ _ h => by simpa [CDiv] using h) fun _ _ _ => .int _
def powD : D → D → Option RV := intD (fun i j => decide (0 ≤ j) && (decide (j ≤ 1000000) && decide (i.natAbs < 2 ^ 64))) fun i j => .int (i ^ j.toNat)
theorem opd_pow : OpD W (rI CPow fun i j => .int (i ^ j.toNat)) powD := opd_int (fun _ _ h => by simpa [CPow] using h) fun _ _ _ => .int _

/-! ### order -/
def cmpD (gi : Int → Int → Bool) (gs : Str → Str → Bool) : D → D → Option RV
  | .int i, .int j => some (.dat (.bl (gi i j)))
  | .str i, .str j => some (.dat (.bl (gs i j)))
  | _, _ => none
def rCmp (gi : Int → Int → Bool) (gs : Str → Str → Bool) : R2 := fun x y H Q => rI0 (fun i j => .bl (gi i j)) x y H Q ∨ (∃ i j, x = .str i ∧ y = .str j ∧ Q (.bl (gs i j)) H)
theorem opd_cmp {gi : Int → Int → Bool} {gs : Str → Str → Bool} : OpD W (rCmp gi gs) (cmpD gi gs) := by
  intro x y d e G H Q z s vx vy hf k
  unfold cmpD at hf
  split at hf
  · cases vx.int; cases vy.int; cases hf
    exact .inl ⟨_, _, rfl, rfl, k _ _ _ (NR.dat s (.bl _))⟩
  · cases vx.str; cases vy.str; cases hf
    exact .inr ⟨_, _, rfl, rfl, k _ _ _ (NR.dat s (.bl _))⟩
  · cases hf
def ltS (i j : Str) : Bool := decide (i.cps.toList < j.cps.toList)
theorem opr_lt : OpR X (compareOp .Lt) (rCmp (fun i j => decide (i < j)) ltS) := op_lt.or op_lt_str
theorem opr_le : OpR X (compareOp .LtE) (rCmp (fun i j => decide (i ≤ j)) fun i j => !ltS j i) := op_le.or op_le_str
theorem opr_gt : OpR X (compareOp .Gt) (rCmp (fun i j => decide (j < i)) fun i j => ltS j i) := op_gt.or op_gt_str
theorem opr_ge : OpR X (compareOp .GtE) (rCmp (fun i j => decide (j ≤ i)) fun i j => !ltS i j) := op_ge.or op_ge_str

/-! ### == and != -/
/-- the scalars that == tells apart as data does -/
def scalD : D → D → Option Bool
  | .non, .non => some true | .non, .int _ => some false | .int _, .non => some false | .non, .bl _ => some false | .bl _, .non => some false | .non, .str _ => some false | .str _, .non => some false
  | .int i, .int j => some (i == j) | .bl i, .bl j => some (i == j) | .str i, .str j => some (i == j)
  | .int _, .str _ => some false | .str _, .int _ => some false | .bl _, .str _ => some false | .str _, .bl _ => some false
  | _, _ => none
def eqB (d e : D) : Option Bool := match scalD d e with
  | some b => some b
  | none => match toPy d, toPy e with
    | some p, some q => if SeqAt.shaped p && SeqAt.shaped q then some (PyData.eqv p q) else none
    | _, _ => none
def eqD (d e : D) : Option RV := (eqB d e).map fun b => .dat (.bl b)
def neD (d e : D) : Option RV := (eqB d e).map fun b => .dat (.bl (!b))
theorem scalD_ok {G H : Hp} {x y : V} {d e : D} {b : Bool} (vx : Vw W G H x d) (vy : Vw W G H y e) (h : scalD d e = some b) : scal x y = true ∧ decide (x = y) = b := by
  unfold scalD at h
  split at h <;> first
    | (cases h; done)
    | (cases vx.non; cases vy.non; cases h; exact ⟨rfl, by simp⟩)
    | (cases vx.non; cases vy.int; cases h; exact ⟨rfl, by simp⟩)
    | (cases vx.int; cases vy.non; cases h; exact ⟨rfl, by simp⟩)
    | (cases vx.non; cases vy.bl; cases h; exact ⟨rfl, by simp⟩)
    | (cases vx.bl; cases vy.non; cases h; exact ⟨rfl, by simp⟩)
    | (cases vx.non; cases vy.str; cases h; exact ⟨rfl, by simp⟩)
    | (cases vx.str; cases vy.non; cases h; exact ⟨rfl, by simp⟩)
    | (cases vx.int; cases vy.int; cases h; exact ⟨rfl, dec_int⟩)
    | (cases vx.bl; cases vy.bl; cases h; exact ⟨rfl, dec_bl⟩)
    | (cases vx.str; cases vy.str; cases h; exact ⟨rfl, dec_str⟩)
    | (cases vx.int; cases vy.str; cases h; exact ⟨rfl, by simp⟩)
    | (cases vx.str; cases vy.int; cases h; exact ⟨rfl, by simp⟩)
    | (cases vx.bl; cases vy.str; cases h; exact ⟨rfl, by simp⟩)
    | (cases vx.str; cases vy.bl; cases h; exact ⟨rfl, by simp⟩)
def rEqA (K : PySem.W.Frag) : R2 := fun x y H Q => rEq x y H Q ∨ rEqD K x y H Q
def rNeA (K : PySem.W.Frag) : R2 := fun x y H Q => rNe x y H Q ∨ rNeD K x y H Q
theorem opr_eq (hu : X.A.units + 64 < cLine) : OpR X (compareOp .Eq) (rEqA X.K) := op_eq.or (op_eqD hu)
theorem opr_ne (hu : X.A.units + 64 < cLine) : OpR X (compareOp .NotEq) (rNeA X.K) := op_ne.or (op_neD hu)
theorem eqB_ok {G H : Hp} {x y : V} {d e : D} {b : Bool} (s : Same G H) (vx : Vw W G H x d) (vy : Vw W G H y e) (h : eqB d e = some b) :
    (scal x y = true ∧ decide (x = y) = b) ∨ ∃ p q, Dp W.K H x p ∧ Dp W.K H y q ∧ SeqAt.shaped p = true ∧ SeqAt.shaped q = true ∧ PyData.eqv p q = b := by
  unfold eqB at h
  split at h
  · cases h; exact .inl (scalD_ok vx vy (by assumption))
  · split at h
    · split at h
      · rename_i p q hp hq hs
        simp only [Bool.and_eq_true] at hs
        cases h
        exact .inr ⟨p, q, vx.dp s hp, vy.dp s hq, hs.1, hs.2, rfl⟩
      · cases h
    · cases h
theorem opd_eq : OpD W (rEqA W.K) eqD := by
  intro x y d e G H Q z s vx vy hf k
  unfold eqD at hf
  simp only [Option.map_eq_some_iff] at hf
  obtain ⟨b, hb, rfl⟩ := hf
  have q := k (.bl b) H G (NR.dat s (.bl b))
  rcases eqB_ok s vx vy hb with ⟨h1, h2⟩ | ⟨p, p', h1, h2, h3, h4, h5⟩
  · exact .inl ⟨h1, by rw [h2]; exact q⟩
  · exact .inr ⟨p, p', h1, h2, h3, h4, by rw [h5]; exact q⟩
theorem opd_ne : OpD W (rNeA W.K) neD := by
  intro x y d e G H Q z s vx vy hf k
  unfold neD at hf
  simp only [Option.map_eq_some_iff] at hf
  obtain ⟨b, hb, rfl⟩ := hf
  have q := k (.bl (!b)) H G (NR.dat s (.bl _))
  rcases eqB_ok s vx vy hb with ⟨h1, h2⟩ | ⟨p, p', h1, h2, h3, h4, h5⟩
  · exact .inl ⟨h1, by rw [h2]; exact q⟩
  · exact .inr ⟨p, p', h1, h2, h3, h4, by rw [h5]; exact q⟩

/-! ### in, not in -/
def flatD : D → Bool
  | .non => true
  | .bl _ => true
  | .int _ => true
  | .str _ => true
  | _ => false
def eqF : D → D → Bool
  | .non, .non => true
  | .bl a, .bl b => a == b
  | .bl a, .int b => (if a then 1 else 0) == b
  | .int a, .bl b => a == (if b then 1 else 0)
  | .int a, .int b => a == b
  | .str a, .str b => a == b
  | _, _ => false
def strIn (i j : Str) : Bool := !(Builtin.Str.occurrences j i 0 j.length 1).isEmpty
def inB (neg : Bool) : D → D → Option RV
  | .str x, .str y => some (.dat (.bl (if neg then !strIn x y else strIn x y)))
  | x, .lst ys => if flatD x && ys.all flatD then some (.dat (.bl (if neg then !ys.any (fun y => eqF y x) else ys.any fun y => eqF y x))) else none
  | x, .tup ys => if flatD x && ys.all flatD then some (.dat (.bl (if neg then !ys.any (fun y => eqF y x) else ys.any fun y => eqF y x))) else none
  | _, _ => none
def rInS (neg : Bool) : R2 := fun x y H Q => ∃ i j, x = .str i ∧ y = .str j ∧ Q (.bl (if neg then !strIn i j else strIn i j)) H
def rInA (K : PySem.W.Frag) (neg : Bool) : R2 := fun x y H Q => rIn K neg x y H Q ∨ rInS neg x y H Q
theorem opr_in : OpR X (compareOp .In) (rInA X.K false) := op_in_seq.or op_in_str
theorem opr_nin : OpR X (compareOp .NotIn) (rInA X.K true) := op_notIn_seq.or op_notin_str
theorem flat_vw {G H : Hp} {x : V} {d : D} (h : Vw W G H x d) (f : flatD d = true) : Rp W G x d ∧ flatV x = true := by
  cases d with
  | non => cases h.non; exact ⟨.non, rfl⟩
  | bl b => cases h.bl; exact ⟨.bl b, rfl⟩
  | int i => cases h.int; exact ⟨.int i, rfl⟩
  | str i => cases h.str; exact ⟨.str i, rfl⟩
  | _ => cases f
theorem eqF_ok {G : Hp} {x y : V} {d e : D} (hx : Rp W G x d) (hy : Rp W G y e) (fx : flatD d = true) (fy : flatD e = true) : eqV y x = eqF e d := by
  cases d <;> first | (cases fx; done) | skip
  all_goals (cases e <;> first | (cases fy; done) | skip)
  all_goals (cases hx; cases hy; rfl)
theorem inV_ok {G : Hp} {x : V} {d : D} (hx : Rp W G x d) (fx : flatD d = true) : ∀ {ys : List V} {es : List D}, RpAll W G ys es → es.all flatD = true → ys.all flatV = true ∧ inV x ys = es.any fun y => eqF y d
  | _, _, .nil, _ => ⟨rfl, rfl⟩
  | y :: ys, e :: es, .cons h t, f => by
    rw [List.all_cons, Bool.and_eq_true] at f
    obtain ⟨h1, h2⟩ := inV_ok hx fx t f.2
    have fe := (flat_vw (H := G) (Vw.rp h) f.1).2
    refine ⟨by rw [List.all_cons, fe, h1]; rfl, ?_⟩
    unfold inV at h2 ⊢
    rw [List.any_cons, List.any_cons, eqF_ok hx h fx f.1, h2]
theorem opd_in {neg : Bool} : OpD W (rInA W.K neg) (inB neg) := by
  intro x y d e G H Q z s vx vy hf k
  unfold inB at hf
  split at hf
  · cases vx.str; cases vy.str; cases hf
    exact .inr ⟨_, _, rfl, rfl, k _ _ _ (NR.dat s (.bl _))⟩
  · obtain ⟨a, vs, rfl, ha, ra⟩ := vy.lst s
    split at hf
    · rename_i hb
      simp only [Bool.and_eq_true] at hb
      cases hf
      obtain ⟨rx, fx⟩ := flat_vw vx hb.1
      obtain ⟨h1, h2⟩ := inV_ok rx hb.1 ra hb.2
      refine .inl ⟨a, vs, rfl, .inl (SqL.of ha), fx, h1, ?_⟩
      rw [h2]
      exact k _ _ _ (NR.dat s (.bl _))
    · cases hf
  · obtain ⟨a, vs, rfl, ha, ra⟩ := vy.tup s
    split at hf
    · rename_i hb
      simp only [Bool.and_eq_true] at hb
      cases hf
      obtain ⟨rx, fx⟩ := flat_vw vx hb.1
      obtain ⟨h1, h2⟩ := inV_ok rx hb.1 ra hb.2
      refine .inl ⟨a, vs, rfl, .inr (SqT.of ha), fx, h1, ?_⟩
      rw [h2]
      exact k _ _ _ (NR.dat s (.bl _))
    · cases hf
  · cases hf
end
end Den
end

section
set_option Elab.async false
set_option linter.all false
set_option maxRecDepth 100000
set_option maxHeartbeats 2000000
/-! DenD: displays, subscripts, slices, calls of built-ins, methods of built-in types. -/
namespace Den
open PySem L2
section
variable {X : Cx} {W : Pw}

/-! ### displays -/
def pTup (P : PAF) : PF := fun env => do
  let (rvs, e1) ← P env
  let ds ← dts rvs
  if ds.length ≤ sizeLine then some (.dat (.tup ds), e1) else none
def pLst (P : PAF) : PF := fun env => do
  let (rvs, e1) ← P env
  let ds ← dts rvs
  if ds.length ≤ sizeLine then some (.own (.lst ds), e1) else none
/-- behind arguments that are let go of -/
theorem Step.frozen {σ : St} {env e1 : Env'} {H G H1 G1 : Hp} {vs : List V} {rvs : List RV} {ds : List D} (r : Rel W σ env H G) (s : Step W σ env H G e1 H1 G1) (o : RvsOk W σ H H1 G1 vs rvs) (h : dts rvs = some ds) :
    ∃ G2, Step W σ env H G e1 H1 G2 ∧ RpAll W G2 vs ds := by
  obtain ⟨G2, s2, r2, k2, q2⟩ := o.freeze s.rel (fun b z => s.ownNe r z) h
  exact ⟨G2, ⟨s.le, r2, ⟨s.ext.same.trans s2, fun b hb g => k2 b hb (s.ext.new b hb g), s.ext.dom⟩, s.keep⟩, q2⟩
theorem pd_tup {es : List Expr} {P : PAF} {x1 : Nat} {pos : Pos} (h : PAD X W P es) : PD X W (pTup P) (.Tuple es x1 pos) := PE.weak (pe_tup h) fun σ H Q ⟨env, G, rv, env', r, p, k⟩ => by
  unfold pTup at p
  simp only [Option.bind_eq_bind, Option.bind_eq_some_iff, Prod.exists] at p
  obtain ⟨rvs, e1, h1, ds, h2, p⟩ := p
  split at p
  · rename_i hz
    cases p
    refine ⟨env, G, rvs, _, r, h1, fun vs H1 G1 s o => ?_⟩
    obtain ⟨G2, s2, q2⟩ := Step.frozen r s o h2
    refine ⟨by rw [q2.length]; exact hz, fun q hq => ?_⟩
    have n : NR W H1 G2 (.ref q) (.dat (.tup ds)) (upd H1 q (.tup vs)) (upd G2 q (.tup vs)) := NR.frz s2.rel.sub hq (.tup upd_same (RpAll.mono (same_upd (s2.rel.sub.free hq)) q2))
    exact k _ _ _ (s2.trans (n.step s2.rel)) (n.rv s2.ext.dom)
  · cases p
theorem pd_lst {es : List Expr} {P : PAF} {pos : Pos} (h : PAD X W P es) : PD X W (pLst P) (.List es pos) := PE.weak (pe_lst h) fun σ H Q ⟨env, G, rv, env', r, p, k⟩ => by
  unfold pLst at p
  simp only [Option.bind_eq_bind, Option.bind_eq_some_iff, Prod.exists] at p
  obtain ⟨rvs, e1, h1, ds, h2, p⟩ := p
  split at p
  · rename_i hz
    cases p
    refine ⟨env, G, rvs, _, r, h1, fun vs H1 G1 s o => ?_⟩
    obtain ⟨G2, s2, q2⟩ := Step.frozen r s o h2
    refine ⟨by rw [q2.length]; exact hz, fun q hq => ?_⟩
    have n : NR W H1 G2 (.ref q) (.own (.lst ds)) (upd H1 q (.lst vs)) G2 := NR.own s2.rel.sub hq (.lst q2)
    exact k _ _ _ (s2.trans (n.step s2.rel)) (n.rv s2.ext.dom)
  · cases p

/-! ### subscripts -/
def ixD : D → D → Option RV
  | .lst xs, .int i => (atI xs i).map .dat
  | .tup xs, .int i => (atI xs i).map .dat
  | .scr ns, .int i => (atI ns i).map fun n => .dat (.int n)
  | .str z, .int i => if z.length ≤ sizeLine then (atI z.cps.toList i).map fun c => .dat (.str ⟨#[c]⟩) else none
  | _, _ => none
theorem atI_rp {G : Hp} {vs : List V} {ds : List D} {i : Int} {d : D} (r : RpAll W G vs ds) (h : atI ds i = some d) : ∃ v, atI vs i = some v ∧ Rp W G v d := by
  unfold atI at h ⊢
  rw [r.length]
  simp only [Option.bind_eq_some_iff] at h
  obtain ⟨j, h1, h2⟩ := h
  obtain ⟨v, h3, h4⟩ := r.get h2
  exact ⟨v, by rw [h1]; exact h3, h4⟩
theorem opd_ix : OpD W (rIx W.K) ixD := by
  intro x y d e G H Q z s vx vy hf k
  unfold ixD at hf
  split at hf
  · obtain ⟨a, vs, rfl, ha, ra⟩ := vx.lst s
    cases vy.int
    simp only [Option.map_eq_some_iff] at hf
    obtain ⟨d, h1, rfl⟩ := hf
    obtain ⟨v, h2, h3⟩ := atI_rp ra h1
    exact .inl ⟨a, vs, _, v, rfl, rfl, SqL.of ha, h2, k _ _ _ (NR.dat s h3)⟩
  · obtain ⟨a, vs, rfl, ha, ra⟩ := vx.tup s
    cases vy.int
    simp only [Option.map_eq_some_iff] at hf
    obtain ⟨d, h1, rfl⟩ := hf
    obtain ⟨v, h2, h3⟩ := atI_rp ra h1
    exact .inr (.inl ⟨a, vs, _, v, rfl, rfl, SqT.of ha, h2, k _ _ _ (NR.dat s h3)⟩)
  · obtain ⟨a, rfl, ha⟩ := vx.scr s
    cases vy.int
    simp only [Option.map_eq_some_iff] at hf
    obtain ⟨n, h1, rfl⟩ := hf
    refine .inl ⟨a, _, _, .int n, rfl, rfl, ha, ?_, k _ _ _ (NR.dat s (.int n))⟩
    unfold atI at h1 ⊢
    simp only [Option.bind_eq_some_iff] at h1
    obtain ⟨j, h2, h3⟩ := h1
    rw [List.length_map, h2]
    simp [h3]
  · cases vx.str; cases vy.int
    split at hf
    · simp only [Option.map_eq_some_iff] at hf
      obtain ⟨c, h1, rfl⟩ := hf
      exact .inr (.inr ⟨_, _, c, rfl, rfl, by assumption, h1, k _ _ _ (NR.dat s (.str _))⟩)
    · cases hf
  · cases hf
def notSlice : Expr → Bool
  | .Slice .. => false
  | _ => true
theorem plainIx {b : Expr} (h : notSlice b = true) : PlainIx b := by
  cases b <;> first | (intro o i; rfl) | cases h
theorem pd_ix {a b : Expr} {P P' : PF} {pos : Pos} (hK : X.K = W.K) (ha : PD X W P a) (hb : PD X W P' b) (hs : notSlice b = true) : PD X W (pBin ixD P P') (.Subscript a b pos) :=
  PE.weak (pe_ix ix_seq ha hb (plainIx hs)) fun _ _ _ h => by rw [hK]; exact op_tE opd_ix h

/-! ### slices -/
abbrev OF := Env' → Option (Option Int × Env')
def oNone : OF := fun env => some (none, env)
def oSome (P : PF) : OF := fun env => do
  let (rv, e1) ← P env
  match rv with
  | .dat (.int i) => some (some i, e1)
  | _ => none
def tO (W : Pw) (P : OF) : TO := fun σ H Q => ∃ env G o env', Rel W σ env H G ∧ P env = some (o, env') ∧ ∀ H' G', Step W σ env H G env' H' G' → Q o H'
abbrev POD (X : Cx) (W : Pw) (P : OF) (e : Option Expr) : Prop := PO X e (tO W P)
theorem PO.weak {X : Cx} {e : Option Expr} {t t' : TO} (h : PO X e t) (k : ∀ σ H Q, t' σ H Q → t σ H Q) : PO X e t' := ⟨fun pins s σ H Q I q => h.run pins s σ H Q I (k σ H Q q)⟩
theorem pod_none : POD X W oNone none := PO.weak po_none fun σ H Q ⟨env, G, o, env', r, p, k⟩ => by
  cases p
  exact k H G (Step.refl r)
theorem pod_some {e : Expr} {P : PF} (h : PD X W P e) : POD X W (oSome P) (some e) := PO.weak (po_some h) fun σ H Q ⟨env, G, o, env', r, p, k⟩ => by
  unfold oSome at p
  simp only [Option.bind_eq_bind, Option.bind_eq_some_iff, Prod.exists] at p
  obtain ⟨rv, e1, h1, p⟩ := p
  split at p
  · cases p
    refine tE_one r h1 fun v H1 G1 s q => ?_
    cases q
    exact ⟨_, rfl, k H1 G1 s⟩
  · cases p
def cutD (xs : List D) (lo hi : Option Int) : List D := (xs.drop (HT.sIx xs.length 0 lo)).take (HT.sIx xs.length xs.length hi - HT.sIx xs.length 0 lo)
def slD : D → Option Int → Option Int → Option RV
  | .lst xs, lo, hi => some (.own (.lst (cutD xs lo hi)))
  | .str z, lo, hi => if z.length ≤ sizeLine then some (.dat (.str (cutS z lo hi))) else none
  | .tup xs, lo, hi => if HT.sIx xs.length 0 lo = 0 ∧ HT.sIx xs.length xs.length hi = xs.length then none else some (.dat (.tup (cutD xs lo hi)))
  | _, _, _ => none
def pSl (P : PF) (Pl Pu : OF) : PF := fun env => do
  let (rv, e1) ← P env
  let (lo, e2) ← Pl e1
  let (hi, e3) ← Pu e2
  let d ← rv.cont e3
  let z ← slD d lo hi
  some (z, e3)
def rSlA (K : PySem.W.Frag) : V → Option Int → Option Int → Hp → VK → Prop := fun x lo hi H Q => rSlL K x lo hi H Q ∨ rSlS x lo hi H Q ∨ rSlT K x lo hi H Q
theorem slr_all : SlR X (rSlA X.K) := sl_list.or (sl_str.or sl_tup)
theorem RpAll.cut {G : Hp} {vs : List V} {ds : List D} (r : RpAll W G vs ds) (lo hi : Option Int) : RpAll W G (cutV vs lo hi) (cutD ds lo hi) := by
  unfold cutV cutD
  rw [r.length]
  exact (r.drop _).take _
theorem slD_ok {x : V} {d : D} {lo hi : Option Int} {G H : Hp} {Q : VK} {z : RV} (s : Same G H) (vx : Vw W G H x d) (hf : slD d lo hi = some z) (k : ∀ v H' G', NR W H G v z H' G' → Q v H') : rSlA W.K x lo hi H Q := by
  unfold slD at hf
  split at hf
  · obtain ⟨a, vs, rfl, ha, ra⟩ := vx.lst s
    cases hf
    exact .inl ⟨a, vs, rfl, SqL.of ha, fun p hp => k _ _ _ (NR.own s hp (.lst (ra.cut _ _)))⟩
  · cases vx.str
    split at hf
    · cases hf
      exact .inr (.inl ⟨_, rfl, by assumption, k _ _ _ (NR.dat s (.str _))⟩)
    · cases hf
  · obtain ⟨a, vs, rfl, ha, ra⟩ := vx.tup s
    split at hf
    · cases hf
    · rename_i hz
      cases hf
      exact .inr (.inr ⟨a, vs, rfl, SqT.of ha, by rw [ra.length]; exact hz, fun p hp => k _ _ _ (NR.frz s hp (.tup upd_same (RpAll.mono (same_upd (s.free hp)) (ra.cut _ _))))⟩)
  · cases hf
theorem pd_slice {e : Expr} {lo hi : Option Expr} {P : PF} {Pl Pu : OF} {pos p2 : Pos} (hK : X.K = W.K) (he : PD X W P e) (hl : POD X W Pl lo) (hu : POD X W Pu hi) : PD X W (pSl P Pl Pu) (.Subscript e (.Slice lo hi none p2) pos) :=
  PE.weak (pe_slice slr_all he hl hu) fun σ H Q ⟨env, G, rv, env', r, p, k⟩ => by
    unfold pSl at p
    simp only [Option.bind_eq_bind, Option.bind_eq_some_iff, Prod.exists, Option.some.injEq, Prod.mk.injEq] at p
    obtain ⟨ra, e1, h1, lo, e2, h2, hi, e3, h3, d, h4, z, h5, rfl, rfl⟩ := p
    refine tE_one r h1 fun v H1 G1 s1 o1 => ⟨e1, G1, lo, e2, s1.rel, h2, fun H2 G2 s2 => ⟨e2, G2, hi, e3, s2.rel, h3, fun H3 G3 s3 => ?_⟩⟩
    have s12 := s1.trans s2
    have s := s12.trans s3
    have o3 := (o1.step s1.rel (fun b z => s1.ownNe r z) s2).step s2.rel (fun b z => s12.ownNe r z) s3
    rw [hK]
    exact slD_ok s.rel.sub (o3.vw s.rel h4) h5 fun w H4 G4 n => k w H4 G4 (s.trans (n.step s.rel)) (n.rv s.ext.dom)

/-! ### calls of built-ins -/
inductive VwAll (W : Pw) (G H : Hp) : List V → List D → Prop
  | nil : VwAll W G H [] []
  | cons {v : V} {d : D} {vs : List V} {ds : List D} : Vw W G H v d → VwAll W G H vs ds → VwAll W G H (v :: vs) (d :: ds)
theorem RvsOk.vws {σ : St} {env : Env'} {H H' G' : Hp} (r : Rel W σ env H' G') : ∀ {vs : List V} {rvs : List RV} {ds : List D}, RvsOk W σ H H' G' vs rvs → conts env rvs = some ds → VwAll W G' H' vs ds
  | _, _, _, .nil, e => by cases e; exact .nil
  | _, _, _, .cons h n t, e => by
    simp only [conts, Option.bind_eq_bind, Option.bind_eq_some_iff, Option.some.injEq] at e
    obtain ⟨d, h1, ds, h2, rfl⟩ := e
    exact .cons (h.vw r h1) (RvsOk.vws r t h2)
def pCall (f : List D → Option RV) (P : PAF) : PF := fun env => do
  let (rvs, e1) ← P env
  let ds ← conts e1 rvs
  let z ← f ds
  some (z, e1)
def CallD (W : Pw) (r : List V → Hp → VK → Prop) (f : List D → Option RV) : Prop := ∀ (xs : List V) (ds : List D) (G H : Hp) (Q : VK) (z : RV), Same G H → VwAll W G H xs ds → f ds = some z →
  (∀ v H' G', NR W H G v z H' G' → Q v H') → r xs H Q
theorem call_tE {r : List V → Hp → VK → Prop} {f : List D → Option RV} (o : CallD W r f) {P : PAF} {σ : St} {H : Hp} {Q : VK} (h : tE W (pCall f P) σ H Q) : tCB r (tA W P) σ H Q := by
  obtain ⟨env, G, rv, env', rl, p, k⟩ := h
  unfold pCall at p
  simp only [Option.bind_eq_bind, Option.bind_eq_some_iff, Prod.exists, Option.some.injEq, Prod.mk.injEq] at p
  obtain ⟨rvs, e1, h1, ds, h2, z, h3, rfl, rfl⟩ := p
  refine ⟨env, G, rvs, e1, rl, h1, fun vs H1 G1 s o1 => o vs ds G1 H1 Q z s.rel.sub (o1.vws s.rel h2) h3 fun w H2 G2 n => ?_⟩
  exact k w H2 G2 (s.trans (n.step s.rel)) (n.rv s.ext.dom)
theorem noStars {es : List Expr} {env : Env} {pos : Pos} (h : es.all notStar = true) : (backTo pos (starEach es env)).any (·.1) = false := by
  induction es with
  | nil => rfl
  | cons e es ih =>
    rw [List.all_cons, Bool.and_eq_true] at h
    rw [star_plain h.1]
    show (backTo pos (starEach es env)).any (·.1) = false
    exact ih h.2
theorem pd_callB {id : String} {x : Str} {p pos : Pos} {e : Expr} {es : List Expr} {r : List V → Hp → VK → Prop} {f : List D → Option RV} {P : PAF} (hc : CallR X (.builtin id) r) (o : CallD W r f) (hg : Gl X x) (hm : X.mg x = none) (hv : bootBuiltins x = some (.builtin id))
    (ha : PAD X W P (e :: es)) (hs : (e :: es).all notStar = true) (hn : x ≠ "__name__" := by decide) (hdb : (x == ("__debug__" : Str)) = false := by decide) : PD X W (pCall f P) (.Call (.Name x p) (e :: es) [] pos) := by
  have h2 := hs
  rw [List.all_cons, Bool.and_eq_true] at h2
  exact PE.weak (pe_callB hc hg hm hv ha hn hdb (star_plain h2.1) (noStars h2.2)) fun _ _ _ h => call_tE o h
theorem pd_callTy {T : String} {x : Str} {p pos : Pos} {e : Expr} {es : List Expr} {r : List V → Hp → VK → Prop} {f : List D → Option RV} {P : PAF} (hc : CallR X (.type T) r) (o : CallD W r f) (hg : Gl X x) (hm : X.mg x = none) (hv : bootBuiltins x = some (.type T))
    (ha : PAD X W P (e :: es)) (hs : (e :: es).all notStar = true) (hn : x ≠ "__name__" := by decide) (hdb : (x == ("__debug__" : Str)) = false := by decide) : PD X W (pCall f P) (.Call (.Name x p) (e :: es) [] pos) := by
  have h2 := hs
  rw [List.all_cons, Bool.and_eq_true] at h2
  exact PE.weak (pe_callTy hc hg hm hv ha hn hdb (star_plain h2.1) (noStars h2.2)) fun _ _ _ h => call_tE o h

def lenD : List D → Option RV
  | [.str x] => if x.length ≤ sizeLine then some (.dat (.int x.length)) else none
  | [.lst xs] => some (.dat (.int xs.length))
  | [.tup xs] => some (.dat (.int xs.length))
  | [.scr ns] => some (.dat (.int ns.length))
  | _ => none
theorem callD_len : CallD W (fun xs H Q => ∃ x n, xs = [x] ∧ LenV W.K x H n ∧ Q (.int n) H) lenD := by
  intro xs ds G H Q z s vs hf k
  unfold lenD at hf
  split at hf
  · cases vs with
    | cons v t =>
      cases t; cases v.str
      split at hf
      · cases hf; exact ⟨_, _, rfl, ⟨by assumption, rfl⟩, k _ _ _ (NR.dat s (.int _))⟩
      · cases hf
  · cases vs with | cons v t => cases t; obtain ⟨a, ys, rfl, ha, ra⟩ := v.lst s; cases hf; exact ⟨_, ys.length, rfl, .inl ⟨ys, SqL.of ha, rfl⟩, by rw [ra.length]; exact k _ _ _ (NR.dat s (.int _))⟩
  · cases vs with | cons v t => cases t; obtain ⟨a, ys, rfl, ha, ra⟩ := v.tup s; cases hf; exact ⟨_, ys.length, rfl, .inr ⟨ys, SqT.of ha, rfl⟩, by rw [ra.length]; exact k _ _ _ (NR.dat s (.int _))⟩
  · cases vs with | cons v t => cases t; obtain ⟨a, rfl, ha⟩ := v.scr s; cases hf; exact ⟨_, _, rfl, .inl ⟨_, ha, rfl⟩, by rw [List.length_map]; exact k _ _ _ (NR.dat s (.int _))⟩
  · cases hf
def absD : List D → Option RV
  | [.int i] => some (.dat (.int (if i < 0 then -i else i)))
  | _ => none
theorem callD_abs : CallD W (fun xs H Q => ∃ i, xs = [.int i] ∧ Q (.int (if i < 0 then -i else i)) H) absD := by
  intro xs ds G H Q z s vs hf k
  unfold absD at hf
  split at hf
  · cases vs with | cons v t => cases t; cases v.int; cases hf; exact ⟨_, rfl, k _ _ _ (NR.dat s (.int _))⟩
  · cases hf
def max2D : List D → Option RV
  | [.int i, .int j] => some (.dat (.int (if j > i then j else i)))
  | _ => none
theorem callD_max2 : CallD W (fun xs H Q => ∃ i j, xs = [.int i, .int j] ∧ Q (.int (if j > i then j else i)) H) max2D := by
  intro xs ds G H Q z s vs hf k
  unfold max2D at hf
  split at hf
  · cases vs with | cons v t => cases t with | cons v' t => cases t; cases v.int; cases v'.int; cases hf; exact ⟨_, _, rfl, k _ _ _ (NR.dat s (.int _))⟩
  · cases hf
def min2D : List D → Option RV
  | [.int i, .int j] => some (.dat (.int (if j < i then j else i)))
  | _ => none
theorem callD_min2 : CallD W (fun xs H Q => ∃ i j, xs = [.int i, .int j] ∧ Q (.int (if j < i then j else i)) H) min2D := by
  intro xs ds G H Q z s vs hf k
  unfold min2D at hf
  split at hf
  · cases vs with | cons v t => cases t with | cons v' t => cases t; cases v.int; cases v'.int; cases hf; exact ⟨_, _, rfl, k _ _ _ (NR.dat s (.int _))⟩
  · cases hf
def int1D : List D → Option RV
  | [.int i] => some (.dat (.int i))
  | [.bl b] => some (.dat (.int (if b then 1 else 0)))
  | _ => none
theorem callD_int1 : CallD W (fun xs H Q => (∃ i, xs = [.int i] ∧ Q (.int i) H) ∨ ∃ k, xs = [.bl k] ∧ Q (.int (if k then 1 else 0)) H) int1D := by
  intro xs ds G H Q z s vs hf k
  unfold int1D at hf
  split at hf
  · cases vs with | cons v t => cases t; cases v.int; cases hf; exact .inl ⟨_, rfl, k _ _ _ (NR.dat s (.int _))⟩
  · cases vs with | cons v t => cases t; cases v.bl; cases hf; exact .inr ⟨_, rfl, k _ _ _ (NR.dat s (.int _))⟩
  · cases hf
def divmodD : List D → Option RV
  | [.int i, .int j] => if 0 < j ∧ j < 1073741824 then some (.dat (.tup [.int (i / j), .int (i % j)])) else none
  | _ => none
theorem callD_divmod : CallD W (fun xs H Q => ∃ i j, xs = [.int i, .int j] ∧ CDiv i j ∧ ∀ p, H p = none → Q (.ref p) (upd H p (.tup [.int (i / j), .int (i % j)]))) divmodD := by
  intro xs ds G H Q z s vs hf k
  unfold divmodD at hf
  split at hf
  · cases vs with
    | cons v t => cases t with
      | cons v' t =>
        cases t; cases v.int; cases v'.int
        split at hf
        · rename_i hz
          cases hf
          exact ⟨_, _, rfl, hz, fun p hp => k _ _ _ (NR.frz s hp (.tup upd_same (.cons (.int _) (.cons (.int _) .nil))))⟩
        · cases hf
  · cases hf
/-- all(list of truths), any(..) -/
def bools : List D → Option (List Bool)
  | [] => some []
  | .bl b :: ds => (bools ds).map (b :: ·)
  | _ :: _ => none
theorem bools_ok {G : Hp} : ∀ {vs : List V} {ds : List D} {bs : List Bool}, RpAll W G vs ds → bools ds = some bs → vs = bs.map V.bl
  | _, _, _, .nil, e => by cases e; rfl
  | _, .bl b :: ds, _, .cons h t, e => by
    simp only [bools, Option.map_eq_some_iff] at e
    obtain ⟨bs, h1, rfl⟩ := e
    cases h
    rw [List.map_cons, bools_ok t h1]
def allD : List D → Option RV
  | [.lst ds] => (bools ds).map fun bs => .dat (.bl (bs.all id))
  | _ => none
def anyD : List D → Option RV
  | [.lst ds] => (bools ds).map fun bs => .dat (.bl (bs.any id))
  | _ => none
theorem callD_all : CallD W (rAll W.K) allD := by
  intro xs ds G H Q z s vs hf k
  unfold allD at hf
  split at hf
  · cases vs with
    | cons v t =>
      cases t
      obtain ⟨a, ys, rfl, ha, ra⟩ := v.lst s
      simp only [Option.map_eq_some_iff] at hf
      obtain ⟨bs, h1, rfl⟩ := hf
      exact ⟨a, bs, rfl, by rw [← bools_ok ra h1]; exact SqL.of ha, k _ _ _ (NR.dat s (.bl _))⟩
  · cases hf
/-- repr of data -/
def showD (d : D) : Option Str := match toPy d with
  | some p => if p.showable && (decide (p.depth ≤ 64) && decide (p.shown.length ≤ sizeLine)) then some p.shown else none
  | none => none
def isRefD : D → Bool
  | .lst _ => true
  | .tup _ => true
  | _ => false
def reprD : List D → Option RV
  | [d] => if isRefD d then (showD d).map fun x => .dat (.str x) else none
  | _ => none
def rRepr (K : PySem.W.Frag) : List V → Hp → VK → Prop := fun xs H Q => ∃ (a : Addr) (p : PyData), xs = [.ref a] ∧ Dp K H (.ref a) p ∧ p.showable = true ∧ p.depth ≤ 64 ∧ p.shown.length ≤ sizeLine ∧ Q (.str p.shown) H
theorem dp_nodict {K : PySem.W.Frag} {H : Hp} : ∀ {p : PyData} {v : V}, Dp K H v p → p.hasDict = false
  := by
  intro p v h
  induction h using Dp.rec (motive_2 := fun _ ps _ => PyData.hasDictAll ps = false) with
  | _ => simp_all [PyData.hasDict, PyData.hasDictAll]
theorem cr_repr (hg : X.A.guards = some []) (hu : X.A.units + 70 < cLine) : CallR X (.builtin "repr") (rRepr X.K) := by
  intro pins s σ H xs us Q I r h
  obtain ⟨a, p, rfl, hd, h1, h2, h3, q⟩ := h
  obtain ⟨u, rfl, ru⟩ := vals1 r
  obtain ⟨as, rr⟩ := Dp.reads I p _ u hd ru
  cases ru
  exact PySem.repr_of_reads' rr h1 (PyData.noDict_hsm (dp_nodict hd)) hg (by omega) (fun _ _ e => e) (fun h' u tk hk => ⟨.str p.shown, H, I.kept hk, ⟨_, rfl⟩, q⟩) h3
theorem callD_repr : CallD W (rRepr W.K) reprD := by
  intro xs ds G H Q z s vs hf k
  unfold reprD at hf
  split at hf
  · rename_i d
    cases vs with
    | cons v t =>
      cases t
      split at hf
      · rename_i hr
        simp only [Option.map_eq_some_iff] at hf
        obtain ⟨x, h1, rfl⟩ := hf
        unfold showD at h1
        split at h1
        · rename_i p hp
          split at h1
          · rename_i hz
            simp only [Bool.and_eq_true, decide_eq_true_eq] at hz
            cases h1
            have hd := v.dp s hp
            cases d with
            | lst ds => obtain ⟨a, ys, rfl, _⟩ := v.lst s; exact ⟨a, p, rfl, hd, hz.1, hz.2.1, hz.2.2, k _ _ _ (NR.dat s (.str _))⟩
            | tup ds => obtain ⟨a, ys, rfl, _⟩ := v.tup s; exact ⟨a, p, rfl, hd, hz.1, hz.2.1, hz.2.2, k _ _ _ (NR.dat s (.str _))⟩
            | _ => cases hr
          · cases h1
        · cases h1
      · cases hf
  · cases hf
end
end Den
end

section
set_option Elab.async false
set_option linter.all false
set_option maxRecDepth 100000
set_option maxHeartbeats 2000000
/-! DenD2: more operators and built-in functions by data. -/
namespace Den
open PySem L2 PySem.Spec PyProof.Rows
section
variable {X : Cx} {W : Pw}

/-! ### bits -/
def orD : D → D → Option RV := intD (fun _ _ => true) fun i j => .int (Builtin.bitOr i j)
theorem opd_or : OpD W (rI0 fun i j => .int (Builtin.bitOr i j)) orD := opd_int0 fun _ _ _ => .int _
def andD : D → D → Option RV := intD (fun _ _ => true) fun i j => .int (Builtin.bitAnd i j)
theorem opd_and : OpD W (rI0 fun i j => .int (Builtin.bitAnd i j)) andD := opd_int0 fun _ _ _ => .int _
def xorD : D → D → Option RV := intD (fun _ _ => true) fun i j => .int (Builtin.bitXor i j)
theorem opd_xor : OpD W (rI0 fun i j => .int (Builtin.bitXor i j)) xorD := opd_int0 fun _ _ _ => .int _
def shlD : D → D → Option RV := intD (fun i j => decide (0 ≤ j) && decide ((Builtin.Int.intBits i : Int) + j ≤ 2 ^ 27)) fun i j => .int (i * 2 ^ j.toNat)
theorem opd_shl : OpD W (rI CShl fun i j => .int (i * 2 ^ j.toNat)) shlD := opd_int (fun _ _ h => by rw [Bool.and_eq_true] at h; exact ⟨of_decide_eq_true h.1, of_decide_eq_true h.2⟩) fun _ _ _ => .int _
def shrD : D → D → Option RV := intD (fun _ j => decide (0 ≤ j)) fun i j => .int (i / 2 ^ j.toNat)
theorem opd_shr : OpD W (rI (fun _ j => 0 ≤ j) fun i j => .int (i / 2 ^ j.toNat)) shrD := opd_int (fun _ _ h => of_decide_eq_true h) fun _ _ _ => .int _

/-! ### text times a number -/
def repS (x : Str) (k : Int) : Str := ⟨(List.replicate k.toNat x.cps).foldl (· ++ ·) #[]⟩
theorem repS_one (x : Str) : repS x 1 = x := by
  unfold repS
  show (⟨#[] ++ x.cps⟩ : Str) = x
  rw [Array.empty_append]
theorem foldl_empty : ∀ (n : Nat) (a : Array Nat), (List.replicate n (#[] : Array Nat)).foldl (· ++ ·) a = a
  | 0, a => rfl
  | n + 1, a => by
    rw [List.replicate_succ, List.foldl_cons, Array.append_empty]
    exact foldl_empty n a
theorem repS_none {x : Str} {k : Int} (h : x.length = 0) : repS x k = x := by
  obtain ⟨c⟩ := x
  have e : c = #[] := by
    have : c.size = 0 := h
    simpa using this
  subst e
  unfold repS
  simp only [foldl_empty]
theorem foldl_rep (c : Array Nat) : ∀ (n : Nat) (a : Array Nat), ((List.replicate n c).foldl (· ++ ·) a).size = a.size + c.size * n
  | 0, a => rfl
  | n + 1, a => by
    rw [List.replicate_succ, List.foldl_cons, foldl_rep c n, Array.size_append, Nat.mul_succ]
    omega
theorem repS_len (x : Str) (k : Int) : (repS x k).length = x.length * k.toNat := by
  show ((List.replicate k.toNat x.cps).foldl (· ++ ·) #[]).size = x.cps.size * k.toNat
  rw [foldl_rep]
  simp
def rMulS : R2 := fun x y H Q => ∃ (z : Str) (k : Int), x = .str z ∧ y = .int k ∧ -(2 ^ 62) ≤ k ∧ k < 2 ^ 62 ∧ z.length * k.toNat ≤ 16777216 ∧ Q (.str (repS z k)) H
theorem op_mulS : OpR X (binaryOp .Mult) rMulS := by
  intro pins s σ H x y v u Q I rx ry h
  obtain ⟨z, k, rfl, rfl, h1, h2, h3, q⟩ := h
  obtain ⟨t, rfl⟩ := rx
  obtain ⟨t', rfl⟩ := ry
  have sz : sizeLine = 16777216 := sizeLine_eq
  refine PySem.P.mul_str ?_ (fun hn hz => ?_) (fun _ _ => ?_) ?_
  · rw [Bool.or_eq_false_iff]
    exact ⟨decide_eq_false (by omega), decide_eq_false (by omega)⟩
  · have hk : (k.toNat : Int) = k := Int.toNat_of_nonneg (by omega)
    have h4 : (z.length : Int) * k ≤ 16777216 := by
      have q3 := Int.ofNat_le.mpr h3
      rw [Int.natCast_mul, hk] at q3
      omega
    have h5 : (z.length : Int) ≤ (2 ^ 63 - 1) / k := (Int.le_ediv_iff_mul_le (by omega)).mpr (by omega)
    omega
  · unfold Builtin.Str.tooLong
    exact decide_eq_false (by omega)
  · by_cases hk : k < 1
    · rw [if_pos hk]
      have e : repS z k = Str.empty := by
        unfold repS
        have : k.toNat = 0 := by omega
        rw [this]
        rfl
      rw [e] at q
      exact ⟨by decide, ⟨.str Str.empty, H, I.tok _, ⟨_, rfl⟩, q⟩⟩
    · rw [if_neg hk]
      split
      · rename_i hz
        have e : repS z k = z := by
          simp only [Bool.or_eq_true, beq_iff_eq] at hz
          rcases hz with hz | hz
          · rw [hz]; exact repS_one z
          · exact repS_none hz
        rw [e] at q
        exact ⟨.str z, H, I, ⟨_, rfl⟩, q⟩
      · refine ⟨?_, ⟨.str (repS z k), H, I.tok _, ⟨_, rfl⟩, q⟩⟩
        show (repS z k).length ≤ sizeLine
        rw [repS_len]
        omega

def mul2D : D → D → Option RV
  | .str x, .int k => if -(2 ^ 62) ≤ k ∧ k < 2 ^ 62 ∧ x.length * k.toNat ≤ 16777216 then some (.dat (.str (repS x k))) else none
  | d, e => mulD d e
def rMul2 : R2 := fun x y H Q => rMul x y H Q ∨ rMulS x y H Q
theorem opr_mul2 : OpR X (binaryOp .Mult) rMul2 := opr_mul.or op_mulS
theorem opd_mul2 : OpD W rMul2 mul2D := by
  intro x y d e G H Q z s vx vy hf k
  unfold mul2D at hf
  split at hf
  · cases vx.str; cases vy.int
    split at hf
    · rename_i hz
      cases hf
      exact .inr ⟨_, _, rfl, rfl, hz.1, hz.2.1, hz.2.2, k _ _ _ (NR.dat s (.str _))⟩
    · cases hf
  · exact .inl (opd_mul x y d e G H Q z s vx vy hf k)

/-! ### is, is not -/
def isNon : D → Option Bool
  | .non => some true | .bl _ => some false | .int _ => some false | .str _ => some false | .lst _ => some false | .tup _ => some false | .dic _ => some false | .obj _ _ => some false | .scr _ => some false | _ => none
def isD (neg : Bool) : D → D → Option RV
  | d, .non => (isNon d).map fun b => .dat (.bl (if neg then !b else b))
  | .bl a, .bl b => some (.dat (.bl (if neg then !decide (a = b) else decide (a = b))))
  | _, _ => none
def rIsA (neg : Bool) : R2 := fun x y H Q => (y = .non ∧ Q (.bl (if neg then !decide (x = .non) else decide (x = .non))) H) ∨ (∃ a b : Bool, x = .bl a ∧ y = .bl b ∧ Q (.bl (if neg then !decide (a = b) else decide (a = b))) H)
theorem opr_is : OpR X (compareOp .Is) (rIsA false) := op_isN.or op_isBl
theorem opr_isn : OpR X (compareOp .IsNot) (rIsA true) := op_notN.or op_notBl
theorem isNon_ok {G H : Hp} {x : V} {d : D} {b : Bool} (vx : Vw W G H x d) (h : isNon d = some b) : decide (x = .non) = b := by
  cases vx with
  | rp r => cases r <;> simp [isNon] at h <;> subst h <;> simp
  | ob ev h1 q => subst ev; cases q <;> simp [isNon] at h <;> subst h <;> simp
theorem opd_is {neg : Bool} : OpD W (rIsA neg) (isD neg) := by
  intro x y d e G H Q z s vx vy hf k
  unfold isD at hf
  split at hf
  · cases vy.non
    simp only [Option.map_eq_some_iff] at hf
    obtain ⟨b, hb, rfl⟩ := hf
    refine .inl ⟨rfl, ?_⟩
    rw [isNon_ok vx hb]
    exact k _ _ _ (NR.dat s (.bl _))
  · cases vx.bl; cases vy.bl; cases hf
    exact .inr ⟨_, _, rfl, rfl, k _ _ _ (NR.dat s (.bl _))⟩
  · cases hf

/-! ### any, sum, isinstance -/
theorem callD_any : CallD W (rAny W.K) anyD := by
  intro xs ds G H Q z s vs hf k
  unfold anyD at hf
  split at hf
  · cases vs with
    | cons v t =>
      cases t
      obtain ⟨a, ys, rfl, ha, ra⟩ := v.lst s
      simp only [Option.map_eq_some_iff] at hf
      obtain ⟨bs, h1, rfl⟩ := hf
      exact ⟨a, bs, rfl, by rw [← bools_ok ra h1]; exact SqL.of ha, k _ _ _ (NR.dat s (.bl _))⟩
  · cases hf
def intsD : List D → Option (List Int)
  | [] => some []
  | .int i :: ds => (intsD ds).map (i :: ·)
  | _ :: _ => none
theorem intsD_ok {G : Hp} : ∀ {vs : List V} {ds : List D} {bs : List Int}, RpAll W G vs ds → intsD ds = some bs → vs = bs.map V.int
  | _, _, _, .nil, e => by cases e; rfl
  | _, .int b :: ds, _, .cons h t, e => by
    simp only [intsD, Option.map_eq_some_iff] at e
    obtain ⟨bs, h1, rfl⟩ := e
    cases h
    rw [List.map_cons, intsD_ok t h1]
def strsD : List D → Option (List Str)
  | [] => some []
  | .str i :: ds => (strsD ds).map (i :: ·)
  | _ :: _ => none
theorem strsD_ok {G : Hp} : ∀ {vs : List V} {ds : List D} {bs : List Str}, RpAll W G vs ds → strsD ds = some bs → vs = bs.map V.str
  | _, _, _, .nil, e => by cases e; rfl
  | _, .str b :: ds, _, .cons h t, e => by
    simp only [strsD, Option.map_eq_some_iff] at e
    obtain ⟨bs, h1, rfl⟩ := e
    cases h
    rw [List.map_cons, strsD_ok t h1]
def sumD : List D → Option RV
  | [.lst ds] => (intsD ds).map fun ns => .dat (.int ns.sum)
  | _ => none
theorem callD_sum : CallD W (rSum W.K) sumD := by
  intro xs ds G H Q z s vs hf k
  unfold sumD at hf
  split at hf
  · cases vs with
    | cons v t =>
      cases t
      obtain ⟨a, ys, rfl, ha, ra⟩ := v.lst s
      simp only [Option.map_eq_some_iff] at hf
      obtain ⟨ns, h1, rfl⟩ := hf
      exact ⟨a, ns, rfl, by rw [← intsD_ok ra h1]; exact SqL.of ha, k _ _ _ (NR.dat s (.int _))⟩
  · cases hf
def tyNm : D → Option String
  | .non => some "NoneType" | .bl _ => some "bool" | .int _ => some "int" | .str _ => some "str" | .lst _ => some "list" | .tup _ => some "tuple" | .dic _ => some "dict" | _ => none
def typs : List D → Option (List String)
  | [] => some []
  | .typ i :: ds => (typs ds).map (i :: ·)
  | _ :: _ => none
def kitBs (t : String) : List String → Option Bool
  | [] => some false
  | c :: cs => match kitB t c with
    | some true => some true
    | some false => kitBs t cs
    | none => none
theorem kitBs_ok {K : PySem.W.Frag} {t : String} : ∀ {cs : List String} {b : Bool}, kitBs t cs = some b → PySem.W.kitAny K (.type t) (cs.map Value.type) = some b
  | [], b, h => by cases h; rfl
  | c :: cs, b, h => by
    unfold kitBs at h
    rw [List.map_cons]
    split at h
    · rename_i e
      cases h
      exact kitAny_cons (kit_ty e) (fun z => nomatch z) fun _ => rfl
    · rename_i e
      exact kitAny_cons (kit_ty e) (fun _ => kitBs_ok h) fun z => nomatch z
    · cases h
theorem typs_ok {G : Hp} : ∀ {vs : List V} {ds : List D} {cs : List String}, RpAll W G vs ds → typs ds = some cs → Paired ClsV vs (cs.map Value.type)
  | _, _, _, .nil, e => by cases e; exact .nil
  | _, .typ c :: ds, _, .cons h t, e => by
    simp only [typs, Option.map_eq_some_iff] at e
    obtain ⟨cs, h1, rfl⟩ := e
    cases h
    exact .cons (.ty c) (typs_ok t h1)
theorem tyNm_ok {G H : Hp} {x : V} {d : D} {t : String} (s : Same G H) (vx : Vw W G H x d) (h : tyNm d = some t) : TyX W.K H x (.type t) := by
  cases d <;> simp only [tyNm] at h <;> cases h
  · cases vx.non; exact .base .non
  · cases vx.bl; exact .base (.bl _)
  · cases vx.int; exact .base (.int _)
  · cases vx.str; exact .base (.str _)
  · obtain ⟨a, ys, rfl, ha, ra⟩ := vx.lst s; exact .base (.lst ha)
  · obtain ⟨a, ys, rfl, ha, ra⟩ := vx.tup s; exact .base (.tup ha)
  · cases vx with
    | rp r => cases r with | dic e r => exact .base (.dK (s _ _ e))
    | ob ev h q => subst ev; cases q with | dic r => exact .base (.dK h)
def isiD : List D → Option RV
  | [d, .typ c] => (tyNm d).bind fun t => (kitB t c).map fun b => .dat (.bl b)
  | [d, .tup cs] => (tyNm d).bind fun t => (typs cs).bind fun cs => (kitBs t cs).map fun b => .dat (.bl b)
  | _ => none
def rIsiA (K : PySem.W.Frag) : List V → Hp → VK → Prop := fun xs H Q => rIsi K xs H Q ∨ rIsiT K xs H Q
theorem CallR.or {f : Value} {r r' : List V → Hp → VK → Prop} (h : CallR X f r) (h' : CallR X f r') : CallR X f (fun xs H Q => r xs H Q ∨ r' xs H Q) :=
  fun pins s σ H vs us Q I rr q => q.elim (h pins s σ H vs us Q I rr) (h' pins s σ H vs us Q I rr)
theorem cr_isi : CallR X (.builtin "isinstance") (rIsiA X.K) := CallR.or call_isi call_isiT
theorem callD_isi : CallD W (rIsiA W.K) isiD := by
  intro xs ds G H Q z s vs hf k
  unfold isiD at hf
  split at hf
  · simp only [Option.bind_eq_some_iff, Option.map_eq_some_iff] at hf
    obtain ⟨t, h1, b, h2, rfl⟩ := hf
    cases vs with
    | cons v w => cases w with
      | cons v' w =>
        cases w
        cases v'.typ
        exact .inl ⟨_, _, _, _, b, rfl, .ty _, tyNm_ok s v h1, kit_ty h2, k _ _ _ (NR.dat s (.bl _))⟩
  · simp only [Option.bind_eq_some_iff, Option.map_eq_some_iff] at hf
    obtain ⟨t, h1, cs, h3, b, h2, rfl⟩ := hf
    cases vs with
    | cons v w => cases w with
      | cons v' w =>
        cases w
        obtain ⟨a, ys, rfl, ha, ra⟩ := v'.tup s
        exact .inr ⟨_, a, ys, _, _, b, rfl, ha, typs_ok ra h3, tyNm_ok s v h1, kitBs_ok h2, k _ _ _ (NR.dat s (.bl _))⟩
  · cases hf

/-! ### a < b < c -/
def pChain (f f' : D → D → Option RV) (P P' P'' : PF) : PF := fun env => do
  let (ra, e1) ← P env
  let (rb, e2) ← P' e1
  let x ← ra.cont e2
  match rb with
  | .dat y => match f x y with
    | some (.dat (.bl true)) => do
      let (rc, e3) ← P'' e2
      let w ← rc.cont e3
      let z ← f' y w
      some (z, e3)
    | some (.dat (.bl false)) => some (.dat (.bl false), e2)
    | _ => none
  | _ => none
theorem chain_tE {r r' : R2} {f f' : D → D → Option RV} (o : OpD W r f) (o' : OpD W r' f') {P P' P'' : PF} {σ : L2.St} {H : Hp} {Q : VK} (h : tE W (pChain f f' P P' P'') σ H Q) : tChain r r' (tE W P) (tE W P') (tE W P'') σ H Q := by
  obtain ⟨env, G, rv, env', rl, p, k⟩ := h
  unfold pChain at p
  simp only [Option.bind_eq_bind, Option.bind_eq_some_iff, Prod.exists] at p
  obtain ⟨ra, e1, h1, rb, e2, h2, x, h3, p⟩ := p
  refine tE_two rl h1 h2 fun u v H1 G1 s o1 o2 => ?_
  split at p
  · rename_i y
    have vy : Vw W G1 H1 v y := .rp o2
    split at p
    · rename_i hz
      simp only [Option.bind_eq_some_iff, Prod.exists, Option.some.injEq, Prod.mk.injEq] at p
      obtain ⟨rc, e3, h4, w, h5, z, h6, rfl, rfl⟩ := p
      refine o u v x y G1 H1 _ _ s.rel.sub (o1.vw s.rel h3) vy hz fun t H2 G2 n => ?_
      have q : Rp W G2 t (.bl true) := n.ok
      cases q
      have s2 := s.trans (n.step s.rel)
      refine ⟨true, rfl, ?_⟩
      rw [if_pos rfl]
      refine tE_one s2.rel h4 fun c H3 G3 s3 o3 => ?_
      refine o' v c y w G3 H3 Q z s3.rel.sub (.rp (Rp.mono (n.ext.same.trans s3.ext.same) o2)) (o3.vw s3.rel h5) h6 fun b H4 G4 n4 => ?_
      exact k b H4 G4 ((s2.trans s3).trans (n4.step s3.rel)) (n4.rv fun b hb => s2.ext.dom b (s3.ext.dom b hb))
    · rename_i hz
      cases p
      refine o u v x y G1 H1 _ _ s.rel.sub (o1.vw s.rel h3) vy hz fun t H2 G2 n => ?_
      have q : Rp W G2 t (.bl false) := n.ok
      cases q
      refine ⟨false, rfl, ?_⟩
      rw [if_neg (by simp)]
      exact k _ H2 G2 (s.trans (n.step s.rel)) (.bl false)
    · cases p
  · cases p
theorem lastMarks2 {op op' : CmpOp} {b c : Expr} (h : notSet c = true) : lastMarks [op, op'] [b, c] = false := by
  show behindInMarks op' c = false
  exact nomarks h
theorem pd_chain {op op' : CmpOp} {r r' : R2} {f f' : D → D → Option RV} {a b c : Expr} {P P' P'' : PF} {pos : Pos} (ho : OpR X (compareOp op) r) (o : OpD W r f) (ho' : OpR X (compareOp op') r') (o' : OpD W r' f') (ha : PD X W P a) (hb : PD X W P' b) (hc : PD X W P'' c) (hn : notSet c = true) :
    PD X W (pChain f f' P P' P'') (.Compare a [op, op'] [b, c] pos) :=
  PE.weak (pe_chain ho ho' ha hb hc (lastMarks2 hn)) fun _ _ _ h => chain_tE o o' h
theorem ptd_chain {op op' : CmpOp} {r r' : R2} {f f' : D → D → Option RV} {a b c : Expr} {P P' P'' : PF} {pos : Pos} (ho : OpR X (compareOp op) r) (o : OpD W r f) (ho' : OpR X (compareOp op') r') (o' : OpD W r' f') (ha : PD X W P a) (hb : PD X W P' b) (hc : PD X W P'' c) (hn : notSet c = true) :
    PTD X W (bVal (pChain f f' P P' P'')) (.Compare a [op, op'] [b, c] pos) :=
  PT.weak (pt_chain ho ho' ha hb hc (lastMarks2 hn)) fun σ H Q h => chain_tE o o' (test_tE h)

/-! ### a text's method with one argument -/
def pM1 (f : Str → D → Option RV) (P P' : PF) : PF := fun env => do
  let (ra, e1) ← P env
  match ra with
  | .dat (.str a) => do
    let (rb, e2) ← P' e1
    let y ← rb.cont e2
    let z ← f a y
    some (z, e2)
  | _ => none
def M1D (W : Pw) (r : V → List V → Hp → VK → Prop) (f : Str → D → Option RV) : Prop := ∀ (a : Str) (y : V) (e : D) (G H : Hp) (Q : VK) (z : RV), Same G H → Vw W G H y e → f a e = some z → (∀ v H' G', NR W H G v z H' G' → Q v H') → r (.str a) [y] H Q
theorem m1_tE {r : V → List V → Hp → VK → Prop} {f : Str → D → Option RV} (o : M1D W r f) {P P' : PF} {σ : L2.St} {H : Hp} {Q : VK} (h : tE W (pM1 f P P') σ H Q) : tM1 r (tE W P) (tE W P') σ H Q := by
  obtain ⟨env, G, rv, env', rl, p, k⟩ := h
  unfold pM1 at p
  simp only [Option.bind_eq_bind, Option.bind_eq_some_iff, Prod.exists] at p
  obtain ⟨ra, e1, h1, p⟩ := p
  refine tE_one rl h1 fun u H1 G1 s o1 => ?_
  split at p
  · rename_i a
    simp only [Option.bind_eq_some_iff, Prod.exists, Option.some.injEq, Prod.mk.injEq] at p
    obtain ⟨rb, e2, h2, y, h3, z, h4, rfl, rfl⟩ := p
    cases o1
    refine ⟨⟨a, rfl⟩, tE_one s.rel h2 fun v H2 G2 s2 o2 => ?_⟩
    refine o a v y G2 H2 Q z s2.rel.sub (o2.vw s2.rel h3) h4 fun b H3 G3 n => ?_
    exact k b H3 G3 ((s.trans s2).trans (n.step s2.rel)) (n.rv fun b hb => s.ext.dom b (s2.ext.dom b hb))
  · cases p
def joinD (a : Str) : D → Option RV
  | .lst ds => (strsD ds).bind fun ys => if (ys.map (·.length)).sum + ys.length * a.length ≤ 16777216 then some (.dat (.str (Txt.join a ys))) else none
  | .tup ds => (strsD ds).bind fun ys => if (ys.map (·.length)).sum + ys.length * a.length ≤ 16777216 then some (.dat (.str (Txt.join a ys))) else none
  | _ => none
def rJoin (K : PySem.W.Frag) : V → List V → Hp → VK → Prop := fun x xs H Q => ∃ a p, ∃ ys : List Str, x = .str a ∧ xs = [.ref p] ∧ (SqL K H p (ys.map V.str) ∨ SqT K H p (ys.map V.str)) ∧ (ys.map (·.length)).sum + ys.length * a.length ≤ 16777216 ∧ Q (.str (Txt.join a ys)) H
theorem m1d_join : M1D W (rJoin W.K) joinD := by
  intro a y e G H Q z s vy hf k
  unfold joinD at hf
  split at hf
  · simp only [Option.bind_eq_some_iff] at hf
    obtain ⟨ys, h1, h2⟩ := hf
    split at h2
    · rename_i hz
      cases h2
      obtain ⟨p, vs, rfl, hp, rp⟩ := vy.lst s
      exact ⟨a, p, ys, rfl, rfl, .inl (by rw [← strsD_ok rp h1]; exact SqL.of hp), hz, k _ _ _ (NR.dat s (.str _))⟩
    · cases h2
  · simp only [Option.bind_eq_some_iff] at hf
    obtain ⟨ys, h1, h2⟩ := hf
    split at h2
    · rename_i hz
      cases h2
      obtain ⟨p, vs, rfl, hp, rp⟩ := vy.tup s
      exact ⟨a, p, ys, rfl, rfl, .inr (by rw [← strsD_ok rp h1]; exact SqT.of hp), hz, k _ _ _ (NR.dat s (.str _))⟩
    · cases h2
  · cases hf
/-- a text that is written there -/
def isStrC : Expr → Bool
  | .Constant (.str _) _ _ => true
  | _ => false
theorem base_str {o : Expr} {name : Str} {env : Env} {m : Sem Value} (h : isStrC o = true) : attributeBase o name env m = m := by
  cases o <;> first | (cases h; done) | rfl
theorem pd_join {o e : Expr} {P P' : PF} {apos pos : Pos} (hK : X.K = W.K) (ho : PD X W P o) (he : PD X W P' e) (hb : isStrC o = true) (hs : notStar e = true) (hl : (apos.endLine == pos.line) = true) : PD X W (pM1 joinD P P') (.Call (.Attribute o "join" apos) [e] [] pos) := by
  refine PE.weak (pe_join ho he (by rw [star_plain hs]; rfl) (base_str hb) hl) fun σ H Q h => ?_
  rw [hK]
  exact m1_tE m1d_join h

/-! ### list(xs), tuple(xs) -/
def listD : List D → Option RV
  | [.lst ds] => some (.own (.lst ds))
  | [.tup ds] => some (.own (.lst ds))
  | _ => none
def rListOf (K : PySem.W.Frag) : List V → Hp → VK → Prop := fun xs H Q => ∃ p ys, xs = [.ref p] ∧ (SqL K H p ys ∨ SqT K H p ys) ∧ ∀ l, H l = none → Q (.ref l) (upd H l (.lst ys))
theorem callD_list : CallD W (rListOf W.K) listD := by
  intro xs ds G H Q z s vs hf k
  unfold listD at hf
  split at hf
  · cases vs with | cons v t => cases t; obtain ⟨a, ys, rfl, ha, ra⟩ := v.lst s; cases hf; exact ⟨a, ys, rfl, .inl (SqL.of ha), fun l n => k _ _ _ (NR.own s n (.lst ra))⟩
  · cases vs with | cons v t => cases t; obtain ⟨a, ys, rfl, ha, ra⟩ := v.tup s; cases hf; exact ⟨a, ys, rfl, .inr (SqT.of ha), fun l n => k _ _ _ (NR.own s n (.lst ra))⟩
  · cases hf
def tupleD : List D → Option RV
  | [.lst ds] => some (.dat (.tup ds))
  | _ => none
def rTupOf (K : PySem.W.Frag) : List V → Hp → VK → Prop := fun xs H Q => ∃ p ys, xs = [.ref p] ∧ ((SqL K H p ys ∧ ∀ l, H l = none → Q (.ref l) (upd H l (.tup ys))) ∨ (SqT K H p ys ∧ Q (.ref p) H))
theorem callD_tuple : CallD W (rTupOf W.K) tupleD := by
  intro xs ds G H Q z s vs hf k
  unfold tupleD at hf
  split at hf
  · cases vs with | cons v t => cases t; obtain ⟨a, ys, rfl, ha, ra⟩ := v.lst s; cases hf; exact ⟨a, ys, rfl, .inl ⟨SqL.of ha, fun l n => k _ _ _ (NR.frz s n (.tup upd_same (RpAll.mono (same_upd (s.free n)) ra)))⟩⟩
  · cases hf

/-! ### in, of a dict with numbers and texts as keys -/
def keyOf : D → Option Key
  | .int i => some (.inl i)
  | .str x => some (.inr x)
  | _ => none
def hasK (kd : List (Key × D)) (k : Key) : Bool := kd.any fun kv => decide (kv.1 = k)
theorem hasK_ok {G : Hp} {k : Key} : ∀ {kv : List (Key × V)} {kd : List (Key × D)}, RpK W G kv kd → (kv.any fun p => decide (p.1 = k)) = hasK kd k
  | _, _, .nil => rfl
  | _, _, .cons _ r => by
    unfold hasK
    rw [List.any_cons, List.any_cons, hasK_ok r]
    rfl
theorem keyOf_ok {G H : Hp} {x : V} {d : D} {k : Key} (vx : Vw W G H x d) (h : keyOf d = some k) : x = kV k := by
  cases d <;> simp only [keyOf, reduceCtorEq, Option.some.injEq] at h
  · cases vx.int; subst h; rfl
  · cases vx.str; subst h; rfl
def in2B (neg : Bool) : D → D → Option RV
  | x, .dic kd => (keyOf x).map fun k => .dat (.bl (if neg then !hasK kd k else hasK kd k))
  | x, y => inB neg x y
def rInDc (neg : Bool) : R2 := fun x y H Q => ∃ a o, y = .ref a ∧ DGet H a x o ∧ Q (.bl (if neg then !o.isSome else o.isSome)) H
def rIn2 (K : PySem.W.Frag) (neg : Bool) : R2 := fun x y H Q => rInA K neg x y H Q ∨ rInDc neg x y H Q
theorem op_inDc (hu : X.A.units + 1 < cLine) : OpR X (compareOp .In) (rInDc false) := by
  intro pins s σ H x y v u Q I rx ry h
  obtain ⟨a, o, rfl, g, q⟩ := h
  cases ry
  exact d_in hu I g rx fun s3 I3 => ⟨.bl o.isSome, H, I3, rfl, q⟩
theorem op_ninDc (hu : X.A.units + 1 < cLine) : OpR X (compareOp .NotIn) (rInDc true) := by
  intro pins s σ H x y v u Q I rx ry h
  obtain ⟨a, o, rfl, g, q⟩ := h
  cases ry
  exact d_notIn hu I g rx fun s3 I3 => ⟨.bl (!o.isSome), H, I3, rfl, q⟩
theorem opr_in2 (hu : X.A.units + 1 < cLine) : OpR X (compareOp .In) (rIn2 X.K false) := opr_in.or (op_inDc hu)
theorem opr_nin2 (hu : X.A.units + 1 < cLine) : OpR X (compareOp .NotIn) (rIn2 X.K true) := opr_nin.or (op_ninDc hu)
theorem opd_in2 {neg : Bool} : OpD W (rIn2 W.K neg) (in2B neg) := by
  intro x y d e G H Q z s vx vy hf k
  unfold in2B at hf
  split at hf
  · simp only [Option.map_eq_some_iff] at hf
    obtain ⟨ky, h1, rfl⟩ := hf
    obtain ⟨a, kv, rfl, ha, ra⟩ := vy.dic s
    have ex := keyOf_ok vx h1
    subst ex
    refine .inr ⟨a, valV kv ky, rfl, DGet.k ha, ?_⟩
    rw [← valV_any, hasK_ok ra]
    exact k _ _ _ (NR.dat s (.bl _))
  · exact .inl (opd_in x y d e G H Q z s vx vy hf k)
end
end Den
end

section
set_option Elab.async false
set_option linter.all false
set_option maxRecDepth 100000
set_option maxHeartbeats 2000000
/-! DenD3: sorted, by data of any kind. -/
namespace Den
open PySem L2 PySem.Spec PyProof.Rows PySem.W
def encD (d : D) : PyData := (toPy d).getD .none
def leD : D → D → Bool := dataLe false encD
def allAlike (ps : List PyData) : Bool := ps.all fun p => ps.all fun q => alike p q
def tupB : PyData → Bool
  | .tuple (_ :: _) => true
  | _ => false
def atomB : PyData → Bool
  | .int _ => true
  | .str _ => true
  | .bool _ => true
  | .list _ => true
  | _ => false
/-- what sorted takes: data that reads, alike, all rows or all others -/
def sortB (ds : List D) : Bool := match toPyAll ds with
  | some ps => decide (ds.length ≤ 16777216) && allAlike ps && (ps.all tupB || ps.all atomB) && ps.all fun p => decide (p.depth ≤ 60)
  | none => false
section
variable {X : Cx} {W : Pw}
theorem toPyAll_map : ∀ {ds : List D} {ps : List PyData}, toPyAll ds = some ps → ps = ds.map encD ∧ ∀ d ∈ ds, toPy d = some (encD d)
  | [], ps, h => by cases h; exact ⟨rfl, fun d hd => by cases hd⟩
  | d :: ds, ps, h => by
    simp only [toPyAll] at h
    split at h
    · rename_i p qs h1 h2
      cases h
      obtain ⟨e1, e2⟩ := toPyAll_map h2
      have e3 : encD d = p := by unfold encD; rw [h1]; rfl
      refine ⟨by rw [List.map_cons, e3, e1], fun e he => ?_⟩
      rcases List.mem_cons.mp he with rfl | he
      · rw [h1, e3]
      · exact e2 e he
    · cases h
theorem sortB_ok {ds : List D} (h : sortB ds = true) : ds.length ≤ 16777216 ∧ (∀ d ∈ ds, toPy d = some (encD d)) ∧ AllAlike (ds.map encD) ∧ Sortable (ds.map encD) ∧ ∀ d ∈ ds, (encD d).depth ≤ 60 := by
  unfold sortB at h
  split at h
  · rename_i ps hp
    obtain ⟨e1, e2⟩ := toPyAll_map hp
    subst e1
    simp only [Bool.and_eq_true, Bool.or_eq_true, List.all_eq_true, decide_eq_true_eq, allAlike] at h
    obtain ⟨⟨⟨h0, h1⟩, h2⟩, h3⟩ := h
    refine ⟨h0, e2, fun d hd d' hd' => h1 d hd d' hd', ?_, fun d hd => h3 _ (List.mem_map.mpr ⟨d, hd, rfl⟩)⟩
    rcases h2 with h2 | h2
    · refine .inl fun d hd => ?_
      have q := h2 d hd
      cases d <;> simp only [tupB, Bool.false_eq_true] at q
      rename_i xs
      cases xs with
      | nil => simp [tupB] at q
      | cons x r => exact ⟨x, r, rfl⟩
    · refine .inr fun d hd => ?_
      have q := h2 d hd
      cases d <;> simp [atomB] at q ⊢
  · cases h
/-- the values that stand for ds -/
theorem vals_split {G : Hp} : ∀ {us : List Value} {ds : List D}, EachIs (fun u d => ∃ x, RelV x u ∧ Rp W G x d) us ds → ∃ zs, Vals zs us ∧ RpAll W G zs ds
  | _, _, .nil => ⟨[], .nil, .nil⟩
  | _, _, .cons ⟨x, h1, h2⟩ t => by
    obtain ⟨zs, h3, h4⟩ := vals_split t
    exact ⟨x :: zs, .cons h1 h3, .cons h2 h4⟩
theorem each_join {G : Hp} {R : Value → D → Prop} (hR : ∀ u x d, RelV x u → Rp W G x d → R u d) : ∀ {us : List Value} {xs : List V} {ds : List D}, Vals xs us → RpAll W G xs ds → EachIs R us ds
  | _, _, _, .nil, .nil => .nil
  | _, _, _, .cons a r, .cons b t => .cons (hR _ _ _ a b) (each_join hR r t)
theorem each_mem {α β : Type} {R : α → β → Prop} : ∀ {as : List α} {bs : List β}, EachIs R as bs → EachIs (fun a b => R a b ∧ b ∈ bs) as bs
  | _, _, .nil => .nil
  | _, _, .cons h t => .cons ⟨h, List.mem_cons_self ..⟩ ((each_mem t).mono fun _ _ q => ⟨q.1, List.mem_cons_of_mem _ q.2⟩)
def rSortedW (W : Pw) : List V → Hp → VK → Prop := fun vs H Q => ∃ (a : Addr) (xs : List V) (ds : List D) (G : Hp), vs = [V.ref a] ∧ SqL W.K H a xs ∧ RpAll W G xs ds ∧ Same G H ∧ sortB ds = true ∧
  ∀ (zs : List V) (p : Addr), RpAll W G zs (ds.mergeSort leD) → H p = none → Q (.ref p) (upd H p (.lst zs))
theorem cr_sortedW (hK : X.K = W.K) (hu : X.A.units + 70 < cLine) : CallR X (.builtin "sorted") (rSortedW W) := by
  intro pins s σ H vs us Q I r h
  obtain ⟨a, xs, ds, G, rfl, hs, ra, sg, hb, q⟩ := h
  rw [← hK] at hs
  obtain ⟨its, rv, hl, hz⟩ := I.list hs
  obtain ⟨u, rfl, ru⟩ := vals1 r
  obtain rfl : u = Value.ref a := ru
  obtain ⟨h0, h1, h2, h3, h4⟩ := sortB_ok hb
  refine sorted_data (β := D) (enc := encD) (R := fun u d => ∃ x, RelV x u ∧ Rp W G x d) (bs := ds) hl.isList (each_join (fun u x d r1 r2 => ⟨x, r1, r2⟩) rv ra) ?_ h2 h3 (by rw [sizeLine_eq]; exact h0) (fun d hd => by have := h4 d hd; omega) fun out ho he => ?_
  · refine (each_mem (each_join (fun u x d r1 r2 => show (∃ x, RelV x u ∧ Rp W G x d) from ⟨x, r1, r2⟩) rv ra)).mono fun u d hh => ?_
    obtain ⟨⟨x, r1, r2⟩, hd⟩ := hh
    exact Dp.reads I _ x u (by rw [hK]; exact Dp.mono' sg (Rp.dp r2 (h1 d hd))) r1
  · obtain ⟨zs, z1, z2⟩ := vals_split he
    have hd : s.heap.objs.size ≤ s.heap.objs.size + 1 := Nat.le_succ _
    obtain ⟨n, hn⟩ := sortedAll_at s.heap its out.toArray
    refine ⟨.ref (s.heap.objs.size + 1), upd H _ (.lst zs), I.laid (t' := s.toks) (fun b o e => sortedAll_old e) hd ⟨?_, out, n, z1, hn⟩, rfl, q zs _ z2 (I.hok.fresh hd)⟩
    rw [z2.length, (List.mergeSort_perm ds (dataLe false encD)).length_eq, sizeLine_eq]
    exact h0
def sortedD : List D → Option RV
  | [.lst ds] => if sortB ds then some (.own (.lst (ds.mergeSort leD))) else none
  | _ => none
theorem callD_sorted : CallD W (rSortedW W) sortedD := by
  intro xs ds G H Q z s vs hf k
  unfold sortedD at hf
  split at hf
  · rename_i ds
    split at hf
    · rename_i hb
      cases hf
      cases vs with
      | cons v t =>
        cases t
        obtain ⟨a, ys, rfl, ha, ra⟩ := v.lst s
        exact ⟨a, ys, ds, G, rfl, SqL.of ha, ra, s, hb, fun zs p hz n => k _ _ _ (NR.own s n (.lst hz))⟩
    · cases hf
  · cases hf
end
end Den
end

section
set_option Elab.async false
set_option linter.all false
set_option maxRecDepth 100000
set_option maxHeartbeats 2000000
/-! DenE: statements, targets, walks, loops, comprehensions. -/
namespace Den
open PySem L2
section
variable {X : Cx} {W : Pw}

/-- what a statement ends in -/
inductive Out where
  | nx (env : Env') | rt (rv : RV) (env : Env') | bk (env : Env') | ct (env : Env')
/-- behind a statement: np says which parameters' own objects stay in their slots -/
structure StepS (W : Pw) (np : Nat) (σ : St) (env : Env') (H G : Hp) (σ' : St) (env' : Env') (H' G' : Hp) : Prop where
  rel : Rel W σ' env' H' G'
  ext : Ext H G H' G'
  keep : ∀ b o, H b = some o → ¬ IsOwn σ env b → H' b = some o
  own : ∀ b, IsOwn σ' env' b → H b = none ∨ IsOwn σ env b
  pin : ∀ (i : Nat) (d : D), i < np → env[i]? = some (.own d) → σ'[i]? = σ[i]? ∧ ∃ d', env'[i]? = some (.own d')
  len : env'.length = env.length
theorem StepS.refl {np : Nat} {σ : St} {env : Env'} {H G : Hp} (r : Rel W σ env H G) : StepS W np σ env H G σ env H G := ⟨r, Ext.refl _ _, fun _ _ h _ => h, fun _ h => .inr h, fun _ d _ h => ⟨rfl, d, h⟩, rfl⟩
theorem StepS.trans {np : Nat} {σ σ1 σ2 : St} {env e1 e2 : Env'} {H G H1 G1 H2 G2 : Hp} (a : StepS W np σ env H G σ1 e1 H1 G1) (b : StepS W np σ1 e1 H1 G1 σ2 e2 H2 G2) : StepS W np σ env H G σ2 e2 H2 G2 := by
  refine ⟨b.rel, a.ext.trans b.ext, fun c o h n => b.keep c o (a.keep c o h n) fun z => ?_, fun c h => ?_, fun i d hi h => ?_, b.len.trans a.len⟩
  · rcases a.own c z with q | q
    · rw [h] at q; cases q
    · exact n q
  · rcases b.own c h with q | q
    · exact .inl (a.ext.dom c q)
    · exact a.own c q
  · obtain ⟨h1, d', h2⟩ := a.pin i d hi h
    obtain ⟨h3, d'', h4⟩ := b.pin i d' hi h2
    exact ⟨h3.trans h1, d'', h4⟩
theorem Le.ownAt {a b : Env'} (h : Le a b) {i : Nat} {d : D} (e : a[i]? = some (.own d)) : ∀ s, b[i]? = some s → s = .und ∨ ∃ d', s = .own d' := fun s hs => by
  have q := h.at_ i _ s e hs
  cases s with
  | und => exact .inl rfl
  | own d' => exact .inr ⟨d', rfl⟩
  | dat d' => simp [LeS] at q
  | bor d' => simp [LeS] at q
/-- an expression's step as a statement's, where no own object was forgotten -/
def OwnKept (env env' : Env') : Prop := ∀ (i : Nat) (d : D), env[i]? = some (.own d) → ∃ d', env'[i]? = some (.own d')
theorem Step.toS {np : Nat} {σ : St} {env env' : Env'} {H G H' G' : Hp} (s : Step W σ env H G env' H' G') (k : ∀ (i : Nat) (d : D), i < np → env[i]? = some (.own d) → ∃ d', env'[i]? = some (.own d')) : StepS W np σ env H G σ env' H' G' :=
  ⟨s.rel, s.ext, s.keep, fun b h => .inr (h.le s.le), fun i d hi h => ⟨rfl, k i d hi h⟩, s.le.len.symm⟩

/-! ### a slot is written -/
/-- slot i is a parameter with an own object -/
def pinned (np : Nat) (env : Env') (i : Nat) : Bool := decide (i < np) && (match env[i]? with
  | some (.own _) => true
  | _ => false)
theorem SlOk.mono {H G H' G' : Hp} {x : Option (Option V)} {s : SV} (h : SlOk W G H x s) (sg : Same G G') (kp : ∀ b o, x = some (some (.ref b)) → s.isObj = true → H b = some o → H' b = some o) (gn : ∀ b, x = some (some (.ref b)) → s.isOwn = true → G b = none → H b ≠ none → G' b = none) : SlOk W G' H' x s := by
  cases s with
  | und => trivial
  | dat d => obtain ⟨v, h1, h2⟩ := h; exact ⟨v, h1, Rp.mono sg h2⟩
  | own d => obtain ⟨a, o, h1, h2, h3, h4⟩ := h; exact ⟨a, o, h1, kp a o h1 rfl h2, gn a h1 rfl h3 (by rw [h2]; simp), h4.mono sg⟩
  | bor d => obtain ⟨a, o, h1, h2, h4⟩ := h; exact ⟨a, o, h1, kp a o h1 rfl h2, h4.mono sg⟩
/-- frozen data into a slot -/
theorem Rel.setDat {σ : St} {env : Env'} {H G : Hp} {i : Nat} {v : V} {d : D} (r : Rel W σ env H G) (h : Rp W G v d) : Rel W (σ.set i (some v)) (env.set i (.dat d)) H G := by
  refine ⟨by simp [r.len], r.sub, fun j s hs => ?_, fun j k d' s a h1 h2 h3 h4 h5 => ?_⟩
  · by_cases e : j = i
    · subst e
      have hj : j < env.length := by
        have := (List.getElem?_eq_some_iff.mp hs).1
        simpa using this
      rw [List.getElem?_set_self hj] at hs
      cases hs
      exact ⟨v, by rw [List.getElem?_set_self (by rw [r.len]; exact hj)], h⟩
    · rw [List.getElem?_set_ne (Ne.symm e)] at hs ⊢
      exact r.slot j s hs
  · have ej : j ≠ i := fun e => by
      subst e
      have hj : j < env.length := by
        have := (List.getElem?_eq_some_iff.mp h1).1
        simpa using this
      rw [List.getElem?_set_self hj] at h1
      cases h1
    have ek : k ≠ i := fun e => by
      subst e
      have hk : k < env.length := by
        have := (List.getElem?_eq_some_iff.mp h2).1
        simpa using this
      rw [List.getElem?_set_self hk] at h2
      cases h2
      cases h3
    rw [List.getElem?_set_ne (Ne.symm ej)] at h1 h4
    rw [List.getElem?_set_ne (Ne.symm ek)] at h2 h5
    exact r.dist j k d' s a h1 h2 h3 h4 h5
/-- a new own object into a slot -/
theorem Rel.setOwn {σ : St} {env : Env'} {H G : Hp} {i : Nat} {a : Addr} {o : HO} {d : D} (r : Rel W σ env H G) (h : H a = some o) (g : G a = none) (ob : Ob W G o d)
    (nw : ∀ (j : Nat) (s : SV), env[j]? = some s → s.isObj = true → σ[j]? ≠ some (some (.ref a))) : Rel W (σ.set i (some (.ref a))) (env.set i (.own d)) H G := by
  refine ⟨by simp [r.len], r.sub, fun j s hs => ?_, fun j k d' s b h1 h2 h3 h4 h5 => ?_⟩
  · by_cases e : j = i
    · subst e
      have hj : j < env.length := by
        have := (List.getElem?_eq_some_iff.mp hs).1
        simpa using this
      rw [List.getElem?_set_self hj] at hs
      cases hs
      exact ⟨a, o, by rw [List.getElem?_set_self (by rw [r.len]; exact hj)], h, g, ob⟩
    · rw [List.getElem?_set_ne (Ne.symm e)] at hs ⊢
      exact r.slot j s hs
  · have hj : j < env.length := by
      have := (List.getElem?_eq_some_iff.mp h1).1
      simpa using this
    have hk : k < env.length := by
      have := (List.getElem?_eq_some_iff.mp h2).1
      simpa using this
    by_cases ej : j = i
    · by_cases ek : k = i
      · rw [ej, ek]
      · subst ej
        rw [List.getElem?_set_self (by rw [r.len]; exact hj)] at h4
        cases h4
        rw [List.getElem?_set_ne (Ne.symm ek)] at h2 h5
        exact (nw k s h2 h3 h5).elim
    · rw [List.getElem?_set_ne (Ne.symm ej)] at h1 h4
      by_cases ek : k = i
      · subst ek
        rw [List.getElem?_set_self (by rw [r.len]; exact hk)] at h5
        cases h5
        exact (nw j _ h1 rfl h4).elim
      · rw [List.getElem?_set_ne (Ne.symm ek)] at h2 h5
        exact r.dist j k d' s b h1 h2 h3 h4 h5
theorem isOwn_set {σ : St} {env : Env'} {i : Nat} {x : V} {s : SV} {b : Addr} (h : IsOwn (σ.set i (some x)) (env.set i s) b) : (x = .ref b ∧ s.isOwn = true) ∨ IsOwn σ env b := by
  obtain ⟨j, d, h1, h2⟩ := h
  by_cases e : j = i
  · subst e
    have hj : j < env.length := by
      have := (List.getElem?_eq_some_iff.mp h1).1
      simpa using this
    have hj2 : j < σ.length := by
      have := (List.getElem?_eq_some_iff.mp h2).1
      simpa using this
    rw [List.getElem?_set_self hj] at h1
    rw [List.getElem?_set_self hj2] at h2
    cases h1; cases h2
    exact .inl ⟨rfl, rfl⟩
  · rw [List.getElem?_set_ne (Ne.symm e)] at h1 h2
    exact .inr ⟨j, d, h1, h2⟩
theorem pin_set {np i : Nat} {σ : St} {env : Env'} {x : Option V} {s : SV} (hp : pinned np env i = false) : ∀ (j : Nat) (d : D), j < np → env[j]? = some (.own d) → (σ.set i x)[j]? = σ[j]? ∧ ∃ d', (env.set i s)[j]? = some (.own d') := fun j d hj h => by
  have ne : i ≠ j := fun e => by
    subst e
    unfold pinned at hp
    rw [h] at hp
    simp [hj] at hp
  rw [List.getElem?_set_ne ne, List.getElem?_set_ne ne]
  exact ⟨rfl, d, h⟩
theorem StepS.setDat {np : Nat} {σ : St} {env : Env'} {H G : Hp} {i : Nat} {v : V} {d : D} (r : Rel W σ env H G) (h : Rp W G v d) (hp : pinned np env i = false) : StepS W np σ env H G (σ.set i (some v)) (env.set i (.dat d)) H G := by
  refine ⟨r.setDat h, Ext.refl _ _, fun _ _ q _ => q, fun b q => ?_, pin_set hp, by simp⟩
  rcases isOwn_set q with ⟨_, q⟩ | q
  · cases q
  · exact .inr q

/-! ### targets: what is stored is frozen data -/
abbrev GF := D → Env' → Option Env'
def tG (W : Pw) (np : Nat) (P : GF) : TG := fun v σ H Q => ∃ env G d env', Rel W σ env H G ∧ Rp W G v d ∧ P d env = some env' ∧ ∀ σ' H' G', StepS W np σ env H G σ' env' H' G' → Q σ' H'
abbrev PGD (X : Cx) (W : Pw) (np : Nat) (P : GF) (e : Expr) : Prop := PG X e (tG W np P)
theorem PG.weak {X : Cx} {e : Expr} {t t' : TG} (h : PG X e t) (k : ∀ v σ H Q, t' v σ H Q → t v σ H Q) : PG X e t' := ⟨fun pins s σ H v u Q I r q => h.run pins s σ H v u Q I r (k v σ H Q q)⟩
def gSet (np i : Nat) : GF := fun d env => if pinned np env i then none else some (env.set i (.dat d))
theorem pgd_name {np i : Nat} {e : Expr} (h : PG X e (gName i)) : PGD X W np (gSet np i) e := PG.weak h fun v σ H Q ⟨env, G, d, env', r, q, p, k⟩ => by
  unfold gSet at p
  split at p
  · cases p
  · rename_i hp
    cases p
    exact k _ _ _ (StepS.setDat r q (by simpa using hp))
def tGs (W : Pw) (np : Nat) (P : List D → Env' → Option Env') : TGs := fun vs σ H Q => ∃ env G ds env', Rel W σ env H G ∧ RpAll W G vs ds ∧ P ds env = some env' ∧ ∀ σ' H' G', StepS W np σ env H G σ' env' H' G' → Q σ' H'
abbrev PGsD (X : Cx) (W : Pw) (np : Nat) (P : List D → Env' → Option Env') (es : List Expr) : Prop := PGs X es (tGs W np P)
theorem PGs.weak {X : Cx} {e : List Expr} {t t' : TGs} (h : PGs X e t) (k : ∀ v σ H Q, t' v σ H Q → t v σ H Q) : PGs X e t' := ⟨fun pins s σ H v u Q I r q => h.run pins s σ H v u Q I r (k v σ H Q q)⟩
def gsNil : List D → Env' → Option Env' := fun ds env => match ds with
  | [] => some env
  | _ => none
def gsCons (P : GF) (P' : List D → Env' → Option Env') : List D → Env' → Option Env' := fun ds env => match ds with
  | [] => none
  | d :: ds => (P d env).bind (P' ds)
theorem pgsd_nil {np : Nat} : PGsD X W np gsNil [] := PGs.weak pgs_nil fun v σ H Q ⟨env, G, ds, env', r, q, p, k⟩ => by
  cases q with
  | nil => cases p; exact ⟨rfl, k _ _ _ (StepS.refl r)⟩
  | cons _ _ => cases p
theorem pgsd_cons {np : Nat} {e : Expr} {es : List Expr} {g : TG} {gs : TGs} {P : GF} {P' : List D → Env' → Option Env'} (hc : PGs X (e :: es) (gCons (tG W np P) (tGs W np P'))) : PGsD X W np (gsCons P P') (e :: es) := PGs.weak hc fun v σ H Q ⟨env, G, ds, env', r, q, p, k⟩ => by
  cases q with
  | nil => cases p
  | cons h t =>
    simp only [gsCons, Option.bind_eq_some_iff] at p
    obtain ⟨e1, h1, h2⟩ := p
    exact ⟨_, _, rfl, env, G, _, e1, r, h, h1, fun σ1 H1 G1 s1 => ⟨e1, G1, _, env', s1.rel, RpAll.mono s1.ext.same t, h2, fun σ2 H2 G2 s2 => k _ _ _ (s1.trans s2)⟩⟩
/-- a tuple is taken apart -/
def gTupF (n : Nat) (P : List D → Env' → Option Env') : GF := fun d env => match d with
  | .tup ds => if ds.length = n then P ds env else none
  | _ => none
end
end Den
end

section
set_option Elab.async false
set_option linter.all false
set_option maxRecDepth 100000
set_option maxHeartbeats 2000000
/-! DenF: statements. -/
namespace Den
open PySem L2
section
variable {X : Cx} {W : Pw}

abbrev SF := Env' → Option Out
/-- a function's entry -/
structure Entry where
  np : Nat
  σ : St
  env : Env'
  H : Hp
  G : Hp
abbrev Entry.To (W : Pw) (E : Entry) (σ' : St) (env' : Env') (H' G' : Hp) : Prop := StepS W E.np E.σ E.env E.H E.G σ' env' H' G'
/-- what is wanted behind a statement, by where it ends; G: what is frozen ahead of it -/
def Wish (W : Pw) (E : Entry) (G : Hp) (D : Ends) : Out → Prop
  | .nx env' => ∀ σ' H' G', E.To W σ' env' H' G' → Same G G' → D.nx σ' H'
  | .bk env' => ∀ σ' H' G', E.To W σ' env' H' G' → Same G G' → D.bk σ' H'
  | .ct env' => ∀ σ' H' G', E.To W σ' env' H' G' → Same G G' → D.ct σ' H'
  | .rt rv env' => ∀ v σ' H' G', E.To W σ' env' H' G' → Same G G' → RvOk W σ' E.H H' G' v rv → D.rt v H'
theorem Wish.mono {W : Pw} {E : Entry} {G G1 : Hp} {D : Ends} {o : Out} (k : Wish W E G D o) (s : Same G G1) : Wish W E G1 D o := by
  cases o with
  | nx e => exact fun σ' H' G' t z => k σ' H' G' t (s.trans z)
  | bk e => exact fun σ' H' G' t z => k σ' H' G' t (s.trans z)
  | ct e => exact fun σ' H' G' t z => k σ' H' G' t (s.trans z)
  | rt rv e => exact fun v σ' H' G' t z q => k v σ' H' G' t (s.trans z) q
def tS (W : Pw) (E : Entry) (P : SF) : TS := fun D σ H => ∃ env G out, E.To W σ env H G ∧ P env = some out ∧ Wish W E G D out
abbrev PSD (X : Cx) (W : Pw) (E : Entry) (P : SF) (st : Stmt) : Prop := PS X st (tS W E P)
abbrev PSsD (X : Cx) (W : Pw) (E : Entry) (P : SF) (st : List Stmt) : Prop := PSs X st (tS W E P)
def sNil : SF := fun env => some (.nx env)
def sSeq (P P' : SF) : SF := fun env => (P env).bind fun o => match o with
  | .nx e1 => P' e1
  | o => some o
theorem pssd_nil {E : Entry} : PSsD X W E sNil [] := PSs.weak pss_nil fun D σ H ⟨env, G, o, r, p, k⟩ => by
  cases p
  exact k σ H G r (Same.refl _)
theorem seq_tS {E : Entry} {P P' : SF} {D : Ends} {σ : St} {H : Hp} (h : tS W E (sSeq P P') D σ H) : tSeq (tS W E P) (tS W E P') D σ H := by
  obtain ⟨env, G, o, r, p, k⟩ := h
  unfold sSeq at p
  simp only [Option.bind_eq_some_iff] at p
  obtain ⟨o1, h1, p⟩ := p
  refine ⟨env, G, o1, r, h1, ?_⟩
  cases o1 with
  | nx e1 => exact fun σ1 H1 G1 s z => ⟨e1, G1, o, s, p, k.mono z⟩
  | bk e1 => cases p; exact k
  | ct e1 => cases p; exact k
  | rt rv e1 => cases p; exact k
theorem pssd_cons {E : Entry} {st : Stmt} {rest : List Stmt} {P P' : SF} (h : PSD X W E P st) (h' : PSsD X W E P' rest) : PSsD X W E (sSeq P P') (st :: rest) := PSs.weak (pss_cons h h') fun _ _ _ q => seq_tS q

/-! ### name = e -/
/-- mu: the name is changed in place somewhere -/
def sSet (np i : Nat) (mu : Bool) (P : PF) : SF := fun env => do
  let (rv, e1) ← P env
  if (List.range np).all (fun j => match env[j]?, e1[j]? with
    | some (.own _), some (.own _) => true
    | some (.own _), _ => false
    | _, _ => true) && !pinned np e1 i then
    match rv with
    | .dat d => some (.nx (e1.set i (.dat d)))
    | .own d => some (.nx (e1.set i (if mu then .own d else .dat d)))
    | .slot _ => none
  else none
def ownB (np : Nat) (env e1 : Env') : Bool := (List.range np).all (fun j => match env[j]?, e1[j]? with
    | some (.own _), some (.own _) => true
    | some (.own _), _ => false
    | _, _ => true)
theorem ownB_ok {np : Nat} {env e1 : Env'} (h : ownB np env e1 = true) : ∀ (i : Nat) (d : D), i < np → env[i]? = some (.own d) → ∃ d', e1[i]? = some (.own d') := fun i d hi e => by
  unfold ownB at h
  rw [List.all_eq_true] at h
  have q := h i (List.mem_range.mpr hi)
  rw [e] at q
  cases he : e1[i]? with
  | none => rw [he] at q; cases q
  | some s =>
    rw [he] at q
    cases s with
    | own d' => exact ⟨d', rfl⟩
    | _ => cases q
theorem StepS.setOwn {np : Nat} {σ : St} {env : Env'} {H G : Hp} {i : Nat} {a : Addr} {o : HO} {d : D} (r : Rel W σ env H G) (h : H a = some o) (g : G a = none) (ob : Ob W G o d)
    (nw : ∀ (j : Nat) (s : SV), env[j]? = some s → s.isObj = true → σ[j]? ≠ some (some (.ref a))) (hp : pinned np env i = false) {σ0 : St} {env0 : Env'} {H0 G0 : Hp} (h0 : H0 a = none) (s : StepS W np σ0 env0 H0 G0 σ env H G) : StepS W np σ0 env0 H0 G0 (σ.set i (some (.ref a))) (env.set i (.own d)) H G := by
  refine ⟨r.setOwn h g ob nw, s.ext, s.keep, fun b q => ?_, fun j d' hj e => ?_, by simp [s.len]⟩
  · rcases isOwn_set q with ⟨q, _⟩ | q
    · cases q; exact .inl h0
    · exact s.own b q
  · obtain ⟨h1, d2, h2⟩ := s.pin j d' hj e
    obtain ⟨h3, h4⟩ := pin_set (x := some (.ref a)) (s := .own d) hp (σ := σ) j d2 hj h2
    exact ⟨h3.trans h1, h4⟩
/-- an own object is let go of -/
theorem Rel.freeze1 {σ : St} {env : Env'} {H G : Hp} {a : Addr} {o : HO} {d : D} (r : Rel W σ env H G) (h : H a = some o) (g : G a = none) (ob : Ob W G o d) (na : ¬ IsOwn σ env a) : Rel W σ env H (upd G a o) ∧ Rp W (upd G a o) (.ref a) d := by
  have sg : Same G (upd G a o) := same_upd g
  refine ⟨⟨r.len, fun b u e => ?_, fun i s hs => (r.slot i s hs).mono sg (fun _ _ _ _ q => q) fun b e1 e2 e3 e4 => ?_, r.dist⟩, (ob.mono sg).rp upd_same⟩
  · by_cases z : b = a
    · subst z; rw [upd_same] at e; cases e; exact h
    · rw [upd_ne z] at e; exact r.sub b u e
  · have ne : b ≠ a := fun z => by
      subst z
      cases s with
      | own d' => exact na ⟨i, d', hs, e1⟩
      | _ => cases e2
    rw [upd_ne ne]; exact e3
theorem Ext.freeze {H G H1 G1 : Hp} {a : Addr} {o : HO} (e : Ext H G H1 G1) (g : G1 a = none) (h0 : H a = none) : Ext H G H1 (upd G1 a o) :=
  ⟨e.same.trans (same_upd g), fun b hb gb => by rw [upd_ne (fun z => hb (by rw [z]; exact h0))]; exact e.new b hb gb, e.dom⟩
theorem obj_ne {σ : St} {env e1 : Env'} {H G : Hp} {a : Addr} (r : Rel W σ env H G) (l : Le env e1) (h0 : H a = none) : ∀ (j : Nat) (s : SV), e1[j]? = some s → s.isObj = true → σ[j]? ≠ some (some (.ref a)) := fun j s hs ho z => by
  have hj : j < env.length := by
    have := (List.getElem?_eq_some_iff.mp hs).1
    have := l.len; omega
  have q := l.at_ j env[j] s (by simp [hj]) hs
  have : (env[j]).isObj = true := by
    cases s with
    | own d => cases e : env[j] <;> rw [e] at q <;> simp_all [LeS, SV.isOwn, SV.isObj]
    | bor d => have : env[j] = .bor d := q; rw [this]; rfl
    | _ => cases ho
  have k := r.slot j env[j] (by simp [hj])
  cases e : env[j] with
  | own d => rw [e] at k; obtain ⟨b, o, h1, h2, _⟩ := k; rw [z] at h1; cases h1; rw [h0] at h2; cases h2
  | bor d => rw [e] at k; obtain ⟨b, o, h1, h2, _⟩ := k; rw [z] at h1; cases h1; rw [h0] at h2; cases h2
  | und => rw [e] at this; cases this
  | dat d => rw [e] at this; cases this
theorem set_tS {E : Entry} {i : Nat} {mu : Bool} {P : PF} {D : Ends} {σ : St} {H : Hp} (h : tS W E (sSet E.np i mu P) D σ H) : tAsg (tE W P) (gName i) D σ H := by
  obtain ⟨env, G, o, r0, p, k⟩ := h
  have r := r0.rel
  unfold sSet at p
  simp only [Option.bind_eq_bind, Option.bind_eq_some_iff, Prod.exists] at p
  obtain ⟨rv, e1, h1, p⟩ := p
  split at p
  · rename_i hb
    simp only [Bool.and_eq_true, Bool.not_eq_true'] at hb
    have hk := ownB_ok (np := E.np) (env := env) (e1 := e1) hb.1
    refine tE_one r h1 fun v H1 G1 s q => ?_
    have ss : StepS W E.np σ env H G σ e1 H1 G1 := s.toS hk
    cases rv with
    | dat d =>
      cases p
      exact k _ _ _ (r0.trans (ss.trans (StepS.setDat s.rel q hb.2))) s.ext.same
    | slot j => cases p
    | own d =>
      obtain ⟨a, ob, rfl, ha, ga, h0, hob⟩ := q
      have na : ¬ IsOwn σ e1 a := fun z => s.ownNe r z h0
      cases mu with
      | true =>
        cases p
        exact k _ _ _ (r0.trans (StepS.setOwn s.rel ha ga hob (obj_ne r s.le h0) hb.2 h0 ss)) s.ext.same
      | false =>
        cases p
        obtain ⟨r2, q2⟩ := s.rel.freeze1 ha ga hob na
        have s2 : Step W σ env H G e1 H1 (upd G1 a ob) := ⟨s.le, r2, s.ext.freeze ga h0, s.keep⟩
        exact k _ _ _ (r0.trans ((s2.toS hk).trans (StepS.setDat r2 q2 hb.2))) s2.ext.same
  · cases p

/-! ### the other statements -/
def sAsg (np : Nat) (P : PF) (g : GF) : SF := fun env => do
  let (rv, e1) ← P env
  if ownB np env e1 then
    match rv with
    | .dat d => (g d e1).map .nx
    | _ => none
  else none
theorem asg_tS {E : Entry} {P : PF} {g : GF} {D : Ends} {σ : St} {H : Hp} (h : tS W E (sAsg E.np P g) D σ H) : tAsg (tE W P) (tG W E.np g) D σ H := by
  obtain ⟨env, G, o, r0, p, k⟩ := h
  have r := r0.rel
  unfold sAsg at p
  simp only [Option.bind_eq_bind, Option.bind_eq_some_iff, Prod.exists] at p
  obtain ⟨rv, e1, h1, p⟩ := p
  split at p
  · rename_i hb
    have hk := ownB_ok hb
    refine tE_one r h1 fun v H1 G1 s q => ?_
    cases rv with
    | dat d =>
      simp only [Option.map_eq_some_iff] at p
      obtain ⟨e2, h2, rfl⟩ := p
      exact ⟨e1, G1, d, e2, s.rel, q, h2, fun σ' H' G' s2 => k _ _ _ (r0.trans ((s.toS hk).trans s2)) (s.ext.same.trans s2.ext.same)⟩
    | _ => cases p
  · cases p
def sExp (np : Nat) (P : PF) : SF := fun env => do
  let (_, e1) ← P env
  if ownB np env e1 then some (.nx e1) else none
theorem exp_tS {E : Entry} {P : PF} {D : Ends} {σ : St} {H : Hp} (h : tS W E (sExp E.np P) D σ H) : tE W P σ H fun _ H1 => D.nx σ H1 := by
  obtain ⟨env, G, o, r0, p, k⟩ := h
  have r := r0.rel
  unfold sExp at p
  simp only [Option.bind_eq_bind, Option.bind_eq_some_iff, Prod.exists] at p
  obtain ⟨rv, e1, h1, p⟩ := p
  split at p
  · rename_i hb
    cases p
    exact tE_one r h1 fun v H1 G1 s q => k _ _ _ (r0.trans (s.toS (ownB_ok hb))) s.ext.same
  · cases p
/-- return e: a slot's own object is handed out (no parameter's) -/
def sRet (np : Nat) (P : PF) : SF := fun env => do
  let (rv, e1) ← P env
  if ownB np env e1 then
    match rv with
    | .dat d => some (.rt (.dat d) e1)
    | .own d => some (.rt (.own d) e1)
    | .slot i => match e1[i]? with
      | some (.own d) => if i < np then none else some (.rt (.own d) (e1.set i .und))
      | _ => none
  else none
theorem Rel.unset {σ : St} {env : Env'} {H G : Hp} {i : Nat} (r : Rel W σ env H G) : Rel W σ (env.set i .und) H G := by
  refine ⟨by simp [r.len], r.sub, fun j s hs => ?_, fun j k d' s a h1 h2 h3 h4 h5 => ?_⟩
  · by_cases e : j = i
    · subst e
      have hj : j < env.length := by
        have := (List.getElem?_eq_some_iff.mp hs).1
        simpa using this
      rw [List.getElem?_set_self hj] at hs
      cases hs
      trivial
    · rw [List.getElem?_set_ne (Ne.symm e)] at hs
      exact r.slot j s hs
  · have un : ∀ (m : Nat) (t : SV), (env.set i .und)[m]? = some t → t.isObj = true → env[m]? = some t := fun m t hm ht => by
      by_cases e : m = i
      · subst e
        have hj : m < env.length := by
          have := (List.getElem?_eq_some_iff.mp hm).1
          simpa using this
        rw [List.getElem?_set_self hj] at hm
        cases hm
        cases ht
      · rw [List.getElem?_set_ne (Ne.symm e)] at hm
        exact hm
    exact r.dist j k d' s a (un j _ h1 rfl) (un k _ h2 h3) h3 h4 h5
theorem isOwn_unset {σ : St} {env : Env'} {i : Nat} {b : Addr} (h : IsOwn σ (env.set i .und) b) : IsOwn σ env b := by
  obtain ⟨j, d, h1, h2⟩ := h
  by_cases e : j = i
  · subst e
    have hj : j < env.length := by
      have := (List.getElem?_eq_some_iff.mp h1).1
      simpa using this
    rw [List.getElem?_set_self hj] at h1
    cases h1
  · rw [List.getElem?_set_ne (Ne.symm e)] at h1
    exact ⟨j, d, h1, h2⟩
theorem StepS.unset {np : Nat} {σ0 σ : St} {env0 env : Env'} {H0 G0 H G : Hp} {i : Nat} (s : StepS W np σ0 env0 H0 G0 σ env H G) (hi : ¬ i < np) : StepS W np σ0 env0 H0 G0 σ (env.set i .und) H G := by
  refine ⟨s.rel.unset, s.ext, s.keep, fun b h => s.own b (isOwn_unset h), fun j d hj e => ?_, by simp [s.len]⟩
  obtain ⟨h1, d', h2⟩ := s.pin j d hj e
  exact ⟨h1, d', by rw [List.getElem?_set_ne (fun z => hi (by omega))]; exact h2⟩
/-- own objects that stand at an entry are parameters' -/
def Entry.Good (E : Entry) : Prop := ∀ (i : Nat) (d : D), E.env[i]? = some (.own d) → i < E.np
theorem ret_tS {E : Entry} {P : PF} {D : Ends} {σ : St} {H : Hp} (hE : E.Good) (h : tS W E (sRet E.np P) D σ H) : tRet (tE W P) D σ H := by
  obtain ⟨env, G, o, r0, p, k⟩ := h
  have r := r0.rel
  unfold sRet at p
  simp only [Option.bind_eq_bind, Option.bind_eq_some_iff, Prod.exists] at p
  obtain ⟨rv, e1, h1, p⟩ := p
  split at p
  · rename_i hb
    refine tE_one r h1 fun v H1 G1 s q => ?_
    have ss := r0.trans (s.toS (np := E.np) (ownB_ok hb))
    cases rv with
    | dat d => cases p; exact k v σ H1 G1 ss s.ext.same q
    | own d => cases p; exact k v σ H1 G1 ss s.ext.same (q.base r0.ext.dom)
    | slot i =>
      simp only at p
      split at p
      · rename_i d hd
        split at p
        · cases p
        · rename_i hi
          cases p
          obtain ⟨a, rfl, ha⟩ := q
          obtain ⟨b, ob, h2, h3, h4, h5⟩ := ss.rel.slot i _ hd
          rw [ha] at h2; cases h2
          refine k _ σ H1 G1 (ss.unset hi) s.ext.same ⟨a, ob, rfl, h3, h4, ?_, h5⟩
          rcases ss.own a ⟨i, d, hd, ha⟩ with z | ⟨j, d', z1, z2⟩
          · exact z
          · have hj := hE j d' z1
            obtain ⟨w1, d2, w2⟩ := ss.pin j d' hj z1
            have e := ss.rel.dist j i d2 (.own d) a w2 hd rfl (by rw [w1]; exact z2) ha
            exact (hi (by omega)).elim
      · cases p
  · cases p
def sIf (c : BF) (np : Nat) (P P' : SF) : SF := fun env => (c env).bind fun r => if ownB np env r.2 then (if r.1 then P r.2 else P' r.2) else none
theorem if_tS {E : Entry} {c : BF} {P P' : SF} {D : Ends} {σ : St} {H : Hp} (h : tS W E (sIf c E.np P P') D σ H) : tIfS (tT W c) (tS W E P) (tS W E P') D σ H := by
  obtain ⟨env, G, o, r0, p, k⟩ := h
  unfold sIf at p
  simp only [Option.bind_eq_some_iff, Prod.exists] at p
  obtain ⟨b, e1, h1, p⟩ := p
  split at p
  · rename_i hb
    refine ⟨env, G, b, e1, r0.rel, h1, fun H1 G1 s => ?_⟩
    have ss := r0.trans (s.toS (np := E.np) (ownB_ok hb))
    cases b with
    | true => exact ⟨e1, G1, o, ss, p, k.mono s.ext.same⟩
    | false => exact ⟨e1, G1, o, ss, p, k.mono s.ext.same⟩
  · cases p
end
end Den
end

section
set_option Elab.async false
set_option linter.all false
set_option maxRecDepth 100000
set_option maxHeartbeats 2000000
/-! DenG: what is walked, for, comprehensions. -/
namespace Den
open PySem L2
section
variable {X : Cx} {W : Pw}

/-- J gives the data ds, one behind another, whatever G0 has grown to -/
def WalkD (W : Pw) (J : It) (ds : List D) (G0 : Hp) : Prop := ∃ (Gd : Hp → Prop) (Y : Nat → Hp → V → Hp → Prop), Walk J ds.length Gd Y ∧ (∀ H G1, Same G0 G1 → Same G1 H → Gd H) ∧
  ∀ (i : Nat) (H : Hp) (x : V) (H' G1 : Hp) (d : D), Y i H x H' → Same G0 G1 → Same G1 H → ds[i]? = some d → ∃ G2, NR W H G1 x (.dat d) H' G2
theorem walkd_list {a : Addr} {xs : List V} {ds : List D} {G0 : Hp} (h : G0 a = some (.lst xs)) (r : RpAll W G0 xs ds) : WalkD W (Itl W.K a) ds G0 := by
  refine ⟨fun H => SqL W.K H a xs, YAt xs, ?_, fun H G1 s1 s2 => SqL.of (s2 _ _ (s1 _ _ h)), fun i H x H' G1 d y s1 s2 e => ?_⟩
  · rw [← r.length]; exact walk_list
  · obtain ⟨rfl, h2⟩ := y
    obtain ⟨v, h3, h4⟩ := r.get e
    rw [h2] at h3; cases h3
    exact ⟨G1, NR.dat s2 (Rp.mono s1 h4)⟩
theorem walkd_tup {a : Addr} {xs : List V} {ds : List D} {G0 : Hp} (h : G0 a = some (.tup xs)) (r : RpAll W G0 xs ds) : WalkD W (Itt W.K a) ds G0 := by
  refine ⟨fun H => SqT W.K H a xs, YAt xs, ?_, fun H G1 s1 s2 => SqT.of (s2 _ _ (s1 _ _ h)), fun i H x H' G1 d y s1 s2 e => ?_⟩
  · rw [← r.length]; exact walk_tup
  · obtain ⟨rfl, h2⟩ := y
    obtain ⟨v, h3, h4⟩ := r.get e
    rw [h2] at h3; cases h3
    exact ⟨G1, NR.dat s2 (Rp.mono s1 h4)⟩
def rangeD (lo : Int) (n : Nat) : List D := (List.range n).map fun (i : Nat) => .int (lo + i)
theorem walkd_range {lo : Int} {n : Nat} {G0 : Hp} : WalkD W (Itr lo n) (rangeD lo n) G0 := by
  refine ⟨fun _ => True, YFn fun i => .int (lo + i), ?_, fun _ _ _ _ => trivial, fun i H x H' G1 d y s1 s2 e => ?_⟩
  · have : (rangeD lo n).length = n := by simp [rangeD]
    rw [this]; exact walk_range
  · obtain ⟨rfl, rfl⟩ := y
    simp only [rangeD, List.getElem?_map, Option.map_eq_some_iff] at e
    obtain ⟨j, h1, rfl⟩ := e
    have : j = i := by
      obtain ⟨h2, h3⟩ := List.getElem?_eq_some_iff.mp h1
      simpa using h3.symm
    subst this
    exact ⟨G1, NR.dat s2 (.int _)⟩
def strD (z : Str) : List D := z.cps.toList.map fun c => .str ⟨#[c]⟩
theorem walkd_str {z : Str} {G0 : Hp} : WalkD W (Its z) (strD z) G0 := by
  refine ⟨fun _ => True, fun i H v H' => H' = H ∧ ∃ c, z.cps[i]? = some c ∧ v = .str ⟨#[c]⟩, ?_, fun _ _ _ _ => trivial, fun i H x H' G1 d y s1 s2 e => ?_⟩
  · have : (strD z).length = z.cps.size := by simp [strD]
    rw [this]; exact walk_str
  · obtain ⟨rfl, c, h1, rfl⟩ := y
    simp only [strD, List.getElem?_map, Option.map_eq_some_iff] at e
    obtain ⟨c', h2, rfl⟩ := e
    have : c' = c := by
      rw [Array.getElem?_toList] at h2
      rw [h1] at h2; cases h2; rfl
    subst this
    exact ⟨G1, NR.dat s2 (.str _)⟩
def enumD (ds : List D) : List D := ds.zipIdx.map fun p => .tup [.int (p.2 : Nat), p.1]
theorem walkd_enum {a : Addr} {xs : List V} {ds : List D} {G0 : Hp} (h : G0 a = some (.lst xs)) (r : RpAll W G0 xs ds) : WalkD W (Ite W.K a) (enumD ds) G0 := by
  refine ⟨fun H => SqL W.K H a xs, YPair (fun i => some (.int (i : Nat))) (fun i => xs[i]?), ?_, fun H G1 s1 s2 => SqL.of (s2 _ _ (s1 _ _ h)), fun i H x H' G1 d y s1 s2 e => ?_⟩
  · have : (enumD ds).length = xs.length := by simp [enumD, r.length]
    rw [this]; exact walk_enum
  · obtain ⟨T, u, w, rfl, hT, rfl, hu, hw⟩ := y
    cases hu
    simp only [enumD, List.getElem?_map, Option.map_eq_some_iff] at e
    obtain ⟨⟨d', j⟩, h1, rfl⟩ := e
    simp only [List.getElem?_zipIdx, Option.map_eq_some_iff, Prod.mk.injEq] at h1
    obtain ⟨d2, h2, rfl, rfl⟩ := h1
    obtain ⟨v, h3, h4⟩ := r.get h2
    have hw' : xs[i]? = some w := hw
    rw [hw'] at h3; cases h3
    refine ⟨_, NR.frz s2 hT (.tup upd_same (.cons ?_ (.cons (Rp.mono (s1.trans (same_upd (s2.free hT))) h4) .nil)))⟩
    simp only [Nat.zero_add]
    exact .int _

abbrev IF := Env' → Option (List D × Env')
def tI (W : Pw) (P : IF) : TI := fun σ H R => ∃ env G ds env', Rel W σ env H G ∧ P env = some (ds, env') ∧ ∀ J H' G', Step W σ env H G env' H' G' → WalkD W J ds G' → R J H'
abbrev PID (X : Cx) (W : Pw) (tg : Expr) (P : IF) (e : Expr) : Prop := PI X tg e (tI W P)
theorem PI.weak {X : Cx} {tg e : Expr} {t t' : TI} (h : PI X tg e t) (k : ∀ σ H Q, t' σ H Q → t σ H Q) : PI X tg e t' := ⟨fun pins s σ H Q I q => h.run pins s σ H Q I (k σ H Q q)⟩
theorem PI.or {X : Cx} {tg e : Expr} {t t' : TI} (h : PI X tg e t) (h' : PI X tg e t') : PI X tg e (fun σ H R => t σ H R ∨ t' σ H R) := ⟨fun pins s σ H Q I q => q.elim (h.run pins s σ H Q I) (h'.run pins s σ H Q I)⟩
theorem PE.or {X : Cx} {e : Expr} {t t' : TE} (h : PE X e t) (h' : PE X e t') : PE X e (fun σ H R => t σ H R ∨ t' σ H R) := ⟨fun pins s σ H Q I q => q.elim (h.run pins s σ H Q I) (h'.run pins s σ H Q I)⟩
theorem PT.or {X : Cx} {e : Expr} {t t' : TT} (h : PT X e t) (h' : PT X e t') : PT X e (fun σ H R => t σ H R ∨ t' σ H R) := ⟨fun pins s σ H Q I q => q.elim (h.run pins s σ H Q I) (h'.run pins s σ H Q I)⟩
theorem PS.or {X : Cx} {e : Stmt} {t t' : TS} (h : PS X e t) (h' : PS X e t') : PS X e (fun D σ H => t D σ H ∨ t' D σ H) := ⟨fun pins s σ H Q I q => q.elim (h.run pins s σ H Q I) (h'.run pins s σ H Q I)⟩
/-- a value that is walked: a list or tuple that nobody changes, a text -/
def itemsD : RV → Option (List D)
  | .dat (.lst ds) => some ds
  | .own (.lst ds) => some ds
  | .dat (.tup ds) => some ds
  | .dat (.str z) => some (strD z)
  | _ => none
def iWalk (P : PF) : IF := fun env => do
  let (rv, e1) ← P env
  let ds ← itemsD rv
  some (ds, e1)
/-- a value that is frozen, if it was one's own -/
theorem Step.thaw {σ : St} {env e1 : Env'} {H G H1 G1 : Hp} {a : Addr} {o : HO} {d : D} (r : Rel W σ env H G) (s : Step W σ env H G e1 H1 G1) (ha : H1 a = some o) (ga : G1 a = none) (h0 : H a = none) (ob : Ob W G1 o d) :
    Step W σ env H G e1 H1 (upd G1 a o) ∧ Rp W (upd G1 a o) (.ref a) d := by
  obtain ⟨r2, q2⟩ := s.rel.freeze1 ha ga ob fun z => s.ownNe r z h0
  exact ⟨⟨s.le, r2, s.ext.freeze ga h0, s.keep⟩, q2⟩
theorem pid_walk {tg e : Expr} {P : PF} (hK : X.K = W.K) (h : PD X W P e) : PID X W tg (iWalk P) e :=
  PI.weak (PI.or (pi_list h) (PI.or (pi_tup h) (pi_str h))) fun σ H R ⟨env, G, ds, env', r, p, k⟩ => by
    unfold iWalk at p
    simp only [Option.bind_eq_bind, Option.bind_eq_some_iff, Prod.exists, Option.some.injEq, Prod.mk.injEq] at p
    obtain ⟨rv, e1, h1, ds', h2, rfl, rfl⟩ := p
    unfold itemsD at h2
    split at h2
    · cases h2
      refine .inl (tE_one r h1 fun v H1 G1 s o => ?_)
      cases o with
      | lst ha ra => exact ⟨_, rfl, ⟨_, SqL.of (s.rel.sub _ _ ha)⟩, by rw [hK]; exact k _ _ _ s (walkd_list ha ra)⟩
    · cases h2
      refine .inl (tE_one r h1 fun v H1 G1 s o => ?_)
      obtain ⟨a, ob, rfl, ha, ga, h0, hob⟩ := o
      obtain ⟨s2, q2⟩ := s.thaw r ha ga h0 hob
      cases q2 with
      | lst hb rb => exact ⟨_, rfl, ⟨_, SqL.of (s2.rel.sub _ _ hb)⟩, by rw [hK]; exact k _ _ _ s2 (walkd_list hb rb)⟩
    · cases h2
      refine .inr (.inl (tE_one r h1 fun v H1 G1 s o => ?_))
      cases o with
      | tup ha ra => exact ⟨_, rfl, ⟨_, SqT.of (s.rel.sub _ _ ha)⟩, by rw [hK]; exact k _ _ _ s (walkd_tup ha ra)⟩
    · cases h2
      refine .inr (.inr (tE_one r h1 fun v H1 G1 s o => ?_))
      cases o
      exact ⟨_, rfl, k _ _ _ s walkd_str⟩
    · cases h2
/-- range(n), range(a, b) -/
def iRange1 (P : PAF) : IF := fun env => do
  let (rvs, e1) ← P env
  match rvs with
  | [.dat (.int j)] => if -(2 ^ 62) ≤ j ∧ j < 2 ^ 62 then some (rangeD 0 j.toNat, e1) else none
  | _ => none
def iRange2 (P : PAF) : IF := fun env => do
  let (rvs, e1) ← P env
  match rvs with
  | [.dat (.int i), .dat (.int j)] => if -(2 ^ 62) ≤ i ∧ i < 2 ^ 62 ∧ -(2 ^ 62) ≤ j ∧ j < 2 ^ 62 then some (rangeD i (j - i).toNat, e1) else none
  | _ => none
theorem pid_range1 {tg a : Expr} {P : PAF} {p pos : Pos} (hg : Gl X "range") (hm : X.mg "range" = none) (h : PAD X W P [a]) (hs : notStar a = true) : PID X W tg (iRange1 P) (.Call (.Name "range" p) [a] [] pos) :=
  PI.weak (pi_range1 hg hm h (star_plain hs)) fun σ H R ⟨env, G, ds, env', r, q, k⟩ => by
    unfold iRange1 at q
    simp only [Option.bind_eq_bind, Option.bind_eq_some_iff, Prod.exists] at q
    obtain ⟨rvs, e1, h1, q⟩ := q
    refine ⟨env, G, rvs, e1, r, h1, fun vs H1 G1 s o => ?_⟩
    split at q
    · split at q
      · rename_i hz
        cases q
        cases o with
        | cons h _ t => cases t; cases h; exact ⟨_, rfl, hz.1, hz.2, k _ _ _ s walkd_range⟩
      · cases q
    · cases q
theorem pid_range2 {tg a b : Expr} {P : PAF} {p pos : Pos} (hg : Gl X "range") (hm : X.mg "range" = none) (h : PAD X W P [a, b]) (hs : notStar a = true) (hs2 : notStar b = true) : PID X W tg (iRange2 P) (.Call (.Name "range" p) [a, b] [] pos) :=
  PI.weak (pi_range2 hg hm h (by rw [star_plain hs, star_plain hs2]; rfl) (star_plain hs2)) fun σ H R ⟨env, G, ds, env', r, q, k⟩ => by
    unfold iRange2 at q
    simp only [Option.bind_eq_bind, Option.bind_eq_some_iff, Prod.exists] at q
    obtain ⟨rvs, e1, h1, q⟩ := q
    refine ⟨env, G, rvs, e1, r, h1, fun vs H1 G1 s o => ?_⟩
    split at q
    · split at q
      · rename_i hz
        cases q
        cases o with
        | cons h _ t => cases t with | cons h' _ t => cases t; cases h; cases h'; exact ⟨_, _, rfl, ⟨hz.1, hz.2.1, hz.2.2.1, hz.2.2.2⟩, k _ _ _ s walkd_range⟩
      · cases q
    · cases q
/-- enumerate of a list -/
def iEnumF (P : PAF) : IF := fun env => do
  let (rvs, e1) ← P env
  match rvs with
  | [.dat (.lst ds)] => some (enumD ds, e1)
  | [.own (.lst ds)] => some (enumD ds, e1)
  | _ => none
theorem pid_enum {e : Expr} {elts : List Expr} {kk : Nat} {tpos p pos : Pos} {P : PAF} (hK : X.K = W.K) (hg : Gl X "enumerate") (hm : X.mg "enumerate" = none) (h : PAD X W P [e]) (hs : notStar e = true) : PID X W (.Tuple elts kk tpos) (iEnumF P) (.Call (.Name "enumerate" p) [e] [] pos) :=
  PI.weak (pi_enum hg hm h (star_plain hs)) fun σ H R ⟨env, G, ds, env', r, q, k⟩ => by
    unfold iEnumF at q
    simp only [Option.bind_eq_bind, Option.bind_eq_some_iff, Prod.exists] at q
    obtain ⟨rvs, e1, h1, q⟩ := q
    refine ⟨env, G, rvs, e1, r, h1, fun vs H1 G1 s o => ?_⟩
    split at q
    · cases q
      cases o with
      | cons h _ t =>
        cases t
        cases h with
        | lst ha ra => exact ⟨_, _, rfl, SqL.of (s.rel.sub _ _ ha), by rw [hK]; exact k _ _ _ s (walkd_enum ha ra)⟩
    · cases q
      cases o with
      | cons h _ t =>
        cases t
        obtain ⟨a, ob, rfl, ha, ga, h0, hob⟩ := h
        obtain ⟨s2, q2⟩ := s.thaw r ha ga h0 hob
        cases q2 with
        | lst hb rb => exact ⟨_, _, rfl, SqL.of (s2.rel.sub _ _ hb), by rw [hK]; exact k _ _ _ s2 (walkd_enum hb rb)⟩
    · cases q

/-- zip of two lists -/
def zipD (xs ys : List D) : List D := (xs.zip ys).map fun p => .tup [p.1, p.2]
theorem zip_at {α β : Type} : ∀ {xs : List α} {ys : List β} {i : Nat} {p : α × β}, (xs.zip ys)[i]? = some p → xs[i]? = some p.1 ∧ ys[i]? = some p.2 := fun {xs ys i p} h => by
  rw [List.getElem?_zip_eq_some] at h
  exact h
theorem walkd_zip {a b : Addr} {xs ys : List V} {ds es : List D} {G0 : Hp} (h : G0 a = some (.lst xs)) (h' : G0 b = some (.lst ys)) (r : RpAll W G0 xs ds) (r' : RpAll W G0 ys es) : WalkD W (Itz W.K a b) (zipD ds es) G0 := by
  refine ⟨fun H => SqL W.K H a xs ∧ SqL W.K H b ys, YPair (fun i => xs[i]?) (fun i => ys[i]?), walk_zip (by simp [zipD, r.length, r'.length]), fun H G1 s1 s2 => ⟨SqL.of (s2 _ _ (s1 _ _ h)), SqL.of (s2 _ _ (s1 _ _ h'))⟩, fun i H x H' G1 d y s1 s2 e => ?_⟩
  obtain ⟨T, u, w, rfl, hT, rfl, hu, hw⟩ := y
  simp only [zipD, List.getElem?_map, Option.map_eq_some_iff] at e
  obtain ⟨⟨d1, d2⟩, h1, rfl⟩ := e
  obtain ⟨h2, h3⟩ := zip_at h1
  obtain ⟨v, h4, h5⟩ := r.get h2
  obtain ⟨v', h6, h7⟩ := r'.get h3
  have e1 : xs[i]? = some u := hu
  have e2 : ys[i]? = some w := hw
  rw [e1] at h4; cases h4
  rw [e2] at h6; cases h6
  have st := s1.trans (same_upd (s2.free hT) (o := .tup [u, w]))
  exact ⟨_, NR.frz s2 hT (.tup upd_same (.cons (Rp.mono st h5) (.cons (Rp.mono st h7) .nil)))⟩
def iZipF (P : PAF) : IF := fun env => do
  let (rvs, e1) ← P env
  match rvs with
  | [.dat (.lst ds), .dat (.lst es)] => some (zipD ds es, e1)
  | _ => none
theorem pid_zip {e e2 : Expr} {elts : List Expr} {kk : Nat} {tpos p pos : Pos} {P : PAF} (hK : X.K = W.K) (hg : Gl X "zip") (hm : X.mg "zip" = none) (h : PAD X W P [e, e2]) (hs : notStar e = true) (hs2 : notStar e2 = true) : PID X W (.Tuple elts kk tpos) (iZipF P) (.Call (.Name "zip" p) [e, e2] [] pos) :=
  PI.weak (pi_zip hg hm h (star_plain hs) (noStars (by simp [hs2]))) fun σ H R ⟨env, G, ds, env', r, q, k⟩ => by
    unfold iZipF at q
    simp only [Option.bind_eq_bind, Option.bind_eq_some_iff, Prod.exists] at q
    obtain ⟨rvs, e1, h1, q⟩ := q
    refine ⟨env, G, rvs, e1, r, h1, fun vs H1 G1 s o => ?_⟩
    split at q
    · cases q
      cases o with
      | cons h _ t =>
        cases t with
        | cons h' _ t =>
          cases t
          cases h with
          | lst ha ra =>
            cases h' with
            | lst hb rb => exact ⟨_, _, _, _, rfl, SqL.of (s.rel.sub _ _ ha), SqL.of (s.rel.sub _ _ hb), by rw [hK]; exact k _ _ _ s (walkd_zip ha hb ra rb)⟩
    · cases q

/-! ### for -/
def loopF (g : GF) (b : SF) : List D → Env' → Option Out
  | [], env => some (.nx env)
  | d :: ds, env => (g d env).bind fun e1 => (b e1).bind fun o => match o with
    | .nx e2 => loopF g b ds e2
    | .ct e2 => loopF g b ds e2
    | .bk e2 => some (.nx e2)
    | .rt rv e2 => some (.rt rv e2)
def sFor (np : Nat) (w : IF) (g : GF) (b : SF) : SF := fun env => (w env).bind fun r => if ownB np env r.2 then loopF g b r.1 r.2 else none
theorem for_tS {E : Entry} {w : IF} {g : GF} {b : SF} {D : Ends} {σ : St} {H : Hp} (h : tS W E (sFor E.np w g b) D σ H) : tFor (tI W w) (tG W E.np g) (tS W E b) D σ H := by
  obtain ⟨env, G, o, r0, p, k⟩ := h
  unfold sFor at p
  simp only [Option.bind_eq_some_iff, Prod.exists] at p
  obtain ⟨ds, e1, h1, p⟩ := p
  split at p
  · rename_i hb
    refine ⟨env, G, ds, e1, r0.rel, h1, fun J H1 G1 s wd => ?_⟩
    obtain ⟨Gd, Y, wk, hG, hY⟩ := wd
    have ss := r0.trans (s.toS (np := E.np) (ownB_ok hb))
    refine for_it wk (fun i σ2 H2 => ∃ env2 G2, E.To W σ2 env2 H2 G2 ∧ Same G1 G2 ∧ loopF g b (ds.drop i) env2 = some o) ⟨e1, G1, ss, Same.refl _, by simpa using p⟩ (fun i σ2 H2 _ ⟨env2, G2, t, sg, _⟩ => hG H2 G2 sg t.rel.sub) ?_ ?_
    · rintro i x σ2 H2 H2' hi ⟨env2, G2, t, sg, q⟩ y
      have ei : ds[i]? = some ds[i] := by simp [hi]
      rw [List.drop_eq_getElem_cons hi] at q
      simp only [loopF, Option.bind_eq_some_iff] at q
      obtain ⟨e3, q1, o3, q2, q3⟩ := q
      obtain ⟨G3, n⟩ := hY i H2 x H2' G2 _ y sg t.rel.sub ei
      have t3 : E.To W σ2 env2 H2' G3 := t.trans ((n.step t.rel).toS fun _ d _ h => ⟨d, h⟩)
      refine ⟨env2, G3, _, e3, t3.rel, n.ok, q1, fun σ4 H4 G4 s4 => ⟨e3, G4, o3, t3.trans s4, q2, ?_⟩⟩
      have sg4 : Same G1 G4 := (sg.trans n.ext.same).trans s4.ext.same
      have k4 : Wish W E G4 D o := k.mono (s.ext.same.trans sg4)
      cases o3 with
      | nx e5 => exact fun σ' H' G' t' z => ⟨e5, G', t', sg4.trans z, q3⟩
      | ct e5 => exact fun σ' H' G' t' z => ⟨e5, G', t', sg4.trans z, q3⟩
      | bk e5 => cases q3; exact k4
      | rt rv e5 => cases q3; exact k4
    · rintro σ2 H2 ⟨env2, G2, t, sg, q⟩
      simp only [List.drop_length, loopF] at q
      cases q
      exact k σ2 H2 G2 t (s.ext.same.trans sg)
  · cases p
end
end Den
end

section
set_option Elab.async false
set_option linter.all false
set_option maxRecDepth 100000
set_option maxHeartbeats 2000000
/-! DenH: comprehensions of lists. -/
namespace Den
open PySem L2
section
variable {X : Cx} {W : Pw}

/-- the block's own slots forgotten -/
def wipeE (env : Env') : List Nat → Env'
  | [] => env
  | i :: vs => (wipeE env vs).set i .und
theorem wipeE_len (env : Env') : ∀ vs : List Nat, (wipeE env vs).length = env.length
  | [] => rfl
  | i :: vs => by rw [wipeE, List.length_set, wipeE_len env vs]
theorem wipeE_out {env : Env'} {i : Nat} : ∀ {vs : List Nat}, i ∉ vs → (wipeE env vs)[i]? = env[i]?
  | [], _ => rfl
  | v :: vs, h => by
    simp only [List.mem_cons, not_or] at h
    rw [wipeE, List.getElem?_set_ne (fun e => h.1 e.symm), wipeE_out h.2]
theorem wipeE_in {env : Env'} {i : Nat} {s : SV} : ∀ {vs : List Nat}, i ∈ vs → (wipeE env vs)[i]? = some s → s = .und
  | v :: vs, h, e => by
    rw [wipeE] at e
    by_cases z : v = i
    · subst z
      have hj : v < (wipeE env vs).length := by
        have := (List.getElem?_eq_some_iff.mp e).1
        simpa using this
      rw [List.getElem?_set_self hj] at e
      cases e; rfl
    · rw [List.getElem?_set_ne z] at e
      simp only [List.mem_cons] at h
      rcases h with h | h
      · exact (z h.symm).elim
      · exact wipeE_in h e
theorem wipeE_at {env : Env'} {i : Nat} {vs : List Nat} {s : SV} (h : (wipeE env vs)[i]? = some s) : s = .und ∨ (i ∉ vs ∧ env[i]? = some s) := by
  by_cases m : i ∈ vs
  · exact .inl (wipeE_in m h)
  · rw [wipeE_out m] at h; exact .inr ⟨m, h⟩
theorem wipe_set {σ : St} {i : Nat} {x : Option V} : ∀ {vs : List Nat}, i ∈ vs → wipe (σ.set i x) vs = wipe σ vs
  | v :: vs, h => by
    simp only [List.mem_cons] at h
    show (wipe (σ.set i x) vs).set v none = (wipe σ vs).set v none
    by_cases m : i ∈ vs
    · rw [wipe_set m]
    · have e : v = i := by
        rcases h with h | h
        · exact h.symm
        · exact (m h).elim
      subst e
      have : wipe (σ.set v x) vs = (wipe σ vs).set v x := by
        clear h
        induction vs with
        | nil => rfl
        | cons u us ih =>
          simp only [List.mem_cons, not_or] at m
          show (wipe (σ.set v x) us).set u none = ((wipe σ us).set u none).set v x
          rw [ih m.2, List.set_comm _ _ (fun e => m.1 e)]
      rw [this, List.set_set]
theorem wipe_idem {σ : St} {vs : List Nat} : wipe (wipe σ vs) vs = wipe σ vs := by
  have id2 : ∀ us : List Nat, (∀ i ∈ us, i ∈ vs) → wipe (wipe σ vs) us = wipe σ vs := fun us hu => by
    induction us with
    | nil => rfl
    | cons i us ih =>
      show (wipe (wipe σ vs) us).set i none = wipe σ vs
      rw [ih fun j hj => hu j (List.mem_cons_of_mem _ hj)]
      have hi := hu i List.mem_cons_self
      apply List.ext_getElem?
      intro j
      by_cases e : i = j
      · subst e
        by_cases hl : i < (wipe σ vs).length
        · rw [List.getElem?_set_self hl]
          cases z : (wipe σ vs)[i]? with
          | none => rw [List.getElem?_eq_none_iff] at z; omega
          | some q =>
            cases q with
            | none => rfl
            | some v => exact ((wipe_some z).2 hi).elim
        · rw [List.getElem?_eq_none (by simpa using hl), List.getElem?_eq_none (by simpa using hl)]
      · rw [List.getElem?_set_ne e]
  exact id2 vs fun _ h => h
/-- slots outside vs are as they were -/
structure Out0 (vs : List Nat) (σ : St) (env : Env') (σ' : St) (env' : Env') : Prop where
  sl : wipe σ' vs = wipe σ vs
  ev : ∀ i, i ∉ vs → env'[i]? = env[i]?
theorem Out0.at_ {vs : List Nat} {σ σ' : St} {env env' : Env'} (o : Out0 vs σ env σ' env') {i : Nat} (h : i ∉ vs) : σ'[i]? = σ[i]? := by
  rw [← wipe_out (σ := σ') h, ← wipe_out (σ := σ) h, o.sl]
/-- from the slots of a turn back to those of the comprehension -/
theorem Rel.unturn {vs : List Nat} {σ σ' : St} {env : Env'} {H G : Hp} (r : Rel W σ' env H G) (e : wipe σ' vs = wipe σ vs) : Rel W σ (wipeE env vs) H G := by
  have hl : σ.length = σ'.length := by
    have := congrArg List.length e
    rw [wipe_length, wipe_length] at this
    exact this.symm
  have at_ : ∀ i, i ∉ vs → σ'[i]? = σ[i]? := fun i h => by rw [← wipe_out (σ := σ') h, ← wipe_out (σ := σ) h, e]
  refine ⟨by rw [wipeE_len, hl, r.len], r.sub, fun i s hs => ?_, fun i j d s a h1 h2 h3 h4 h5 => ?_⟩
  · rcases wipeE_at hs with rfl | ⟨m, q⟩
    · trivial
    · rw [← at_ i m]; exact r.slot i s q
  · rcases wipeE_at h1 with z | ⟨m, q⟩
    · cases z
    · rcases wipeE_at h2 with z | ⟨m2, q2⟩
      · subst z; cases h3
      · exact r.dist i j d s a q q2 h3 (by rw [at_ i m]; exact h4) (by rw [at_ j m2]; exact h5)
/-- into a turn: the slots of the block are und -/
theorem Rel.turn {vs : List Nat} {σ : St} {env : Env'} {H G : Hp} (r : Rel W σ env H G) (u : ∀ i s, i ∈ vs → env[i]? = some s → s = .und) : Rel W (wipe σ vs) env H G := by
  have at_ : ∀ i s, env[i]? = some s → s ≠ SV.und → (wipe σ vs)[i]? = σ[i]? := fun i s h n => wipe_out fun m => n (u i s m h)
  refine ⟨by rw [wipe_length, r.len], r.sub, fun i s hs => ?_, fun i j d s a h1 h2 h3 h4 h5 => ?_⟩
  · by_cases z : s = .und
    · subst z; trivial
    · rw [at_ i s hs z]; exact r.slot i s hs
  · rw [at_ i _ h1 (by simp)] at h4
    rw [at_ j _ h2 (by rintro rfl; cases h3)] at h5
    exact r.dist i j d s a h1 h2 h3 h4 h5

/-- targets in a block: what they touch are the block's own slots -/
def tGc (W : Pw) (vs : List Nat) (P : GF) : TG := fun v σ H Q => ∃ env G d env', Rel W σ env H G ∧ Rp W G v d ∧ P d env = some env' ∧ ∀ σ', Rel W σ' env' H G → Out0 vs σ env σ' env' → (∀ b, IsOwn σ' env' b → IsOwn σ env b) → Q σ' H
theorem pgc_name {i : Nat} {vs : List Nat} {e : Expr} (h : PG X e (gName i)) (hi : i ∈ vs) : PG X e (tGc W vs (gSet 0 i)) := PG.weak h fun v σ H Q ⟨env, G, d, env', r, q, p, k⟩ => by
  simp only [gSet, pinned] at p
  simp only [Nat.not_lt_zero, decide_false, Bool.false_and, if_false, Option.some.injEq, Bool.false_eq_true] at p
  subst p
  refine k _ (r.setDat q) ⟨wipe_set hi, fun j hj => ?_⟩ fun b z => ?_
  · rw [List.getElem?_set_ne (fun z => hj (by rw [← z]; exact hi))]
  · rcases isOwn_set z with ⟨_, z⟩ | z
    · cases z
    · exact z
def tGcs (W : Pw) (vs : List Nat) (P : List D → Env' → Option Env') : TGs := fun us σ H Q => ∃ env G ds env', Rel W σ env H G ∧ RpAll W G us ds ∧ P ds env = some env' ∧ ∀ σ', Rel W σ' env' H G → Out0 vs σ env σ' env' → (∀ b, IsOwn σ' env' b → IsOwn σ env b) → Q σ' H
theorem pgcs_nil {vs : List Nat} : PGs X [] (tGcs W vs gsNil) := PGs.weak pgs_nil fun v σ H Q ⟨env, G, ds, env', r, q, p, k⟩ => by
  cases q with
  | nil => cases p; exact ⟨rfl, k _ r ⟨rfl, fun _ _ => rfl⟩ fun _ z => z⟩
  | cons _ _ => cases p
theorem pgcs_cons {vs : List Nat} {e : Expr} {es : List Expr} {P : GF} {P' : List D → Env' → Option Env'} (hc : PGs X (e :: es) (gCons (tGc W vs P) (tGcs W vs P'))) : PGs X (e :: es) (tGcs W vs (gsCons P P')) := PGs.weak hc fun v σ H Q ⟨env, G, ds, env', r, q, p, k⟩ => by
  cases q with
  | nil => cases p
  | cons h t =>
    simp only [gsCons, Option.bind_eq_some_iff] at p
    obtain ⟨e1, h1, h2⟩ := p
    exact ⟨_, _, rfl, env, G, _, e1, r, h, h1, fun σ1 r1 o1 w1 => ⟨e1, G, _, env', r1, t, h2, fun σ2 r2 o2 w2 => k σ2 r2 ⟨o2.sl.trans o1.sl, fun i hi => (o2.ev i hi).trans (o1.ev i hi)⟩ fun b z => w1 b (w2 b z)⟩⟩
theorem pgc_tup {vs : List Nat} {es : List Expr} {k n : Nat} {pos : Pos} {P : List D → Env' → Option Env'} (hp : PG X (.Tuple es k pos) (gTup X.K n (tGcs W vs P))) : PG X (.Tuple es k pos) (tGc W vs (gTupF n P)) := PG.weak hp fun v σ H Q ⟨env, G, d, env', r, q, p, kk⟩ => by
  unfold gTupF at p
  split at p
  · split at p
    · rename_i hn
      cases q with
      | tup ha ra => exact ⟨_, _, rfl, SqT.of (r.sub _ _ ha), by rw [ra.length]; exact hn, env, G, _, env', r, ra, p, kk⟩
    · cases p
  · cases p

/-! ### one for -/
def lcF (vs : List Nat) (g : GF) (c : BF) (e : PF) : List D → Env' → Option (List D × Env')
  | [], env => some ([], env)
  | d :: ds, env => do
    let e1 ← g d env
    let (b, e2) ← c e1
    if b then
      let (rv, e3) ← e e2
      let y ← rv.dt
      let (ys, e4) ← lcF vs g c e ds (wipeE e3 vs)
      some (y :: ys, e4)
    else lcF vs g c e ds (wipeE e2 vs)
def pLc (vs : List Nat) (w : IF) (g : GF) (c : BF) (e : PF) : PF := fun env => do
  let (ds, e1) ← w env
  let (ys, e2) ← lcF vs g c e ds (wipeE e1 vs)
  if ds.length ≤ sizeLine then some (.own (.lst ys), e2) else none
theorem lcF_le {vs : List Nat} {g : GF} {c : BF} {e : PF} : ∀ {ds : List D} {env env' : Env'} {ys : List D}, lcF vs g c e ds env = some (ys, env') → ys.length ≤ ds.length
  | [], _, _, _, h => by cases h; exact Nat.le_refl _
  | d :: ds, env, env', ys, h => by
    simp only [lcF, Option.bind_eq_bind, Option.bind_eq_some_iff, Prod.exists] at h
    obtain ⟨e1, h1, b, e2, h2, h⟩ := h
    split at h
    · simp only [Option.bind_eq_some_iff, Prod.exists, Option.some.injEq, Prod.mk.injEq] at h
      obtain ⟨rv, e3, h3, y, h4, ys', e4, h5, rfl, rfl⟩ := h
      have := lcF_le h5
      simp; omega
    · have := lcF_le h
      simp; omega
/-- Step of a whole turn -/
theorem Step.turned {vs : List Nat} {σ σ2 : St} {env eA eC : Env'} {H G H' G' H2 G2 : Hp} (r : Rel W σ env H G) (u : ∀ i s, i ∈ vs → env[i]? = some s → s = .und) (o : Out0 vs (wipe σ vs) env σ2 eA) (ow : ∀ b, IsOwn σ2 eA b → IsOwn (wipe σ vs) env b)
    (x : Ext H G H' G') (kp : Same H H') (s : Step W σ2 eA H' G' eC H2 G2) : Step W σ env H G (wipeE eC vs) H2 G2 := by
  have ww : wipe σ2 vs = wipe σ vs := by
    rw [o.sl]
    exact wipe_idem
  have wo : ∀ b, IsOwn (wipe σ vs) env b → IsOwn σ env b := fun b ⟨i, d, h1, h2⟩ => ⟨i, d, h1, (wipe_some h2).1⟩
  refine ⟨⟨?_, fun i t t' h1 h2 => ?_⟩, s.rel.unturn ww, x.trans s.ext, fun b ob hb nb => s.keep b ob (kp b ob hb) fun z => nb (wo b (ow b z))⟩
  · rw [wipeE_len, ← s.le.len]
    have h1 := s.rel.len
    have h2 := s.le.len
    have h3 := congrArg List.length ww
    rw [wipe_length, wipe_length] at h3
    have h4 := r.len
    omega
  · rcases wipeE_at h2 with z | ⟨m, q⟩
    · subst z; simp [LeS]
    · exact s.le.at_ i t t' (by rw [o.ev i m]; exact h1) q
theorem lc_tE {vs : List Nat} {w : IF} {g : GF} {c : BF} {e : PF} {σ : St} {H : Hp} {Q : VK} (h : tE W (pLc vs w g c e) σ H Q) : tLc (tI W w) (tGc W vs g) (tT W c) (tE W e) vs σ H Q := by
  obtain ⟨env, G, rv, env', r, p, k⟩ := h
  unfold pLc at p
  simp only [Option.bind_eq_bind, Option.bind_eq_some_iff, Prod.exists] at p
  obtain ⟨ds, e1, h1, ys, e2, h2, p⟩ := p
  split at p
  · rename_i hz
    cases p
    refine ⟨env, G, ds, e1, r, h1, fun J H1 G1 s wd Da hD => ?_⟩
    obtain ⟨Gd, Y, wk, hG, hY⟩ := wd
    have gD : G1 Da = none := s.rel.sub.free hD
    have n0 : NR W H1 G1 (.ref Da) (.own (.lst [])) (upd H1 Da (.lst [])) G1 := NR.own s.rel.sub hD (.lst .nil)
    have s0 : Step W σ env H G e1 (upd H1 Da (.lst [])) G1 := s.trans (n0.step s.rel)
    -- the first wipe
    have sw : Step W σ env H G (wipeE e1 vs) (upd H1 Da (.lst [])) G1 :=
      ⟨⟨by rw [wipeE_len]; exact s0.le.len, fun i t t' a b => by
        rcases wipeE_at b with z | ⟨_, q⟩
        · subst z; simp [LeS]
        · exact s0.le.at_ i t t' a q⟩, s0.rel.unturn rfl, s0.ext, s0.keep⟩
    have hDn : H Da = none := s.ext.dom Da hD
    refine lc_it wk (fun i H2 => ∃ env2 G2 acc dacc rest, Step W σ env H G env2 H2 G2 ∧ (∀ i s, i ∈ vs → env2[i]? = some s → s = .und) ∧ Same G1 G2 ∧ H2 Da = some (.lst acc) ∧ G2 Da = none ∧ RpAll W G2 acc dacc ∧ dacc.length ≤ i ∧ lcF vs g c e (ds.drop i) env2 = some (rest, env') ∧ dacc ++ rest = ys)
      ⟨wipeE e1 vs, G1, [], [], ys, sw, fun i s hi he => wipeE_in hi he, Same.refl _, upd_same, gD, .nil, Nat.le_refl _, by simpa using h2, rfl⟩
      (fun i H2 _ ⟨env2, G2, acc, dacc, rest, t, _, sg, _⟩ => hG H2 G2 sg t.rel.sub) ?_ ?_
    · rintro i x H2 H2' hi ⟨env2, G2, acc, dacc, rest, t, un, sg, hacc, gacc, racc, lacc, q, ey⟩ y
      have ei : ds[i]? = some ds[i] := by simp [hi]
      rw [List.drop_eq_getElem_cons hi] at q
      simp only [lcF, Option.bind_eq_bind, Option.bind_eq_some_iff, Prod.exists] at q
      obtain ⟨eA, q1, b, eB, q2, q3⟩ := q
      obtain ⟨G3, n⟩ := hY i H2 x H2' G2 _ y sg t.rel.sub ei
      have r3 : Rel W σ env2 H2' G3 := (n.step t.rel).rel
      refine ⟨env2, G3, _, eA, r3.turn un, n.ok, q1, fun σ4 r4 o4 w4 => ⟨?_, ?_⟩⟩
      · rw [o4.sl]; exact wipe_idem
      have ge : G3 Da = none := n.ext.new Da (by rw [hacc]; simp) gacc
      have hd2 : H2' Da = some (.lst acc) := n.kept _ _ hacc
      have nDa : ∀ {σ' : St} {e' : Env'}, (∀ b, IsOwn σ' e' b → IsOwn σ env2 b) → ¬ IsOwn σ' e' Da := fun f z => t.ownNe r (f _ z) hDn
      have wo : ∀ b, IsOwn (wipe σ vs) env2 b → IsOwn σ env2 b := fun b ⟨i, d, h1, h2⟩ => ⟨i, d, h1, (wipe_some h2).1⟩
      refine ⟨eA, G3, b, eB, r4, q2, fun H5 G5 s5 => ?_⟩
      have a5 : ¬ IsOwn σ4 eA Da := nDa fun b z => wo b (w4 b z)
      cases b with
      | true =>
        simp only [if_true, Option.bind_eq_some_iff, Prod.exists, Option.some.injEq, Prod.mk.injEq] at q3
        obtain ⟨rv, eC, q4, y0, q5, ys', e4, q6, rfl, rfl⟩ := q3
        refine iteT ⟨eB, G5, rv, eC, s5.rel, q4, fun v H6 G6 s6 o6 => ?_⟩
        have s56 := s5.trans s6
        have hd6 : H6 Da = some (.lst acc) := s56.keep Da _ hd2 a5
        have gd6 : G6 Da = none := s56.ext.new Da (by rw [hd2]; simp) ge
        -- what is put in is frozen
        have fz : ∃ G7, Step W σ4 eA H2' G3 eC H6 G7 ∧ Rp W G7 v y0 ∧ G7 Da = none := by
          cases rv with
          | dat d => cases q5; exact ⟨G6, s56, o6, gd6⟩
          | slot j => cases q5
          | own d =>
            cases q5
            obtain ⟨a, ob, rfl, ha, ga, h0, hob⟩ := o6
            have h00 : H2' a = none := s5.ext.dom a h0
            obtain ⟨s7, q7⟩ := Step.thaw r4 s56 ha ga h00 hob
            have ne : Da ≠ a := fun z => by rw [← z, hd2] at h00; cases h00
            exact ⟨_, s7, q7, by rw [upd_ne ne]; exact gd6⟩
        obtain ⟨G7, s7, q7, gd7⟩ := fz
        have tt := Step.turned (t.rel) un o4 w4 n.ext n.kept s7
        refine ⟨acc, hd6, ?_, ?_⟩
        · rw [racc.length]
          have := lcF_le h2
          omega
        · have na : ¬ IsOwn σ (wipeE eC vs) Da := fun z => t.ownNe r (z.le tt.le) hDn
          have tw := t.trans tt
          have kp : ∀ (j : Nat) (s : SV), (wipeE eC vs)[j]? = some s → s.isObj = true → σ[j]? ≠ some (some (.ref Da)) := obj_ne r tw.le hDn
          refine ⟨wipeE eC vs, G7, acc ++ [v], dacc ++ [y0], ys', ⟨tw.le, ⟨tw.rel.len, fun b u eb => ?_, fun j s hs => ?_, tw.rel.dist⟩, ⟨tw.ext.same, tw.ext.new, fun b hb => ?_⟩, fun b u eb nb => ?_⟩, fun j s hj he => wipeE_in hj he, (sg.trans n.ext.same).trans s7.ext.same, upd_same, gd7, (RpAll.mono (n.ext.same.trans s7.ext.same) racc).append (.cons q7 .nil), ?_, q6, ?_⟩
          · rw [upd_ne (fun z => by rw [z, gd7] at eb; cases eb)]; exact tw.rel.sub b u eb
          · exact (tw.rel.slot j s hs).mono (Same.refl _) (fun b u e1 e2 e3 => by rw [upd_ne (fun z => kp j s hs e2 (by rw [e1, z]))]; exact e3) fun _ _ _ g _ => g
          · by_cases z : b = Da
            · rw [z]; exact hDn
            · rw [upd_ne z] at hb; exact tw.ext.dom b hb
          · rw [upd_ne (fun z => by rw [z, hDn] at eb; cases eb)]; exact tw.keep b u eb nb
          · simp; omega
          · rw [← ey]; simp
      | false =>
        simp only [Bool.false_eq_true, if_false] at q3
        refine iteF ?_
        have tt := Step.turned (t.rel) un o4 w4 n.ext n.kept s5
        exact ⟨wipeE eB vs, G5, acc, dacc, rest, t.trans tt, fun j s hj he => wipeE_in hj he, (sg.trans n.ext.same).trans s5.ext.same, s5.keep Da _ hd2 a5, s5.ext.new Da (by rw [hd2]; simp) ge, RpAll.mono (n.ext.same.trans s5.ext.same) racc, by omega, q3, ey⟩
    · rintro H2 ⟨env2, G2, acc, dacc, rest, t, un, sg, hacc, gacc, racc, lacc, q, ey⟩
      simp only [List.drop_length, lcF] at q
      cases q
      simp only [List.append_nil] at ey
      subst ey
      exact k _ H2 G2 t ⟨Da, _, rfl, hacc, gacc, hDn, .lst racc⟩
  · cases p
end
end Den
end

section
set_option Elab.async false
set_option linter.all false
set_option maxRecDepth 100000
set_option maxHeartbeats 4000000
/-! DenH2: comprehensions of lists with two fors. -/
namespace Den
open PySem L2
section
variable {X : Cx} {W : Pw}
/-- a heap without the object at a -/
def unA (H : Hp) (a : Addr) : Hp := fun b => if b = a then none else H b
theorem unA_same {H : Hp} {a : Addr} : unA H a a = none := by unfold unA; rw [if_pos rfl]
theorem unA_ne {H : Hp} {a b : Addr} (h : b ≠ a) : unA H a b = H b := by unfold unA; rw [if_neg h]
theorem unA_some {H : Hp} {a b : Addr} {o : HO} (h : unA H a b = some o) : b ≠ a ∧ H b = some o := by
  by_cases e : b = a
  · subst e; rw [unA_same] at h; cases h
  · rw [unA_ne e] at h; exact ⟨e, h⟩
theorem unA_none {H : Hp} {a b : Addr} (h : H b = none) : unA H a b = none := by
  by_cases e : b = a
  · subst e; exact unA_same
  · rw [unA_ne e]; exact h
/-- no slot's object stands at a -/
def NoSl (σ : St) (env : Env') (a : Addr) : Prop := ∀ (j : Nat) (s : SV), env[j]? = some s → s.isObj = true → σ[j]? ≠ some (some (.ref a))
theorem NoSl.own {σ : St} {env : Env'} {a : Addr} (h : NoSl σ env a) : ¬ IsOwn σ env a := fun ⟨i, d, h1, h2⟩ => h i _ h1 rfl h2
theorem NoSl.le {σ : St} {env e1 : Env'} {a : Addr} (h : NoSl σ env a) (l : Le env e1) : NoSl σ e1 a := fun j s hs ho => by
  have hj : j < env.length := by
    have := (List.getElem?_eq_some_iff.mp hs).1
    have := l.len; omega
  have q := l.at_ j env[j] s (by simp [hj]) hs
  refine h j env[j] (by simp [hj]) ?_
  cases s with
  | own d => cases e : env[j] <;> rw [e] at q <;> simp_all [LeS, SV.isOwn, SV.isObj]
  | bor d => have : env[j] = .bor d := q; rw [this]; rfl
  | _ => cases ho
theorem Rel.unA {σ : St} {env : Env'} {H G : Hp} {a : Addr} (r : Rel W σ env H G) (n : NoSl σ env a) (g : G a = none) : Rel W σ env (unA H a) G := by
  refine ⟨r.len, fun b u e => ?_, fun j s hs => ?_, r.dist⟩
  · rw [unA_ne (fun z => by rw [z, g] at e; cases e)]; exact r.sub b u e
  · exact (r.slot j s hs).mono (Same.refl _) (fun b u e1 e2 e3 => by rw [unA_ne (fun z => n j s hs e2 (by rw [e1, z]))]; exact e3) fun _ _ _ q _ => q
/-- the base of a step without a -/
theorem Step.unBase {σ : St} {env e1 : Env'} {H G H1 G1 : Hp} {a : Addr} (s : Step W σ env H G e1 H1 G1) : Step W σ env (unA H a) G e1 H1 G1 :=
  ⟨s.le, s.rel, ⟨s.ext.same, fun b hb g => s.ext.new b (fun z => hb (unA_none z)) g, fun b hb => unA_none (s.ext.dom b hb)⟩, fun b o hb n => s.keep b o (unA_some hb).2 n⟩
/-- the end of a step without a, that the base had not -/
theorem Step.unEnd {σ : St} {env e1 : Env'} {H G H1 G1 : Hp} {a : Addr} (s : Step W σ env H G e1 H1 G1) (ha : H a = none) (n : NoSl σ e1 a) (g : G1 a = none) : Step W σ env H G e1 (unA H1 a) G1 :=
  ⟨s.le, s.rel.unA n g, ⟨s.ext.same, s.ext.new, fun b hb => by
    by_cases z : b = a
    · rw [z]; exact ha
    · rw [unA_ne z] at hb; exact s.ext.dom b hb⟩, fun b o hb nn => by
    rw [unA_ne (fun z => by rw [z, ha] at hb; cases hb)]; exact s.keep b o hb nn⟩
/-- one loop of a comprehension, the list at Da begun -/
theorem lc_loop {vs : List Nat} {g : GF} {c : BF} {e : PF} {σ : St} {env : Env'} {H G : Hp} {Da : Addr} (r : Rel W σ env H G) (hDn : H Da = none) {J : It} {ds : List D} {G1 : Hp} (wd : WalkD W J ds G1)
    {env0 : Env'} {H0 G0 : Hp} {acc0 : List V} {dacc0 ys : List D} {envE : Env'} (s0 : Step W σ env H G env0 H0 G0) (un0 : ∀ i s, i ∈ vs → env0[i]? = some s → s = .und) (sg0 : Same G1 G0)
    (h0 : H0 Da = some (.lst acc0)) (g0 : G0 Da = none) (ra0 : RpAll W G0 acc0 dacc0) (hl : dacc0.length + ys.length ≤ sizeLine) (hF : lcF vs g c e ds env0 = some (ys, envE)) {Qd : Hp → Prop}
    (k : ∀ H2 G2 acc, Step W σ env H G envE H2 G2 → (∀ i s, i ∈ vs → envE[i]? = some s → s = .und) → Same G0 G2 → H2 Da = some (.lst acc) → G2 Da = none → RpAll W G2 acc (dacc0 ++ ys) → Qd H2) :
    ∃ Z : Nat → Nat → Hp → Prop, (∃ m, Z 0 m H0) ∧ ∀ i m H2, Z i m H2 →
      (J.stop i H2 ∧ Qd H2) ∨ (J.go i H2 ∧ ∃ Nx : Hp → Prop, (∀ H', Nx H' → ∃ m', m' < m ∧ Z (i + 1) m' H') ∧ ∀ x H', J.yld i H2 x H' → tGc W vs g x (wipe σ vs) H' fun σ2 H2 => wipe σ2 vs = wipe σ vs ∧ tT W c σ2 H2 fun b H3 =>
        if b = true then tE W e σ2 H3 fun y H4 => ∃ acc, H4 Da = some (.lst acc) ∧ acc.length < sizeLine ∧ Nx (upd H4 Da (.lst (acc ++ [y]))) else Nx H3) := by
  obtain ⟨Gd, Y, wk, hG, hY⟩ := wd
  let Pv : Nat → Hp → Prop := fun i H2 => ∃ env2 G2 acc dacc rest, Step W σ env H G env2 H2 G2 ∧ (∀ i s, i ∈ vs → env2[i]? = some s → s = .und) ∧ Same G0 G2 ∧ H2 Da = some (.lst acc) ∧ G2 Da = none ∧ RpAll W G2 acc dacc ∧ lcF vs g c e (ds.drop i) env2 = some (rest, envE) ∧ dacc ++ rest = dacc0 ++ ys
  have good : ∀ i H2, Pv i H2 → Gd H2 := fun i H2 ⟨env2, G2, acc, dacc, rest, t, _, sg, _⟩ => hG H2 G2 (sg0.trans sg) t.rel.sub
  refine ⟨fun i m H2 => m = ds.length - i ∧ (i ≤ ds.length ∧ Pv i H2), ⟨ds.length, by simp, Nat.zero_le _, env0, G0, acc0, dacc0, ys, s0, un0, Same.refl _, h0, g0, ra0, by simpa using hF, rfl⟩, fun i m H2 ⟨hm, hi, pv⟩ => ?_⟩
  have gd := good i H2 pv
  rcases Nat.lt_or_ge i ds.length with hlt | hge
  · refine .inr ⟨wk.goes i H2 hlt gd, Pv (i + 1), fun H' p' => ⟨ds.length - (i + 1), by omega, rfl, hlt, p'⟩, fun x H2' yl => ?_⟩
    have y := wk.yields i H2 x H2' hlt gd yl
    obtain ⟨env2, G2, acc, dacc, rest, t, un, sg, hacc, gacc, racc, q, ey⟩ := pv
    have ei : ds[i]? = some ds[i] := by simp [hlt]
    rw [List.drop_eq_getElem_cons hlt] at q
    simp only [lcF, Option.bind_eq_bind, Option.bind_eq_some_iff, Prod.exists] at q
    obtain ⟨eA, q1, b, eB, q2, q3⟩ := q
    obtain ⟨G3, n⟩ := hY i H2 x H2' G2 _ y (sg0.trans sg) t.rel.sub ei
    have r3 : Rel W σ env2 H2' G3 := (n.step t.rel).rel
    refine ⟨env2, G3, _, eA, r3.turn un, n.ok, q1, fun σ4 r4 o4 w4 => ⟨by rw [o4.sl]; exact wipe_idem, ?_⟩⟩
    have ge : G3 Da = none := n.ext.new Da (by rw [hacc]; simp) gacc
    have hd2 : H2' Da = some (.lst acc) := n.kept _ _ hacc
    have wo : ∀ b, IsOwn (wipe σ vs) env2 b → IsOwn σ env2 b := fun b ⟨i, d, h1, h2⟩ => ⟨i, d, h1, (wipe_some h2).1⟩
    have a5 : ¬ IsOwn σ4 eA Da := fun z => t.ownNe r (wo _ (w4 _ z)) hDn
    refine ⟨eA, G3, b, eB, r4, q2, fun H5 G5 s5 => ?_⟩
    cases b with
    | true =>
      simp only [if_true, Option.bind_eq_some_iff, Prod.exists, Option.some.injEq, Prod.mk.injEq] at q3
      obtain ⟨rv, eC, q4, y0, q5, ys', e4, q6, rfl, rfl⟩ := q3
      refine iteT ⟨eB, G5, rv, eC, s5.rel, q4, fun v H6 G6 s6 o6 => ?_⟩
      have s56 := s5.trans s6
      have hd6 : H6 Da = some (.lst acc) := s56.keep Da _ hd2 a5
      have gd6 : G6 Da = none := s56.ext.new Da (by rw [hd2]; simp) ge
      have fz : ∃ G7, Step W σ4 eA H2' G3 eC H6 G7 ∧ Rp W G7 v y0 ∧ G7 Da = none := by
        cases rv with
        | dat d => cases q5; exact ⟨G6, s56, o6, gd6⟩
        | slot j => cases q5
        | own d =>
          cases q5
          obtain ⟨a, ob, rfl, ha, ga, h0, hob⟩ := o6
          have h00 : H2' a = none := s5.ext.dom a h0
          obtain ⟨s7, q7⟩ := Step.thaw r4 s56 ha ga h00 hob
          have ne : Da ≠ a := fun z => by rw [← z, hd2] at h00; cases h00
          exact ⟨_, s7, q7, by rw [upd_ne ne]; exact gd6⟩
      obtain ⟨G7, s7, q7, gd7⟩ := fz
      have tt := Step.turned (t.rel) un o4 w4 n.ext n.kept s7
      have ln := congrArg List.length ey
      simp only [List.length_append, List.length_cons] at ln
      refine ⟨acc, hd6, by rw [racc.length]; omega, ?_⟩
      have tw := t.trans tt
      have kp : ∀ (j : Nat) (s : SV), (wipeE eC vs)[j]? = some s → s.isObj = true → σ[j]? ≠ some (some (.ref Da)) := obj_ne r tw.le hDn
      refine ⟨wipeE eC vs, G7, acc ++ [v], dacc ++ [y0], ys', ⟨tw.le, ⟨tw.rel.len, fun b u eb => ?_, fun j s hs => ?_, tw.rel.dist⟩, ⟨tw.ext.same, tw.ext.new, fun b hb => ?_⟩, fun b u eb nb => ?_⟩, fun j s hj he => wipeE_in hj he, (sg.trans n.ext.same).trans s7.ext.same, upd_same, gd7, (RpAll.mono (n.ext.same.trans s7.ext.same) racc).append (.cons q7 .nil), q6, by rw [← ey]; simp⟩
      · rw [upd_ne (fun z => by rw [z, gd7] at eb; cases eb)]; exact tw.rel.sub b u eb
      · exact (tw.rel.slot j s hs).mono (Same.refl _) (fun b u e1 e2 e3 => by rw [upd_ne (fun z => kp j s hs e2 (by rw [e1, z]))]; exact e3) fun _ _ _ g _ => g
      · by_cases z : b = Da
        · rw [z]; exact hDn
        · rw [upd_ne z] at hb; exact tw.ext.dom b hb
      · rw [upd_ne (fun z => by rw [z, hDn] at eb; cases eb)]; exact tw.keep b u eb nb
    | false =>
      simp only [Bool.false_eq_true, if_false] at q3
      refine iteF ?_
      have tt := Step.turned (t.rel) un o4 w4 n.ext n.kept s5
      exact ⟨wipeE eB vs, G5, acc, dacc, rest, t.trans tt, fun j s hj he => wipeE_in hj he, (sg.trans n.ext.same).trans s5.ext.same, s5.keep Da _ hd2 a5, s5.ext.new Da (by rw [hd2]; simp) ge, RpAll.mono (n.ext.same.trans s5.ext.same) racc, q3, ey⟩
  · have e : i = ds.length := by omega
    subst e
    refine .inl ⟨wk.stops H2 gd, ?_⟩
    obtain ⟨env2, G2, acc, dacc, rest, t, un, sg, hacc, gacc, racc, q, ey⟩ := pv
    simp only [List.drop_length, lcF] at q
    cases q
    simp only [List.append_nil] at ey
    subst ey
    exact k H2 G2 acc t un sg hacc gacc racc

def noBor (env : Env') (vs : List Nat) : Bool := vs.all fun i => match env[i]? with
  | some (.bor _) => false
  | _ => true
theorem NoSl.turned {vs : List Nat} {σ σ4 : St} {env eA : Env'} {a : Addr} (h : NoSl σ env a) (o : Out0 vs (wipe σ vs) env σ4 eA) (hn : ¬ IsOwn σ4 eA a) (hb : noBor eA vs = true) : NoSl σ4 eA a := fun j s hs ho z => by
  by_cases m : j ∈ vs
  · cases s with
    | own d => exact hn ⟨j, d, hs, z⟩
    | bor d =>
      unfold noBor at hb
      rw [List.all_eq_true] at hb
      have := hb j m
      rw [hs] at this
      cases this
    | _ => cases ho
  · rw [o.ev j m] at hs
    rw [o.at_ m, wipe_out m] at z
    exact h j s hs ho z
theorem Step.wiped {vs : List Nat} {σ : St} {env e1 : Env'} {H G H1 G1 : Hp} (s : Step W σ env H G e1 H1 G1) : Step W σ env H G (wipeE e1 vs) H1 G1 :=
  ⟨⟨by rw [wipeE_len]; exact s.le.len, fun i t t' a b => by
    rcases wipeE_at b with z | ⟨_, q⟩
    · subst z; simp [LeS]
    · exact s.le.at_ i t t' a q⟩, s.rel.unturn rfl, s.ext, s.keep⟩
def lcF2 (vs vs1 : List Nat) (g : GF) (c : BF) (w1 : IF) (g1 : GF) (c1 : BF) (e : PF) : List D → Env' → Option (List D × Env')
  | [], env => some ([], env)
  | d :: ds, env => do
    let e1 ← g d env
    let (b, e2) ← c e1
    if noBor e1 vs then
      if b then
        let (ds1, e3) ← w1 e2
        let (ys1, e4) ← lcF vs1 g1 c1 e ds1 (wipeE e3 vs1)
        let (ys2, e5) ← lcF2 vs vs1 g c w1 g1 c1 e ds (wipeE e4 vs)
        some (ys1 ++ ys2, e5)
      else lcF2 vs vs1 g c w1 g1 c1 e ds (wipeE e2 vs)
    else none
def pLc2 (vs vs1 : List Nat) (w : IF) (g : GF) (c : BF) (w1 : IF) (g1 : GF) (c1 : BF) (e : PF) : PF := fun env => do
  let (ds, e1) ← w env
  let (ys, e2) ← lcF2 vs vs1 g c w1 g1 c1 e ds (wipeE e1 vs)
  if ys.length ≤ sizeLine then some (.own (.lst ys), e2) else none
theorem lc2_tE {vs vs1 : List Nat} {w w1 : IF} {g g1 : GF} {c c1 : BF} {e : PF} {σ : St} {H : Hp} {Q : VK} (h : tE W (pLc2 vs vs1 w g c w1 g1 c1 e) σ H Q) :
    tLc2 (tI W w) (tGc W vs g) (tT W c) (tI W w1) (tGc W vs1 g1) (tT W c1) (tE W e) vs vs1 σ H Q := by
  obtain ⟨env, G, rv, env', r, p, k⟩ := h
  unfold pLc2 at p
  simp only [Option.bind_eq_bind, Option.bind_eq_some_iff, Prod.exists] at p
  obtain ⟨ds, e1, h1, ys, e2, h2, p⟩ := p
  split at p
  · rename_i hz
    cases p
    refine ⟨env, G, ds, e1, r, h1, fun J H1 G1 s wd Da hD => ?_⟩
    obtain ⟨Gd, Y, wk, hG, hY⟩ := wd
    have gD : G1 Da = none := s.rel.sub.free hD
    have hDn : H Da = none := s.ext.dom Da hD
    have n0 : NR W H1 G1 (.ref Da) (.own (.lst [])) (upd H1 Da (.lst [])) G1 := NR.own s.rel.sub hD (.lst .nil)
    have sw : Step W σ env H G (wipeE e1 vs) (upd H1 Da (.lst [])) G1 := (s.trans (n0.step s.rel)).wiped
    let Pv : Nat → Hp → Prop := fun i H2 => ∃ env2 G2 acc dacc rest, Step W σ env H G env2 H2 G2 ∧ (∀ i s, i ∈ vs → env2[i]? = some s → s = .und) ∧ Same G1 G2 ∧ H2 Da = some (.lst acc) ∧ G2 Da = none ∧ RpAll W G2 acc dacc ∧ lcF2 vs vs1 g c w1 g1 c1 e (ds.drop i) env2 = some (rest, env') ∧ dacc ++ rest = ys
    refine ⟨fun i m H2 => m = ds.length - i ∧ (i ≤ ds.length ∧ Pv i H2), ⟨ds.length, by simp, Nat.zero_le _, wipeE e1 vs, G1, [], [], ys, sw, fun i s hi he => wipeE_in hi he, Same.refl _, upd_same, gD, .nil, by simpa using h2, rfl⟩, fun i m H2 ⟨hm, hi, pv⟩ => ?_⟩
    obtain ⟨env2, G2, acc, dacc, rest, t, un, sg, hacc, gacc, racc, q, ey⟩ := pv
    have gd := hG H2 G2 sg t.rel.sub
    rcases Nat.lt_or_ge i ds.length with hlt | hge
    · refine .inr ⟨wk.goes i H2 hlt gd, Pv (i + 1), fun H' p' => ⟨ds.length - (i + 1), by omega, rfl, hlt, p'⟩, fun x H2' yl => ?_⟩
      have y := wk.yields i H2 x H2' hlt gd yl
      have ei : ds[i]? = some ds[i] := by simp [hlt]
      rw [List.drop_eq_getElem_cons hlt] at q
      simp only [lcF2, Option.bind_eq_bind, Option.bind_eq_some_iff, Prod.exists] at q
      obtain ⟨eA, q1, b, eB, q2, q3⟩ := q
      obtain ⟨G3, n⟩ := hY i H2 x H2' G2 _ y sg t.rel.sub ei
      have r3 : Rel W σ env2 H2' G3 := (n.step t.rel).rel
      refine ⟨env2, G3, _, eA, r3.turn un, n.ok, q1, fun σ4 r4 o4 w4 => ⟨by rw [o4.sl]; exact wipe_idem, ?_⟩⟩
      have ge : G3 Da = none := n.ext.new Da (by rw [hacc]; simp) gacc
      have hd2 : H2' Da = some (.lst acc) := n.kept _ _ hacc
      have wo : ∀ b, IsOwn (wipe σ vs) env2 b → IsOwn σ env2 b := fun b ⟨i, d, h1, h2⟩ => ⟨i, d, h1, (wipe_some h2).1⟩
      have a5 : ¬ IsOwn σ4 eA Da := fun z => t.ownNe r (wo _ (w4 _ z)) hDn
      split at q3
      · rename_i hnb
        refine ⟨eA, G3, b, eB, r4, q2, fun H5 G5 s5 => ?_⟩
        cases b with
        | true =>
          simp only [if_true, Option.bind_eq_some_iff, Prod.exists, Option.some.injEq, Prod.mk.injEq] at q3
          obtain ⟨ds1, e3, q4, ys1, e4, q5, ys2, e5, q6, rfl, rfl⟩ := q3
          refine iteT ⟨eB, G5, ds1, e3, s5.rel, q4, fun J1 H6 G6 s6 wd1 => ?_⟩
          have s56 := s5.trans s6
          have hd6 : H6 Da = some (.lst acc) := s56.keep Da _ hd2 a5
          have gd6 : G6 Da = none := s56.ext.new Da (by rw [hd2]; simp) ge
          have ns : NoSl σ env2 Da := obj_ne r t.le hDn
          have ns4 : NoSl σ4 eA Da := ns.turned o4 a5 hnb
          have ln := congrArg List.length ey
          simp only [List.length_append] at ln
          refine lc_loop (H := unA H2' Da) (r4.unA ns4 ge) unA_same wd1 (s56.unBase.wiped (vs := vs1)) (fun j t hj he => wipeE_in hj he) (Same.refl _) hd6 gd6 (RpAll.mono (n.ext.same.trans s56.ext.same) racc) (by omega) q5 fun H7 G7 acc7 s7 un7 sg7 h7 g7 r7 => ?_
          have tE0 := t.unEnd hDn ns gacc
          have x0 : Ext (unA H2 Da) G2 (unA H2' Da) G3 := ⟨n.ext.same, fun b hb gb => n.ext.new b (fun z => hb (unA_none z)) gb, fun b hb => by
            by_cases z : b = Da
            · rw [z]; exact unA_same
            · rw [unA_ne z] at hb; exact unA_none (n.ext.dom b hb)⟩
          have k0 : Same (unA H2 Da) (unA H2' Da) := fun b u hb => by
            obtain ⟨z1, z2⟩ := unA_some hb
            rw [unA_ne z1]; exact n.kept b u z2
          have tt := Step.turned tE0.rel un o4 w4 x0 k0 s7
          exact ⟨wipeE e4 vs, G7, acc7, dacc ++ ys1, ys2, tE0.trans tt, fun j t hj he => wipeE_in hj he, ((sg.trans n.ext.same).trans s56.ext.same).trans sg7, h7, g7, r7, q6, by rw [← ey]; simp⟩
        | false =>
          simp only [Bool.false_eq_true, if_false] at q3
          refine iteF ?_
          have tt := Step.turned (t.rel) un o4 w4 n.ext n.kept s5
          exact ⟨wipeE eB vs, G5, acc, dacc, rest, t.trans tt, fun j s hj he => wipeE_in hj he, (sg.trans n.ext.same).trans s5.ext.same, s5.keep Da _ hd2 a5, s5.ext.new Da (by rw [hd2]; simp) ge, RpAll.mono (n.ext.same.trans s5.ext.same) racc, q3, ey⟩
      · cases q3
    · have e : i = ds.length := by omega
      subst e
      refine .inl ⟨wk.stops H2 gd, ?_⟩
      simp only [List.drop_length, lcF2] at q
      cases q
      simp only [List.append_nil] at ey
      subst ey
      exact k _ H2 G2 t ⟨Da, _, rfl, hacc, gacc, hDn, .lst racc⟩
  · cases p
end
end Den
end

section
set_option Elab.async false
set_option linter.all false
set_option maxRecDepth 100000
set_option maxHeartbeats 2000000
/-! DenI: what changes an own object: methods of lists, stores at a place, at a key. -/
namespace Den
open PySem L2
section
variable {X : Cx} {W : Pw}

theorem Rel.write {σ : St} {env : Env'} {H G : Hp} {i : Nat} {a : Addr} {o : HO} {d0 d : D} (r : Rel W σ env H G) (hi : env[i]? = some (.own d0)) (hs : σ[i]? = some (some (.ref a))) (g : G a = none) (ob : Ob W G o d) :
    Rel W σ (env.set i (.own d)) (upd H a o) G := by
  have hl : i < env.length := (List.getElem?_eq_some_iff.mp hi).1
  have un : ∀ (m : Nat) (t : SV), (env.set i (.own d))[m]? = some t → t.isObj = true → ∃ t', env[m]? = some t' ∧ t'.isObj = true ∧ (m ≠ i → t' = t) := fun m t hm ht => by
    by_cases e : m = i
    · subst e; exact ⟨_, hi, rfl, fun z => (z rfl).elim⟩
    · rw [List.getElem?_set_ne (Ne.symm e)] at hm; exact ⟨t, hm, ht, fun _ => rfl⟩
  have ne : ∀ (j : Nat) (s : SV) (b : Addr), j ≠ i → env[j]? = some s → s.isObj = true → σ[j]? = some (some (.ref b)) → b ≠ a := fun j s b hj h1 h2 h3 z => by
    subst z; exact hj (r.dist i j d0 s b hi h1 h2 hs h3).symm
  refine ⟨by simp [r.len], fun b u e => ?_, fun j s h => ?_, fun j k d' s b h1 h2 h3 h4 h5 => ?_⟩
  · rw [upd_ne (fun z => by rw [z, g] at e; cases e)]; exact r.sub b u e
  · by_cases e : j = i
    · subst e
      rw [List.getElem?_set_self hl] at h
      cases h
      exact ⟨a, o, hs, upd_same, g, ob⟩
    · rw [List.getElem?_set_ne (Ne.symm e)] at h
      exact (r.slot j s h).mono (Same.refl _) (fun b u e1 e2 e3 => by rw [upd_ne (ne j s b e h e2 e1)]; exact e3) fun _ _ _ q _ => q
  · obtain ⟨t1, q1, q2, _⟩ := un j _ h1 rfl
    obtain ⟨t2, q3, q4, _⟩ := un k s h2 h3
    by_cases ej : j = i
    · subst ej
      exact r.dist j k d0 t2 b hi q3 q4 h4 h5
    · rw [List.getElem?_set_ne (Ne.symm ej)] at h1
      exact r.dist j k d' t2 b h1 q3 q4 h4 h5
theorem Step.write {σ : St} {env : Env'} {H G : Hp} {i : Nat} {a : Addr} {o o0 : HO} {d0 d : D} (r : Rel W σ env H G) (hi : env[i]? = some (.own d0)) (hs : σ[i]? = some (some (.ref a))) (ha : H a = some o0) (g : G a = none) (ob : Ob W G o d) :
    Step W σ env H G (env.set i (.own d)) (upd H a o) G := by
  have hl : i < env.length := (List.getElem?_eq_some_iff.mp hi).1
  refine ⟨⟨by simp, fun j s s' h1 h2 => ?_⟩, r.write hi hs g ob, ⟨Same.refl _, fun _ _ h => h, fun b h => ?_⟩, fun b u e n => ?_⟩
  · by_cases e : j = i
    · subst e
      rw [List.getElem?_set_self hl] at h2
      cases h2
      rw [hi] at h1; cases h1
      rfl
    · rw [List.getElem?_set_ne (Ne.symm e), h1] at h2
      cases h2; exact LeS.refl _
  · by_cases z : b = a
    · subst z; rw [upd_same] at h; cases h
    · rw [upd_ne z] at h; exact h
  · rw [upd_ne (fun z => n ⟨i, d0, hi, by rw [z]; exact hs⟩)]; exact e

/-! ### methods of a list of one's own -/
/-- f: the list, the arguments (frozen); what comes back, the list behind -/
def pMut (i : Nat) (f : D → List D → Option (D × D)) (P : PAF) : PF := fun env => match env[i]? with
  | some (.own (.lst _)) => do
    let (rvs, e1) ← P env
    let ds ← dts rvs
    match e1[i]? with
    | some (.own d) => do
      let (ret, d') ← f d ds
      some (.dat ret, e1.set i (.own d'))
    | _ => none
  | _ => none
def MutD (W : Pw) (r : V → List V → Hp → VK → Prop) (f : D → List D → Option (D × D)) : Prop := ∀ (a : Addr) (o : HO) (d : D) (vs : List V) (ds : List D) (G H : Hp) (Q : VK) (ret d' : D), Same G H → H a = some o → G a = none → Ob W G o d → RpAll W G vs ds → f d ds = some (ret, d') →
  (∀ v o', Rp W G v ret → Ob W G o' d' → Q v (upd H a o')) → r (.ref a) vs H Q
theorem mut_tE {i : Nat} {r : V → List V → Hp → VK → Prop} {f : D → List D → Option (D × D)} (m : MutD W r f) {P : PAF} {σ : St} {H : Hp} {Q : VK} (h : tE W (pMut i f P) σ H Q)
    {K : PySem.W.Frag} (hK : K = W.K) : tBM K "list" r (tVar i) (tA W P) σ H Q := by
  obtain ⟨env, G, rv, env', rl, p, k⟩ := h
  unfold pMut at p
  split at p
  · rename_i d0 hd0
    simp only [Option.bind_eq_bind, Option.bind_eq_some_iff, Prod.exists] at p
    obtain ⟨rvs, e1, h1, ds, h2, p⟩ := p
    split at p
    · rename_i d hd
      simp only [Option.bind_eq_some_iff, Prod.exists, Option.some.injEq, Prod.mk.injEq] at p
      obtain ⟨ret, d', h3, rfl, rfl⟩ := p
      obtain ⟨a, o0, hs, ha0, ga0, ob0⟩ := rl.slot i _ hd0
      refine ⟨.ref a, hs, ?_, env, G, rvs, e1, rl, h1, fun vs H1 G1 s o1 => ?_⟩
      · cases ob0 with
        | lst _ => exact .inl ⟨rfl, _, by rw [hK]; exact SqL.of ha0⟩
      · obtain ⟨G2, s2, q2⟩ := Step.frozen rl s o1 h2
        obtain ⟨b, o, hb, hao, gao, obo⟩ := s2.rel.slot i _ hd
        rw [hs] at hb; cases hb
        refine m a o d vs ds G2 H1 Q ret d' s2.rel.sub hao gao obo q2 h3 fun v o' hv ho' => ?_
        exact k v _ G2 (s2.trans (Step.write s2.rel hd hs hao gao ho')) hv
    · cases p
  · cases p
def appendD : D → List D → Option (D × D)
  | .lst xs, [y] => if xs.length < sizeLine then some (.non, .lst (xs ++ [y])) else none
  | _, _ => none
theorem mutd_append : MutD W rAppend appendD := by
  intro a o d vs ds G H Q ret d' s ha ga ob rs hf k
  unfold appendD at hf
  split at hf
  · split at hf
    · rename_i hz
      cases hf
      cases ob with
      | lst r =>
        cases rs with
        | cons hv t =>
          cases t
          exact ⟨a, _, _, rfl, rfl, ha, by rw [r.length]; exact hz, k _ _ .non (.lst (r.append (.cons hv .nil)))⟩
    · cases hf
  · cases hf
def extendD : D → List D → Option (D × D)
  | .lst xs, [.lst ys] => if xs.length + ys.length ≤ sizeLine then some (.non, .lst (xs ++ ys)) else none
  | _, _ => none
theorem mutd_extend : MutD W rExtend extendD := by
  intro a o d vs ds G H Q ret d' s ha ga ob rs hf k
  unfold extendD at hf
  split at hf
  · split at hf
    · rename_i hz
      cases hf
      cases ob with
      | lst r =>
        cases rs with
        | cons hv t =>
          cases t
          cases hv with
          | lst hb rb => exact ⟨a, _, _, _, rfl, rfl, ha, s _ _ hb, by rw [r.length, rb.length]; exact hz, k _ _ .non (.lst (r.append rb))⟩
    · cases hf
  · cases hf
/-- pe_bm's own looks, of plain arguments -/
theorem bm_few {es : List Expr} {env : Env} {pos : Pos} (h : es.all notStar = true) (hl : es.length < 30) :
    ((backTo pos (starEach es env)).all (fun x => !x.1) && (backToKw pos (keywordEach [] env)).all (fun x => x.1.isSome) && decide (es.length + ([] : List Keyword).length + (if ([] : List Keyword).isEmpty then 0 else 1) < 30)) = true := by
  have h1 : (backTo pos (starEach es env)).all (fun x => !x.1) = true := by
    clear hl
    induction es with
    | nil => rfl
    | cons e es ih =>
      rw [List.all_cons, Bool.and_eq_true] at h
      rw [star_plain h.1]
      show (backTo pos (starEach es env)).all (fun x => !x.1) = true
      exact ih h.2
  rw [h1]
  have h2 : es.length + ([] : List Keyword).length + (if ([] : List Keyword).isEmpty then 0 else 1) < 30 := by simpa using hl
  simp only [Bool.true_and, decide_eq_true h2, Bool.and_true]
  rfl
/-- the base of an attribute that is no call -/
def notCall : Expr → Bool
  | .Call .. => false
  | _ => true
theorem base_plain {o : Expr} {n : Str} {env : Env} (h : notCall o = true) : attributeBase o n env (eval o env) = eval o env := by
  cases o <;> first | rfl | cases h
/-- without arguments -/
def pMut0 (i : Nat) (f : D → List D → Option (D × D)) : PF := pMut i f aNil
theorem mut0_tE {i : Nat} {r : V → List V → Hp → VK → Prop} {f : D → List D → Option (D × D)} (m : MutD W r f) {σ : St} {H : Hp} {Q : VK} (h : tE W (pMut0 i f) σ H Q) {K : PySem.W.Frag} (hK : K = W.K) : tBM0 K "list" r (tVar i) σ H Q := by
  obtain ⟨v, h1, h2, h3⟩ := mut_tE m h hK
  obtain ⟨env, G, rvs, env', rl, p, k⟩ := h3
  cases p
  exact ⟨v, h1, h2, k [] H G (Step.refl rl) .nil⟩
def clearD : D → List D → Option (D × D)
  | .lst _, [] => some (.non, .lst [])
  | _, _ => none
theorem mutd_clear : MutD W rClear clearD := by
  intro a o d vs ds G H Q ret d' s ha ga ob rs hf k
  unfold clearD at hf
  split at hf
  · cases hf
    cases rs
    cases ob with
    | lst r => exact ⟨a, _, rfl, rfl, ha, k _ _ .non (.lst .nil)⟩
  · cases hf
def reverseD : D → List D → Option (D × D)
  | .lst xs, [] => some (.non, .lst xs.reverse)
  | _, _ => none
theorem mutd_reverse : MutD W rReverse reverseD := by
  intro a o d vs ds G H Q ret d' s ha ga ob rs hf k
  unfold reverseD at hf
  split at hf
  · cases hf
    cases rs
    cases ob with
    | lst r => exact ⟨a, _, rfl, rfl, ha, k _ _ .non (.lst r.reverse)⟩
  · cases hf

/-! ### own[i] = frozen data -/
/-- name[e] as a target -/
def gIx (i : Nat) (P : PF) : GF := fun d env => match P env with
  | some (.dat (.int k), e1) => (match env[i]?, e1[i]? with
    | some (.own (.lst _)), some (.own (.lst xs)) => (ixN xs.length k).map fun j => e1.set i (.own (.lst (xs.set j d)))
    | _, _ => none)
  | _ => none
theorem ix_tG {i np : Nat} {P : PF} {v : V} {σ : St} {H : Hp} {Q : St → Hp → Prop} (hkeep : ∀ {env e1 : Env'} {rv : RV}, P env = some (rv, e1) → ∀ (j : Nat) (d : D), env[j]? = some (.own d) → ∃ d', e1[j]? = some (.own d')) (h : tG W np (gIx i P) v σ H Q) : gSub (tVar i) (tE W P) rSetL v σ H Q := by
  obtain ⟨env, G, d, env', r, q, p, k⟩ := h
  unfold gIx at p
  split at p
  · rename_i kk e1 hP
    split at p
    · rename_i xs0 xs h1 h2
      simp only [Option.map_eq_some_iff] at p
      obtain ⟨j, hj, rfl⟩ := p
      obtain ⟨a, o, ha, hao, gao, obo⟩ := r.slot i _ h1
      refine ⟨.ref a, ha, tE_one r hP fun y H1 G1 s o1 => ?_⟩
      cases o1
      obtain ⟨b, o2, hb, hbo, gbo, obb⟩ := s.rel.slot i _ h2
      rw [ha] at hb; cases hb
      cases obb with
      | lst rr =>
        refine ⟨a, _, kk, j, rfl, rfl, hbo, by rw [rr.length]; exact hj, ?_⟩
        have sw := s.trans (Step.write s.rel h2 ha hbo gbo (.lst (RpAll.set (Rp.mono s.ext.same q) j rr)))
        refine k _ _ _ (sw.toS fun m d' hm he => ?_)
        obtain ⟨d2, hd2⟩ := hkeep hP m d' he
        by_cases z : i = m
        · subst z
          exact ⟨_, List.getElem?_set_self (List.getElem?_eq_some_iff.mp h2).1⟩
        · exact ⟨d2, by rw [List.getElem?_set_ne z]; exact hd2⟩
    · cases p
  · cases p

theorem PSet.or {t t' : TSet} (h : PSet X t) (h' : PSet X t') : PSet X (fun o i v H Q => t o i v H Q ∨ t' o i v H Q) :=
  fun pins s σ H o i v ov iv u Q I ro ri rv q => q.elim (h pins s σ H o i v ov iv u Q I ro ri rv) (h' pins s σ H o i v ov iv u Q I ro ri rv)
def putKD (kd : List (Key × D)) (k : Key) (d : D) : List (Key × D) := if hasK kd k = true then kd.map (fun kv => if kv.1 = k then (kv.1, d) else kv) else kd ++ [(k, d)]
theorem RpK.length {G : Hp} : ∀ {kv : List (Key × V)} {kd : List (Key × D)}, RpK W G kv kd → kv.length = kd.length
  | _, _, .nil => rfl
  | _, _, .cons _ r => by simp [RpK.length r]
theorem RpK.mapSet {G : Hp} {k : Key} {v : V} {d : D} (h : Rp W G v d) : ∀ {kv : List (Key × V)} {kd : List (Key × D)}, RpK W G kv kd → RpK W G (kv.map fun p => if p.1 = k then (p.1, v) else p) (kd.map fun p => if p.1 = k then (p.1, d) else p)
  | _, _, .nil => .nil
  | (k0, _) :: _, _, .cons a r => by
    rw [List.map_cons, List.map_cons]
    by_cases e : k0 = k
    · simp only [e, if_true]
      exact .cons h (RpK.mapSet h r)
    · simp only [e, if_false]
      exact .cons a (RpK.mapSet h r)
theorem RpK.append {G : Hp} : ∀ {kv kv2 : List (Key × V)} {kd kd2 : List (Key × D)}, RpK W G kv kd → RpK W G kv2 kd2 → RpK W G (kv ++ kv2) (kd ++ kd2)
  | _, _, _, _, .nil, s => s
  | _, _, _, _, .cons a r, s => .cons a (RpK.append r s)
theorem RpK.put {G : Hp} {k : Key} {v : V} {d : D} (h : Rp W G v d) {kv : List (Key × V)} {kd : List (Key × D)} (r : RpK W G kv kd) : RpK W G (putK kv k v) (putKD kd k d) := by
  unfold putK putKD
  rw [hasK_ok r]
  split
  · exact r.mapSet h
  · exact r.append (.cons h .nil)
/-- name[e] as a target: lists, dicts -/
def gIx2 (i : Nat) (P : PF) : GF := fun d env => match env[i]?, P env with
  | some (.own _), some (.dat kd, e1) => if ownB env.length env e1 then (match e1[i]? with
    | some (.own (.lst xs)) => (match kd with
      | .int k => (ixN xs.length k).map fun j => e1.set i (.own (.lst (xs.set j d)))
      | _ => none)
    | some (.own (.dic kvs)) => (match keyOf kd with
      | some k => if kvs.length < sizeLine then some (e1.set i (.own (.dic (putKD kvs k d)))) else none
      | none => none)
    | _ => none) else none
  | _, _ => none
def rSetA : TSet := fun o i v H Q => rSetL o i v H Q ∨ rSetD o i v H Q
theorem ix2_tG {i np : Nat} {P : PF} {v : V} {σ : L2.St} {H : Hp} {Q : L2.St → Hp → Prop} (h : tG W np (gIx2 i P) v σ H Q) : gSub (tVar i) (tE W P) rSetA v σ H Q := by
  obtain ⟨env, G, d, env', r, q, p, k⟩ := h
  unfold gIx2 at p
  split at p
  · rename_i d0 kd e1 h1 hP
    obtain ⟨a, o0, ha, _⟩ := r.slot i _ h1
    split at p
    · rename_i hb
      have hk := ownB_ok hb
      have wr : ∀ {o o2 : HO} {d1 d2 : D} {H1 G1 : Hp}, Step W σ env H G e1 H1 G1 → e1[i]? = some (.own d1) → H1 a = some o → G1 a = none → Ob W G1 o2 d2 → env' = e1.set i (.own d2) → Q σ (upd H1 a o2) := fun {o o2 d1 d2 H1 G1} s h2 hbo gbo ob he => by
        subst he
        have sw := s.trans (Step.write s.rel h2 ha hbo gbo ob)
        refine k _ _ _ (sw.toS fun m d' hm he => ?_)
        have hl : m < env.length := (List.getElem?_eq_some_iff.mp he).1
        obtain ⟨d3, hd3⟩ := hk m d' hl he
        by_cases z : i = m
        · subst z
          exact ⟨_, List.getElem?_set_self (List.getElem?_eq_some_iff.mp h2).1⟩
        · exact ⟨d3, by rw [List.getElem?_set_ne z]; exact hd3⟩
      split at p
      · rename_i xs h2
        split at p
        · rename_i kk
          simp only [Option.map_eq_some_iff] at p
          obtain ⟨j, hj, he⟩ := p
          refine ⟨.ref a, ha, tE_one r hP fun y H1 G1 s o1 => ?_⟩
          cases o1
          obtain ⟨b, o2, hb, hbo, gbo, obb⟩ := s.rel.slot i _ h2
          rw [ha] at hb; cases hb
          cases obb with
          | lst rr => exact .inl ⟨a, _, kk, j, rfl, rfl, hbo, by rw [rr.length]; exact hj, wr s h2 hbo gbo (.lst (RpAll.set (Rp.mono s.ext.same q) j rr)) he.symm⟩
        · cases p
      · rename_i kvs h2
        split at p
        · rename_i ky hky
          split at p
          · rename_i hz
            have he := (Option.some.inj p).symm
            refine ⟨.ref a, ha, tE_one r hP fun y H1 G1 s o1 => ?_⟩
            have ey := keyOf_ok (Vw.rp (H := H1) (show Rp W G1 y kd from o1)) hky
            subst ey
            obtain ⟨b, o2, hb, hbo, gbo, obb⟩ := s.rel.slot i _ h2
            rw [ha] at hb; cases hb
            cases obb with
            | dic rr => exact .inr ⟨a, _, rfl, DPut.k hbo (by rw [rr.length]; exact hz), wr s h2 hbo gbo (.dic (RpK.put (Rp.mono s.ext.same q) rr)) he⟩
          · cases p
        · cases p
      · cases p
    · cases p
  · cases p
/-! ### {} -/
def pDnew : PF := fun env => some (.own (.dic []), env)
theorem pd_dnew {pos : Pos} : PD X W pDnew (.Dict [] [] pos) := PE.weak pe_dnewK fun σ H Q ⟨env, G, rv, env', r, p, k⟩ => by
  cases p
  intro q hq
  have n := NR.own (W := W) (G := G) r.sub hq (Ob.dic (W := W) (G := G) .nil)
  exact k _ _ _ (n.step r) (n.rv fun _ h => h)
end
end Den
end

section
set_option Elab.async false
set_option linter.all false
set_option maxRecDepth 100000
set_option maxHeartbeats 2000000
/-! DenJ: defs where no repr runs (their promises, their calls). -/
namespace Den
open PySem PySem.Spec PyProof.Rows
open L2 hiding St

/-- a def's promise, where no object is just being shown -/
structure FnG (P : Program) (w : World) (K : PySem.W.Frag) (mg : Str → Option Value) (base : Heap) (k : Nat) (f : Addr) (fd : FuncData) (ps : List Str) (sp : Sp) : Prop where
  len : ∀ vs H Q E, sp vs H Q E → vs.length = ps.length
  run : ∀ (A : Around) (outer : List Env) (s : Shared) (H : Hp) (args : Args) (us : List Value) (vs : List V) (Q : VK) (E : XK),
    A.guards = some [] → Room k A → Env0 P w K mg base A outer s H → BindsTo s fd args (ps.zip us) → Vals vs us → sp vs H Q E →
    codeAny (model P w) A (.call (.ref f) args) (CR CX0 outer P w H s Q E) s
theorem guards_deeper {A : Around} {env : Env} (h : A.guards = some []) : (A.deeper env).guards = some [] := by
  unfold Around.deeper
  simpa using h
theorem fng_of {P : Program} {w : World} {K : PySem.W.Frag} {mg : Str → Option Value} {base : Heap} {k : Nat} {f : Addr} {name qual : Str} {params : Arguments} {body : List Stmt} {scope : Scope}
    {dV kV doc pm cdv ct oc : Value} {an od : Option Addr} {osl : Array (Option Value)} {N ps : List Str} {sp : Sp}
    (lk : K.lookup f = some ⟨oc, od, .func (PySem.W.fnOf name qual params body scope dV kV doc pm an cdv ct), osl⟩)
    (hcd : PySem.W.codeIn K cdv qual = true) (S : FnScope N ps scope)
    (hlen : ∀ vs H Q E, sp vs H Q E → vs.length = ps.length)
    (hb : ∀ (A : Around) (outer : List Env) (s : Shared) (H : Hp) (vs : List V) (Q : VK) (E : XK),
      (A.deeper (envOfC qual scope s.heap.objs.size f cdv)).guards = some [] → Room k (A.deeper (envOfC qual scope s.heap.objs.size f cdv)) → sp vs H Q E →
      ∃ t, PSs (cxOf CX0 P w K mg base N qual scope f cdv A outer s H E) body t ∧
        t { nx := fun _ H' => Q .non H', rt := Q } (start N vs) H) :
    FnG P w K mg base (k + 1) f (PySem.W.fnOf name qual params body scope dV kV doc pm an cdv ct) ps sp := by
  constructor
  · exact hlen
  · intro A outer s H args us vs Q E hg hr e0 hbn r hsp
    have keepK := e0.mod.kin.keeps (fun b o e => (e0.bs b o e).1)
    have lim := e0.mod.nolimit.keeps (fun b o e => (e0.bs b o e).1)
    have kinds : ∀ y ∈ ps.zip us, scope.names.lookup y.1 = some .local ∨
        (scope.names.lookup y.1 = some .cell ∧ ((cellsFrom (s.heap.objs.size + 1) scope.names []).lookup y.1).isSome = true) := by
      rintro ⟨n, v⟩ hy
      rcases S.par n (List.of_mem_zip hy).1 with q | q
      · left; exact q
      · right; exact ⟨q, PySem.W.cellsFrom_some _ _ _ (.inl q)⟩
    apply codeAny_call_function hr.depth (keepK _ _ lk) rfl S.co S.gen rfl (PySem.W.codeRec_of keepK hcd)
    apply hbn
    apply wpAny_newFunctionEnv_cells S.kind kinds
    intro env he s1 x
    subst he
    refine ⟨lim.keeps x.toInCall.keep, codeAny_func ?_⟩
    obtain ⟨t, ht, hq⟩ := hb A outer s H vs Q E (guards_deeper hg) (hr.deeper _) hsp
    have I : Inv (cxOf CX0 P w K mg base N qual scope f cdv A outer s H E) [] (start N vs) H s1 :=
      inv_start S hr.hd e0 (hlen _ _ _ _ hsp) r x
    apply wpAny_mono (ht.run [] s1 (start N vs) H _ I hq)
    · intro fl s' hs
      have fin {σ' : L2.St} {H' : Hp} {v : V} {u : Value} (J : Inv (cxOf CX0 P w K mg base N qual scope f cdv A outer s H E) [] σ' H' s') (rv : RelV v u) (q : Q v H') : CE outer P w H s Q u s' :=
        ⟨v, H', J.os, J.bare, J.base, J.hok, rv, q⟩
      cases fl with
      | ret u =>
        obtain ⟨v, σ', H', J, rv, q⟩ := hs
        exact fin J rv q
      | next =>
        obtain ⟨σ', H', J, q⟩ := hs
        exact fin (v := .non) (u := .none) J rfl q
      | brk => obtain ⟨_, _, _, q⟩ := hs; exact q.elim
      | cont => obtain ⟨_, _, _, q⟩ := hs; exact q.elim
    · intro e s' hs; exact hs

section
variable {X : Cx} {k : Nat} {f C : Addr} {fd : FuncData} {ps : List Str} {sp : Sp}
/-- a promise at a call by values -/
theorem FnG.callR (F : FnG X.prog X.w X.K X.mg X.base k f fd ps sp) (hg : X.A.guards = some []) (hr : Room k X.A) {ds : List Value} {dvs : List V} (hb : Binds X.K fd ps ds) (hd : Vals dvs ds) (E : XK) :
    CallR X (.ref f) (fun vs H Q => sp (vs ++ dvs) H Q E) := by
  intro pins s σ H vs us Q I r h
  have rr : Vals (vs ++ dvs) (us ++ ds) := r.append hd
  have ll : (us ++ ds).length = ps.length := rr.length ▸ F.len _ _ _ _ h
  apply wpAny_call
  apply codeAny_mono (F.run X.A X.stack s H ⟨us, []⟩ (us ++ ds) (vs ++ dvs) Q E hg hr I.env0 (hb s us I.kIn ll) rr h)
  intro res s' hq
  cases res with
  | error e => exact hq.elim
  | ok fl =>
    cases fl with
    | ret u => exact I.after hq
    | next => exact hq.elim
    | brk => exact hq.elim
    | cont => exact hq.elim
/-- .. with keywords: g says how the arguments lie -/
theorem FnG.callRK (F : FnG X.prog X.w X.K X.mg X.base k f fd ps sp) (hg : X.A.guards = some []) (hr : Room k X.A) {ks : List Str} {g : List Value → List Value → List Value} {gV : List V → List V → List V}
    (hb : KBinds X.K fd ps ks g gV) (E : XK) : CallRK X (.ref f) ks (fun vs zs H Q => sp (gV vs zs) H Q E) := by
  intro pins s σ H vs zs us ws Q I r rz h
  have rr := hb.rel r rz
  have ll : (g us ws).length = ps.length := rr.length ▸ F.len _ _ _ _ h
  apply wpAny_call
  apply codeAny_mono (F.run X.A X.stack s H ⟨us, ks.zip ws⟩ (g us ws) (gV vs zs) Q E hg hr I.env0 (hb.to s us ws I.kIn ll) rr h)
  intro res s' hq
  cases res with
  | error e => exact hq.elim
  | ok fl =>
    cases fl with
    | ret u => exact I.after hq
    | next => exact hq.elim
    | brk => exact hq.elim
    | cont => exact hq.elim
theorem guards_make {A : Around} {us : List Value} {kw : List (Str × Value)} (h : A.guards = some []) : (A.under (.builtin "type.__call__" ⟨.ref C :: us, kw⟩)).guards = some [] := by
  have e : (Code.builtin "type.__call__" ⟨.ref C :: us, kw⟩).guards = [] := by
    have q : guardIds.contains "type.__call__" = false := by decide +kernel
    unfold Code.guards Code.isGuard
    show (if guardIds.contains "type.__call__" = true then _ else _) = []
    rw [q]; rfl
  unfold Around.under
  simp only [e]
  simpa [pushGuards] using h
/-- a new instance: the class called by values -/
theorem FnG.makeR (M : Mk X.K C f) (F : FnG X.prog X.w X.K X.mg X.base k f fd ps sp) (hg : X.A.guards = some []) (hr : Room (k + 1) X.A) {ds : List Value} {dvs : List V} (hb : Binds X.K fd ps ds) (hd : Vals dvs ds) (E : XK) :
    CallR X (.ref C) (fun vs H Q => ∀ x dx, H x = none → H dx = none → dx ≠ x → sp (.ref x :: (vs ++ dvs)) (upd (upd H dx (.own x)) x (.ins C dx [])) (fun v H2 => v = .non ∧ Q (.ref x) H2) E) := by
  intro pins s σ H vs us Q I r h
  have n0 : H s.heap.objs.size = none := I.hok.fresh (Nat.le_refl _)
  have n1 : H (s.heap.objs.size + 1) = none := I.hok.fresh (Nat.le_succ _)
  have hq := h (s.heap.objs.size + 1) s.heap.objs.size n1 n0 (Nat.ne_of_lt (Nat.lt_succ_self _))
  have J := Inv.made (C := C) I
  have rr : Vals (V.ref (s.heap.objs.size + 1) :: (vs ++ dvs)) (Value.ref (s.heap.objs.size + 1) :: (us ++ ds)) := .cons rfl (r.append hd)
  have ll : (Value.ref (s.heap.objs.size + 1) :: us ++ ds).length = ps.length := by
    have e := rr.length
    rw [F.len _ _ _ _ hq] at e
    exact e.symm
  apply wpAny_call
  apply make_map (f := f) I.kIn M.makes M.init (beq_iff_eq.mp M.fn)
  apply codeAny_mono (F.run _ X.stack _ _ ⟨.ref (s.heap.objs.size + 1) :: us, []⟩ (.ref (s.heap.objs.size + 1) :: (us ++ ds)) _ _ E (guards_make hg) (hr.make C us []) (J.env0.make C us [])
    (hb _ (.ref (s.heap.objs.size + 1) :: us) J.kIn ll) rr hq)
  intro res s' hq'
  cases res with
  | error e => exact hq'.elim
  | ok fl =>
    cases fl with
    | ret u =>
      obtain ⟨v, H', I3, rv, ev, q3⟩ := J.after hq'
      subst ev
      exact ⟨rv, .ref (s.heap.objs.size + 1), H', I3, rfl, q3⟩
    | next => exact hq'.elim
    | brk => exact hq'.elim
    | cont => exact hq'.elim
end

/-! ### calls of what a global name holds -/
section
variable {X : Cx} {x : Str} {p pos : Pos} {a : Addr} {e : Expr} {es : List Expr} {t : TA} {r : List V → Hp → VK → Prop}
theorem pe_callV (hc : CallR X (.ref a) r) (hg : Gl X x) (hm : X.mg x = some (.ref a)) (hk : PySem.W.keepIn X.K (.ref a) = true) (ha : PA X (e :: es) t) (hs : (e :: es).all notStar = true)
    (hdb : (x == ("__debug__" : Str)) = false) : PE X (.Call (.Name x p) (e :: es) [] pos) (tCB r t) := by
  have h2 := hs
  rw [List.all_cons, Bool.and_eq_true] at h2
  constructor
  intro pins s σ H Q I h
  apply wpAny_Call_Name_kw
  apply ld_glob I hg hm ?_ hdb
  apply PySem.W.callWith_K (h₀ := X.base) I.ok.mod.kin hk ?_ (star_plain h2.1) (noStars h2.2)
  exact thn (ha.run pos pins s σ H _ I h) fun us s1 ⟨vs, H1, I1, r1, q1⟩ => ⟨I1.kIn, hc pins s1 σ H1 vs us Q I1 r1 q1⟩
theorem pe_callV0 (hc : CallR X (.ref a) r) (hg : Gl X x) (hm : X.mg x = some (.ref a)) (hk : PySem.W.keepIn X.K (.ref a) = true)
    (hdb : (x == ("__debug__" : Str)) = false) : PE X (.Call (.Name x p) [] [] pos) (tCB r tNil) := by
  constructor
  intro pins s σ H Q I h
  apply wpAny_Call_Name_kw
  apply ld_glob I hg hm ?_ hdb
  exact PySem.W.callWith_K0 I.kIn hk (hc pins s σ H [] [] Q I .nil h)
end
end Den
end

section
set_option Elab.async false
set_option linter.all false
set_option maxRecDepth 100000
set_option maxHeartbeats 2000000
/-! DenK: calls of the program's own defs, by what they make of data. -/
namespace Den
open PySem L2
section
variable {X : Cx} {W : Pw}

/-- what a def makes of its parameters: a value, its parameters behind it -/
abbrev DF := List SV → Option (RV × List SV)
def spF (W : Pw) (n : Nat) (F : DF) : Sp := fun vs H Q _ => vs.length = n ∧ tE W F (vs.map some) H Q

/-- the callee's parameters; io: which are changed in place -/
def passE (env : Env') : List Bool → List RV → Option (List SV)
  | [], [] => some []
  | true :: io, .slot j :: rvs => (match env[j]? with
    | some (.own d) => (passE env io rvs).map (.own d :: ·)
    | _ => none)
  | true :: io, .own d :: rvs => (passE env io rvs).map (.own d :: ·)
  | false :: io, .dat d :: rvs => (passE env io rvs).map (.dat d :: ·)
  | false :: io, .own d :: rvs => (passE env io rvs).map (.dat d :: ·)
  | false :: io, .slot j :: rvs => (match (RV.slot j).cont env with
    | some d => (passE env io rvs).map (.bor d :: ·)
    | _ => none)
  | _, _ => none
/-- the slots that are passed -/
def slotsOf : List RV → List Nat
  | [] => []
  | .slot j :: rvs => j :: slotsOf rvs
  | _ :: rvs => slotsOf rvs
/-- a slot that is passed to be changed is passed once -/
def onceB : List Bool → List RV → List Nat → Bool
  | true :: io, .slot j :: rvs, seen => !(seen.contains j) && !(slotsOf rvs).contains j && onceB io rvs (j :: seen)
  | false :: io, .slot j :: rvs, seen => onceB io rvs (j :: seen)
  | _ :: io, _ :: rvs, seen => onceB io rvs seen
  | _, _, _ => true
/-- the slots behind the call -/
def backE : Env' → List Bool → List RV → List SV → Option Env'
  | env, [], [], [] => some env
  | env, true :: io, .slot j :: rvs, .own d :: outs => backE (env.set j (.own d)) io rvs outs
  | env, true :: io, .own _ :: rvs, .own _ :: outs => backE env io rvs outs
  | env, false :: io, _ :: rvs, _ :: outs => backE env io rvs outs
  | _, _, _, _ => none

theorem passE_len {env : Env'} : ∀ {io : List Bool} {rvs : List RV} {pe : List SV}, passE env io rvs = some pe → io.length = rvs.length ∧ pe.length = rvs.length := by
  intro io rvs
  induction io generalizing rvs with
  | nil =>
    intro pe h
    cases rvs with
    | nil => cases h; exact ⟨rfl, rfl⟩
    | cons r rs => simp [passE] at h
  | cons b io ih =>
    intro pe h
    cases rvs with
    | nil => cases b <;> simp [passE] at h
    | cons r rs =>
      have fin : ∀ s, (passE env io rs).map (s :: ·) = some pe → (b :: io).length = (r :: rs).length ∧ pe.length = (r :: rs).length := fun s hs => by
        simp only [Option.map_eq_some_iff] at hs
        obtain ⟨q, h1, rfl⟩ := hs
        obtain ⟨h2, h3⟩ := ih h1
        exact ⟨by simp [h2], by simp [h3]⟩
      cases b <;> cases r <;> simp only [passE] at h
      · exact fin _ h
      · exact fin _ h
      · split at h
        · exact fin _ h
        · cases h
      · cases h
      · exact fin _ h
      · split at h
        · exact fin _ h
        · cases h
/-- what a parameter is made of -/
def PassAt (env : Env') (b : Bool) (rv : RV) (s : SV) : Prop := match b, rv with
  | true, .slot j => ∃ d, env[j]? = some (.own d) ∧ s = .own d
  | true, .own d => s = .own d
  | true, .dat _ => False
  | false, .dat d => s = .dat d
  | false, .own d => s = .dat d
  | false, .slot j => ∃ d, (RV.slot j).cont env = some d ∧ s = .bor d
theorem passE_at {env : Env'} : ∀ {io : List Bool} {rvs : List RV} {pe : List SV} (i : Nat) (b : Bool) (rv : RV) (s : SV), passE env io rvs = some pe → io[i]? = some b → rvs[i]? = some rv → pe[i]? = some s → PassAt env b rv s := by
  intro io
  induction io with
  | nil => intro rvs pe i b rv s h h1; simp at h1
  | cons b0 io ih =>
    intro rvs pe i b rv s h h1 h2 h3
    cases rvs with
    | nil => simp at h2
    | cons r rs =>
      have fin : ∀ s0, PassAt env b0 r s0 → (passE env io rs).map (s0 :: ·) = some pe → PassAt env b rv s := fun s0 q hs => by
        simp only [Option.map_eq_some_iff] at hs
        obtain ⟨pe', e1, rfl⟩ := hs
        cases i with
        | zero => simp at h1 h2 h3; subst h1; subst h2; subst h3; exact q
        | succ i => exact ih i b rv s e1 (by simpa using h1) (by simpa using h2) (by simpa using h3)
      cases b0 <;> cases r <;> simp only [passE] at h
      · exact fin _ rfl h
      · exact fin _ rfl h
      · split at h
        · rename_i d hd; exact fin _ ⟨d, hd, rfl⟩ h
        · cases h
      · cases h
      · exact fin _ rfl h
      · split at h
        · rename_i d hd; exact fin _ ⟨d, hd, rfl⟩ h
        · cases h
/-- own temporaries that are not changed by the callee are let go of -/
theorem RvsOk.freezeIo {σ : St} {env : Env'} : ∀ {io : List Bool} {vs : List V} {rvs : List RV} {H H' G' : Hp}, RvsOk W σ H H' G' vs rvs → Rel W σ env H' G' → (∀ b, IsOwn σ env b → H b ≠ none) → io.length = rvs.length →
    ∃ G2, Same G' G2 ∧ Rel W σ env H' G2 ∧ (∀ b, G' b = none → (H b ≠ none ∨ ∀ (i : Nat) (d : D), rvs[i]? = some (RV.own d) → vs[i]? ≠ some (V.ref b)) → G2 b = none) ∧
      (∀ (i : Nat) (d : D) (a : Addr), io[i]? = some true → rvs[i]? = some (RV.own d) → vs[i]? = some (.ref a) → G2 a = none) ∧
      ∀ (i : Nat) (rv : RV) (d : D) (v : V), io[i]? = some false → rvs[i]? = some rv → rv.dt = some d → vs[i]? = some v → Rp W G2 v d
  | io, _, _, H, H', G', .nil, r, _, hl => ⟨G', Same.refl _, r, fun _ h _ => h, fun i d a h1 h2 => by simp at h2, fun i rv d v h1 h2 => by simp at h2⟩
  | [], _, _, H, H', G', .cons _ _ _, r, _, hl => by simp at hl
  | b :: io, _, _, H, H', G', .cons (v := v) (rv := rv) (vs := vs) (rvs := rvs) h n rr, r, hn, hl => by
    obtain ⟨G2, s2, r2, k2, t2, q2⟩ := RvsOk.freezeIo (io := io) rr r hn (by simpa using hl)
    -- nothing is done at this place
    have skip : (b = true → ∀ d a, rv = RV.own d → v = .ref a → G2 a = none) → (b = false → ∀ d, rv.dt = some d → Rp W G2 v d) →
        ∃ G2, Same G' G2 ∧ Rel W σ env H' G2 ∧ (∀ c, G' c = none → (H c ≠ none ∨ ∀ (i : Nat) (d : D), (rv :: rvs)[i]? = some (RV.own d) → (v :: vs)[i]? ≠ some (V.ref c)) → G2 c = none) ∧
          (∀ (i : Nat) (d : D) (a : Addr), (b :: io)[i]? = some true → (rv :: rvs)[i]? = some (RV.own d) → (v :: vs)[i]? = some (.ref a) → G2 a = none) ∧
          ∀ (i : Nat) (rv' : RV) (d : D) (u : V), (b :: io)[i]? = some false → (rv :: rvs)[i]? = some rv' → rv'.dt = some d → (v :: vs)[i]? = some u → Rp W G2 u d := fun ht hf => by
      refine ⟨G2, s2, r2, fun c hc hh => k2 c hc (hh.imp id fun z i d e => z (i + 1) d (by simpa using e)), fun i d a h1 h2 h3 => ?_, fun i rv' d u h1 h2 h3 h4 => ?_⟩
      · cases i with
        | zero => simp at h1 h2 h3; exact ht h1 d a h2 h3
        | succ i => exact t2 i d a (by simpa using h1) (by simpa using h2) (by simpa using h3)
      · cases i with
        | zero => simp at h1 h2 h4; subst h2; subst h4; exact hf h1 d h3
        | succ i => exact q2 i rv' d u (by simpa using h1) (by simpa using h2) h3 (by simpa using h4)
    cases rv with
    | dat d => exact skip (fun _ d a e => by cases e) fun _ d' e => by cases e; exact Rp.mono s2 h
    | slot j => exact skip (fun _ d a e => by cases e) fun _ d' e => by cases e
    | own d =>
      obtain ⟨a, o, rfl, ha, ga, h0, ob⟩ := h
      have na : ¬ IsOwn σ env a := fun z => hn a z h0
      have g2 : G2 a = none := k2 a ga (.inr fun i e he => n d e i rfl he)
      cases b with
      | true => exact skip (fun _ d' a' _ e => by cases e; exact g2) fun z => by cases z
      | false =>
        obtain ⟨r3, q3⟩ := r2.freeze1 ha g2 (ob.mono s2) na
        have sg : Same G2 (upd G2 a o) := same_upd g2
        refine ⟨upd G2 a o, s2.trans sg, r3, fun c hc hh => ?_, fun i d' a' h1 h2 h3 => ?_, fun i rv' d' u h1 h2 h3 h4 => ?_⟩
        · have ne : c ≠ a := fun z => by
            subst z
            rcases hh with z | z
            · exact z h0
            · exact z 0 d (by simp) (by simp)
          rw [upd_ne ne]
          exact k2 c hc (hh.imp id fun z i d e => z (i + 1) d (by simpa using e))
        · cases i with
          | zero => simp at h1
          | succ i =>
            have e1 : rvs[i]? = some (RV.own d') := by simpa using h2
            have e2 : vs[i]? = some (.ref a') := by simpa using h3
            have ne : a' ≠ a := fun z => n d d' i rfl e1 (by rw [e2, z])
            rw [upd_ne ne]
            exact t2 i d' a' (by simpa using h1) e1 e2
        · cases i with
          | zero => simp at h2 h4; subst h2; subst h4; cases h3; exact q3
          | succ i => exact Rp.mono sg (q2 i rv' d' u (by simpa using h1) (by simpa using h2) h3 (by simpa using h4))
theorem slotsOf_mem {j : Nat} : ∀ {rvs : List RV} {i : Nat}, rvs[i]? = some (RV.slot j) → j ∈ slotsOf rvs
  | [], _, h => by simp at h
  | r :: rs, 0, h => by simp at h; subst h; simp [slotsOf]
  | r :: rs, i + 1, h => by
    have := slotsOf_mem (rvs := rs) (i := i) (by simpa using h)
    cases r <;> simp [slotsOf, this]
theorem onceB_seen {j : Nat} : ∀ {io : List Bool} {rvs : List RV} {seen : List Nat} {i : Nat}, onceB io rvs seen = true → j ∈ seen → io[i]? = some true → rvs[i]? = some (RV.slot j) → False
  | [], _, _, _, _, _, h, _ => by simp at h
  | _ :: _, [], _, _, _, _, _, h => by simp at h
  | b :: io, r :: rs, seen, 0, h, m, h1, h2 => by
    simp at h1 h2; subst h1; subst h2
    simp [onceB, m] at h
  | b :: io, r :: rs, seen, i + 1, h, m, h1, h2 => by
    have h1' : io[i]? = some true := by simpa using h1
    have h2' : rs[i]? = some (RV.slot j) := by simpa using h2
    cases b <;> cases r <;> simp only [onceB] at h
    · exact onceB_seen h m h1' h2'
    · exact onceB_seen h m h1' h2'
    · exact onceB_seen h (List.mem_cons_of_mem _ m) h1' h2'
    · exact onceB_seen h m h1' h2'
    · exact onceB_seen h m h1' h2'
    · simp only [Bool.and_eq_true] at h
      exact onceB_seen h.2 (List.mem_cons_of_mem _ m) h1' h2'
theorem onceB_ok {x : Nat} : ∀ {io : List Bool} {rvs : List RV} {seen : List Nat} {i j : Nat}, onceB io rvs seen = true → io.length = rvs.length → io[i]? = some true → rvs[i]? = some (RV.slot x) → rvs[j]? = some (RV.slot x) → i = j
  | [], _, _, _, _, _, _, h, _, _ => by simp at h
  | _ :: _, [], _, _, _, _, _, _, h, _ => by simp at h
  | b :: io, r :: rs, seen, 0, 0, h, hl, h1, h2, h3 => rfl
  | b :: io, r :: rs, seen, 0, j + 1, h, hl, h1, h2, h3 => by
    simp at h1 h2; subst h1; subst h2
    have := slotsOf_mem (rvs := rs) (i := j) (j := x) (by simpa using h3)
    simp [onceB, this] at h
  | b :: io, r :: rs, seen, i + 1, 0, h, hl, h1, h2, h3 => by
    have h1' : io[i]? = some true := by simpa using h1
    have h2' : rs[i]? = some (RV.slot x) := by simpa using h2
    simp at h3; subst h3
    cases b with
    | false =>
      simp only [onceB] at h
      exact (onceB_seen h List.mem_cons_self h1' h2').elim
    | true =>
      simp only [onceB, Bool.and_eq_true] at h
      exact (onceB_seen h.2 List.mem_cons_self h1' h2').elim
  | b :: io, r :: rs, seen, i + 1, j + 1, h, hl, h1, h2, h3 => by
    have h1' : io[i]? = some true := by simpa using h1
    have h2' : rs[i]? = some (RV.slot x) := by simpa using h2
    have h3' : rs[j]? = some (RV.slot x) := by simpa using h3
    have hl' : io.length = rs.length := by simpa using hl
    have : ∃ seen', onceB io rs seen' = true := by
      cases b <;> cases r <;> simp only [onceB] at h
      · exact ⟨_, h⟩
      · exact ⟨_, h⟩
      · exact ⟨_, h⟩
      · exact ⟨_, h⟩
      · exact ⟨_, h⟩
      · simp only [Bool.and_eq_true] at h; exact ⟨_, h.2⟩
    obtain ⟨seen', h'⟩ := this
    rw [onceB_ok h' hl' h1' h2' h3']
/-- what lies in the slots behind a call -/
theorem backE_ok : ∀ {io : List Bool} {rvs : List RV} {outs : List SV} {env e2 : Env'}, backE env io rvs outs = some e2 → e2.length = env.length ∧
    (∀ (k : Nat), (∀ (i : Nat), io[i]? = some true → rvs[i]? ≠ some (RV.slot k)) → e2[k]? = env[k]?) ∧
    ∀ (i j : Nat), io[i]? = some true → rvs[i]? = some (RV.slot j) → j < env.length → (∀ (i' : Nat), io[i']? = some true → rvs[i']? = some (RV.slot j) → i' = i) → ∃ d', outs[i]? = some (.own d') ∧ e2[j]? = some (.own d')
  | [], [], [], env, e2, h => by
    simp only [backE, Option.some.injEq] at h; subst h
    exact ⟨rfl, fun _ _ => rfl, fun i j h => by simp at h⟩
  | [], [], _ :: _, env, e2, h => by simp [backE] at h
  | [], _ :: _, _, env, e2, h => by simp [backE] at h
  | b :: io, [], outs, env, e2, h => by cases b <;> simp [backE] at h
  | b :: io, r :: rs, [], env, e2, h => by cases b <;> cases r <;> simp [backE] at h
  | false :: io, r :: rs, o :: outs, env, e2, h => by
    simp only [backE] at h
    obtain ⟨h1, h2, h3⟩ := backE_ok h
    refine ⟨h1, fun k hk => h2 k fun i a => by have := hk (i + 1) (by simpa using a); simpa using this, fun i j a b hj hu => ?_⟩
    cases i with
    | zero => simp at a
    | succ i =>
      obtain ⟨d', q1, q2⟩ := h3 i j (by simpa using a) (by simpa using b) hj fun i' x y => by
        have := hu (i' + 1) (by simpa using x) (by simpa using y)
        omega
      exact ⟨d', by simpa using q1, q2⟩
  | true :: io, .dat _ :: rs, o :: outs, env, e2, h => by simp [backE] at h
  | true :: io, .own _ :: rs, o :: outs, env, e2, h => by
    cases o <;> simp only [backE] at h <;> first | (cases h; done) | skip
    obtain ⟨h1, h2, h3⟩ := backE_ok h
    refine ⟨h1, fun k hk => h2 k fun i a => by have := hk (i + 1) (by simpa using a); simpa using this, fun i j a b hj hu => ?_⟩
    cases i with
    | zero => simp at b
    | succ i =>
      obtain ⟨d', q1, q2⟩ := h3 i j (by simpa using a) (by simpa using b) hj fun i' x y => by
        have := hu (i' + 1) (by simpa using x) (by simpa using y)
        omega
      exact ⟨d', by simpa using q1, q2⟩
  | true :: io, .slot j0 :: rs, o :: outs, env, e2, h => by
    cases o <;> simp only [backE] at h <;> first | (cases h; done) | skip
    rename_i d0
    obtain ⟨h1, h2, h3⟩ := backE_ok h
    refine ⟨by rw [h1, List.length_set], fun k hk => ?_, fun i j a b hj hu => ?_⟩
    · rw [h2 k fun i a => by have := hk (i + 1) (by simpa using a); simpa using this]
      have : j0 ≠ k := fun z => hk 0 (by simp) (by simp [z])
      rw [List.getElem?_set_ne this]
    · cases i with
      | zero =>
        simp at b; subst b
        refine ⟨d0, by simp, ?_⟩
        rw [h2 j0 fun i x y => by have := hu (i + 1) (by simpa using x) (by simpa using y); omega]
        rw [List.getElem?_set_self hj]
      | succ i =>
        obtain ⟨d', q1, q2⟩ := h3 i j (by simpa using a) (by simpa using b) (by rw [List.length_set]; exact hj) fun i' x y => by
          have := hu (i' + 1) (by simpa using x) (by simpa using y)
          omega
        exact ⟨d', by simpa using q1, q2⟩
theorem vs_at {vs : List V} {i : Nat} {v : V} : (vs.map some)[i]? = some (some v) ↔ vs[i]? = some v := by
  rw [List.getElem?_map]
  cases vs[i]? <;> simp
/-- a def's call -/
def pFn (io : List Bool) (F : DF) (P : PAF) : PF := fun env => do
  let (rvs, e1) ← P env
  if io.length = rvs.length ∧ onceB io rvs [] = true then
    let pe ← passE e1 io rvs
    let (rv, outs) ← F pe
    let e2 ← backE e1 io rvs outs
    match rv with
    | .slot _ => none
    | rv => some (rv, e2)
  else none
/-- the callee's parameters stand as told -/
theorem Rel.pass {σ : St} {env e1 : Env'} {H G H1 G1 : Hp} {io : List Bool} {vs : List V} {rvs : List RV} {pe : List SV} (r : Rel W σ env H G) (s : Step W σ env H G e1 H1 G1) (o : RvsOk W σ H H1 G1 vs rvs) (hl : io.length = rvs.length) (hon : onceB io rvs [] = true) (hp : passE e1 io rvs = some pe) :
    ∃ G2, Step W σ env H G e1 H1 G2 ∧ Rel W (vs.map some) pe H1 G2 ∧ ∀ b, IsOwn (vs.map some) pe b → IsOwn σ e1 b ∨ H b = none := by
  obtain ⟨G2, s2, r2, k2, t2, q2⟩ := o.freezeIo (io := io) s.rel (fun b z => s.ownNe r z) hl
  obtain ⟨_, lp⟩ := passE_len hp
  have lv := o.length
  have st : Step W σ env H G e1 H1 G2 := ⟨s.le, r2, ⟨s.ext.same.trans s2, fun b hb g => k2 b (s.ext.new b hb g) (.inl hb), s.ext.dom⟩, s.keep⟩
  -- what stands at a place
  have at_ : ∀ (i : Nat) (t : SV), pe[i]? = some t → ∃ b rv v, io[i]? = some b ∧ rvs[i]? = some rv ∧ vs[i]? = some v ∧ RvOk W σ H H1 G1 v rv ∧ PassAt e1 b rv t := fun i t ht => by
    have hi : i < pe.length := (List.getElem?_eq_some_iff.mp ht).1
    have h1 : i < io.length := by omega
    have h2 : i < rvs.length := by omega
    have e2 : rvs[i]? = some rvs[i] := by simp [h2]
    obtain ⟨v, e3, e4⟩ := o.get e2
    exact ⟨io[i], rvs[i], v, by simp [h1], e2, e3, e4, passE_at i _ _ _ hp (by simp [h1]) e2 ht⟩
  refine ⟨G2, st, ⟨by simp [lv, lp], r2.sub, fun i t ht => ?_, fun i j d t a h1 h2 h3 h4 h5 => ?_⟩, fun b hb => ?_⟩
  · obtain ⟨b, rv, v, e1', e2', e3', ok, pa⟩ := at_ i t ht
    have ev : (vs.map some)[i]? = some (some v) := vs_at.mpr e3'
    rw [ev]
    cases b with
    | true =>
      cases rv with
      | dat d => exact pa.elim
      | own d =>
        cases (show t = .own d from pa)
        obtain ⟨a, ob, rfl, ha, ga, h0, hob⟩ := ok
        exact ⟨a, ob, rfl, ha, t2 i d a e1' e2' e3', hob.mono s2⟩
      | slot j =>
        obtain ⟨d, hd, rfl⟩ := pa
        obtain ⟨a, rfl, ha⟩ := ok
        obtain ⟨a', ob, h1, h2, h3, h4⟩ := r2.slot j _ hd
        rw [ha] at h1; cases h1
        exact ⟨a, ob, rfl, h2, h3, h4⟩
    | false =>
      cases rv with
      | dat d => cases (show t = .dat d from pa); exact ⟨v, rfl, q2 i _ d v e1' e2' rfl e3'⟩
      | own d => cases (show t = .dat d from pa); exact ⟨v, rfl, q2 i _ d v e1' e2' rfl e3'⟩
      | slot j =>
        obtain ⟨d, hd, rfl⟩ := pa
        obtain ⟨a, rfl, ha⟩ := ok
        simp only [RV.cont] at hd
        split at hd
        · rename_i d' hd'
          cases hd
          obtain ⟨a', ob, h1, h2, _, h4⟩ := r2.slot j _ hd'
          rw [ha] at h1; cases h1
          exact ⟨a, ob, rfl, h2, h4⟩
        · rename_i d' hd'
          cases hd
          obtain ⟨a', ob, h1, h2, h4⟩ := r2.slot j _ hd'
          rw [ha] at h1; cases h1
          exact ⟨a, ob, rfl, h2, h4⟩
        · cases hd
  · obtain ⟨b1, rv1, v1, p1, p2, p3, ok1, pa1⟩ := at_ i _ h1
    obtain ⟨b2, rv2, v2, q1', q2', q3', ok2, pa2⟩ := at_ j _ h2
    have ev1 : v1 = .ref a := by rw [vs_at, p3] at h4; exact Option.some.inj h4
    have ev2 : v2 = .ref a := by rw [vs_at, q3'] at h5; exact Option.some.inj h5
    subst ev1; subst ev2
    -- the second one is a slot's object or an own temporary
    have k2' : (∃ jj s', rv2 = RV.slot jj ∧ e1[jj]? = some s' ∧ s'.isObj = true ∧ σ[jj]? = some (some (.ref a))) ∨ (∃ d2, rv2 = RV.own d2 ∧ H a = none) := by
      cases rv2 with
      | dat d2 => cases b2 with
        | true => exact pa2.elim
        | false => cases (show t = .dat d2 from pa2); cases h3
      | own d2 => obtain ⟨a', ob, ea, _, _, h0, _⟩ := ok2; cases ea; exact .inr ⟨d2, rfl, h0⟩
      | slot jj =>
        obtain ⟨a', ea, hs⟩ := ok2
        cases ea
        cases b2 with
        | true => obtain ⟨d2, hd2, rfl⟩ := pa2; exact .inl ⟨jj, _, rfl, hd2, rfl, hs⟩
        | false =>
          obtain ⟨d2, hd2, rfl⟩ := pa2
          simp only [RV.cont] at hd2
          split at hd2
          · rename_i d3 hd3; exact .inl ⟨jj, _, rfl, hd3, rfl, hs⟩
          · rename_i d3 hd3; exact .inl ⟨jj, _, rfl, hd3, rfl, hs⟩
          · cases hd2
    cases b1 with
    | false => cases rv1 with
      | dat d1 => cases (show SV.own d = .dat d1 from pa1)
      | own d1 => cases (show SV.own d = .dat d1 from pa1)
      | slot j1 => obtain ⟨d1, _, z⟩ := pa1; cases z
    | true =>
      cases rv1 with
      | dat d1 => exact pa1.elim
      | own d1 =>
        obtain ⟨a', ob, ea, _, _, h0, _⟩ := ok1
        cases ea
        rcases k2' with ⟨jj, s', _, e', ho', hs'⟩ | ⟨d2, rfl, _⟩
        · exact (obj_ne r s.le h0 jj s' e' ho' hs').elim
        · by_cases hij : i = j
          · exact hij
          · -- two own temporaries stand apart
            have apart : ∀ {vs : List V} {rvs : List RV}, RvsOk W σ H H1 G1 vs rvs → ∀ (i j : Nat) (d e : D), i < j → rvs[i]? = some (RV.own d) → rvs[j]? = some (RV.own e) → vs[i]? = some (.ref a) → vs[j]? = some (.ref a) → False := by
              intro vs rvs o
              induction o with
              | nil => intro i j d e _ h; simp at h
              | cons h n t ih =>
                intro i j d e hij h1 h2 h3 h4
                cases j with
                | zero => omega
                | succ j =>
                  cases i with
                  | zero =>
                    simp at h1 h3
                    subst h1; subst h3
                    exact n d e j rfl (by simpa using h2) (by simpa using h4)
                  | succ i => exact ih i j d e (by omega) (by simpa using h1) (by simpa using h2) (by simpa using h3) (by simpa using h4)
            rcases Nat.lt_or_ge i j with z | z
            · exact (apart o i j d1 d2 z p2 q2' p3 q3').elim
            · exact (apart o j i d2 d1 (by omega) q2' p2 q3' p3).elim
      | slot j1 =>
        obtain ⟨d1, hd1, _⟩ := pa1
        obtain ⟨a', ea, hs1⟩ := ok1
        cases ea
        rcases k2' with ⟨jj, s', rfl, e', ho', hs'⟩ | ⟨d2, rfl, h0⟩
        · have := s.rel.dist j1 jj d1 s' a hd1 e' ho' hs1 hs'
          subst this
          exact onceB_ok hon hl p1 p2 q2'
        · exact (obj_ne r s.le h0 j1 _ hd1 rfl hs1).elim
  · obtain ⟨i, d, h1, h2⟩ := hb
    obtain ⟨b1, rv1, v1, p1, p2, p3, ok1, pa1⟩ := at_ i _ h1
    have ev1 : v1 = .ref b := by rw [vs_at, p3] at h2; exact Option.some.inj h2
    subst ev1
    cases b1 with
    | false => cases rv1 with
      | dat d1 => cases (show SV.own d = .dat d1 from pa1)
      | own d1 => cases (show SV.own d = .dat d1 from pa1)
      | slot j1 => obtain ⟨d1, _, z⟩ := pa1; cases z
    | true =>
      cases rv1 with
      | dat d1 => exact pa1.elim
      | own d1 => obtain ⟨a', ob, ea, _, _, h0, _⟩ := ok1; cases ea; exact .inr h0
      | slot j1 =>
        obtain ⟨d1, hd1, _⟩ := pa1
        obtain ⟨a', ea, hs1⟩ := ok1
        cases ea
        exact .inl ⟨j1, d1, hd1, hs1⟩
theorem own_call {σ : St} {env e1 e2 : Env'} {H G H1 G1 : Hp} {io : List Bool} {vs : List V} {rvs : List RV} {pe outs : List SV} (r : Rel W σ env H G) (s : Step W σ env H G e1 H1 G1) (o : RvsOk W σ H H1 G1 vs rvs) (hl : io.length = rvs.length) (hon : onceB io rvs [] = true) (hp : passE e1 io rvs = some pe) (hb : backE e1 io rvs outs = some e2) :
    ∃ G2, Rel W (vs.map some) pe H1 G2 ∧ ∀ (v : V) (rv : RV) (H' G' : Hp), (∀ j, rv ≠ .slot j) → Step W (vs.map some) pe H1 G2 outs H' G' → RvOk W (vs.map some) H1 H' G' v rv → Step W σ env H G e2 H' G' ∧ RvOk W σ H H' G' v rv := by
  obtain ⟨G2, st, rp, ow⟩ := Rel.pass r s o hl hon hp
  obtain ⟨b1, b2, b3⟩ := backE_ok hb
  refine ⟨G2, rp, fun v rv H' G' hns sc ok => ?_⟩
  have lv := o.length
  -- the slots that are passed to be changed
  have isP : ∀ (k : Nat), (∃ (i : Nat), io[i]? = some true ∧ rvs[i]? = some (RV.slot k)) ∨ ∀ (i : Nat), io[i]? = some true → rvs[i]? ≠ some (RV.slot k) := fun k => by
    by_cases h : ∃ (i : Nat), io[i]? = some true ∧ rvs[i]? = some (RV.slot k)
    · exact .inl h
    · exact .inr fun i h1 h2 => h ⟨i, h1, h2⟩
  have slotV : ∀ (i k : Nat), rvs[i]? = some (RV.slot k) → ∃ a, vs[i]? = some (.ref a) ∧ σ[k]? = some (some (.ref a)) := fun i k h => by
    obtain ⟨u, h1, a, h2, h3⟩ := o.get h
    subst h2
    exact ⟨a, h1, h3⟩
  have ownP : ∀ (i k : Nat), io[i]? = some true → rvs[i]? = some (RV.slot k) → ∃ d, e1[k]? = some (.own d) := fun i k h1 h2 => by
    obtain ⟨_, lp⟩ := passE_len hp
    have hi : i < pe.length := by
      have := (List.getElem?_eq_some_iff.mp h2).1
      omega
    obtain ⟨d, h3, _⟩ := passE_at i true (.slot k) pe[i] hp h1 h2 (by simp [hi])
    exact ⟨d, h3⟩
  have nowE : ∀ (i k : Nat), io[i]? = some true → rvs[i]? = some (RV.slot k) → ∃ d', outs[i]? = some (.own d') ∧ e2[k]? = some (.own d') := fun i k h1 h2 => by
    obtain ⟨d, hd⟩ := ownP i k h1 h2
    exact b3 i k h1 h2 (List.getElem?_eq_some_iff.mp hd).1 fun i' x y => onceB_ok hon hl x y h2
  -- an object that is no slot's that is passed stays
  have stays : ∀ (k : Nat) (t : SV) (b : Addr) (u : HO), e1[k]? = some t → t.isObj = true → σ[k]? = some (some (.ref b)) → (∀ (i : Nat), io[i]? = some true → rvs[i]? ≠ some (RV.slot k)) → H1 b = some u → H' b = some u := fun k t b u h1 h2 h3 h4 h5 => by
    refine sc.keep b u h5 fun z => ?_
    obtain ⟨i, d, z1, z2⟩ := z
    obtain ⟨_, lp⟩ := passE_len hp
    have hi : i < pe.length := (List.getElem?_eq_some_iff.mp z1).1
    have hr : rvs[i]? = some (rvs[i]'(by omega)) := by simp [show i < rvs.length by omega]
    have hio : io[i]? = some (io[i]'(by omega)) := by simp [show i < io.length by omega]
    have pa := passE_at i _ _ _ hp hio hr z1
    obtain ⟨w, hw, okw⟩ := o.get hr
    have ew : w = .ref b := by rw [vs_at, hw] at z2; exact Option.some.inj z2
    subst ew
    generalize io[i]'(by omega) = bb at hio pa
    generalize rvs[i]'(by omega) = rr at hr pa okw
    cases bb with
    | false => cases rr with
      | dat d1 => cases (show SV.own d = .dat d1 from pa)
      | own d1 => cases (show SV.own d = .dat d1 from pa)
      | slot j1 => obtain ⟨d1, _, z⟩ := pa; cases z
    | true =>
      cases rr with
      | dat d1 => exact pa.elim
      | own d1 =>
        obtain ⟨a', ob, ea, _, _, h0, _⟩ := okw
        cases ea
        exact obj_ne r s.le h0 k t h1 h2 h3
      | slot j1 =>
        obtain ⟨d1, hd1, _⟩ := pa
        obtain ⟨a', ea, hs1⟩ := okw
        cases ea
        have := s.rel.dist j1 k d1 t b hd1 h1 h2 hs1 h3
        subst this
        exact h4 i hio hr
  have e2at : ∀ (k : Nat) (t : SV), e2[k]? = some t → (∃ (i : Nat) (d' : D), io[i]? = some true ∧ rvs[i]? = some (RV.slot k) ∧ outs[i]? = some (.own d') ∧ t = .own d') ∨ (e1[k]? = some t ∧ ∀ (i : Nat), io[i]? = some true → rvs[i]? ≠ some (RV.slot k)) := fun k t h => by
    rcases isP k with ⟨i, h1, h2⟩ | hn
    · obtain ⟨d', q1, q2⟩ := nowE i k h1 h2
      rw [q2] at h; cases h
      exact .inl ⟨i, d', h1, h2, q1, rfl⟩
    · rw [b2 k hn] at h; exact .inr ⟨h, hn⟩
  have le12 : Le e1 e2 := ⟨b1.symm, fun k t t' h h' => by
    rcases e2at k t' h' with ⟨i, d', h1, h2, h3, rfl⟩ | ⟨h1, _⟩
    · obtain ⟨d, hd⟩ := ownP i k h1 h2
      rw [hd] at h; cases h; rfl
    · rw [h1] at h; cases h; exact LeS.refl _⟩
  have ss : Step W σ env H G e2 H' G' := by
    refine ⟨s.le.trans le12, ⟨by rw [b1]; exact s.rel.len, sc.rel.sub, fun k t h => ?_, fun k m d t a h1 h2 h3 h4 h5 => ?_⟩, st.ext.trans sc.ext, fun b u hb nb => ?_⟩
    · rcases e2at k t h with ⟨i, d', h1, h2, h3, rfl⟩ | ⟨h1, hn⟩
      · obtain ⟨a, o', q1, q2, q3, q4⟩ := sc.rel.slot i _ h3
        obtain ⟨a2, z1, z2⟩ := slotV i k h2
        rw [vs_at.mpr z1] at q1; cases q1
        exact ⟨a, o', z2, q2, q3, q4⟩
      · have q := st.rel.slot k t h1
        cases t with
        | und => trivial
        | dat d => obtain ⟨x, q1, q2⟩ := q; exact ⟨x, q1, Rp.mono sc.ext.same q2⟩
        | own d => obtain ⟨a, o', q1, q2, q3, q4⟩ := q; exact ⟨a, o', q1, stays k _ a o' h1 rfl q1 hn q2, sc.ext.new a (by rw [q2]; simp) q3, q4.mono sc.ext.same⟩
        | bor d => obtain ⟨a, o', q1, q2, q4⟩ := q; exact ⟨a, o', q1, stays k _ a o' h1 rfl q1 hn q2, q4.mono sc.ext.same⟩
    · have un : ∀ (k : Nat) (t : SV), e2[k]? = some t → t.isObj = true → ∃ t', e1[k]? = some t' ∧ t'.isObj = true ∧ (t.isOwn = true → ∃ d, t' = .own d) := fun k t h ho => by
        rcases e2at k t h with ⟨i, d', h1, h2, h3, rfl⟩ | ⟨h1, _⟩
        · obtain ⟨d, hd⟩ := ownP i k h1 h2
          exact ⟨_, hd, rfl, fun _ => ⟨d, rfl⟩⟩
        · exact ⟨t, h1, ho, fun z => by cases t <;> first | (cases z; done) | exact ⟨_, rfl⟩⟩
      obtain ⟨t1, q1, _, q2⟩ := un k _ h1 rfl
      obtain ⟨d1, rfl⟩ := q2 rfl
      obtain ⟨t2, q3, q4, _⟩ := un m t h2 h3
      exact s.rel.dist k m d1 t2 a q1 q3 q4 h4 h5
    · refine sc.keep b u (s.keep b u hb nb) fun z => ?_
      rcases ow b z with z | z
      · exact nb (z.le s.le)
      · rw [hb] at z; cases z
  refine ⟨ss, ?_⟩
  cases rv with
  | dat d => exact ok
  | own d => obtain ⟨a, o', q1, q2, q3, q4, q5⟩ := ok; exact ⟨a, o', q1, q2, q3, s.ext.dom a q4, q5⟩
  | slot j => exact (hns j rfl).elim
theorem fn_tE {io : List Bool} {F : DF} {P : PAF} {σ : St} {H : Hp} {Q : VK} {E : XK} (h : tE W (pFn io F P) σ H Q) : tCB (fun vs H Q => spF W io.length F (vs ++ []) H Q E) (tA W P) σ H Q := by
  obtain ⟨env, G, rv, env', r, p, k⟩ := h
  unfold pFn at p
  simp only [Option.bind_eq_bind, Option.bind_eq_some_iff, Prod.exists] at p
  obtain ⟨rvs, e1, h1, p⟩ := p
  split at p
  · rename_i hc
    simp only [Option.bind_eq_some_iff, Prod.exists] at p
    obtain ⟨pe, h2, rv0, outs, h3, e2, h4, p⟩ := p
    have hns : ∀ j, rv0 ≠ .slot j := fun j z => by subst z; cases p
    have pe' : rv0 = rv ∧ e2 = env' := by
      cases rv0 with
      | slot j => exact (hns j rfl).elim
      | dat d => cases p; exact ⟨rfl, rfl⟩
      | own d => cases p; exact ⟨rfl, rfl⟩
    obtain ⟨rfl, rfl⟩ := pe'
    refine ⟨env, G, rvs, e1, r, h1, fun vs H1 G1 s o => ?_⟩
    obtain ⟨G2, rp, kk⟩ := own_call r s o hc.1 hc.2 h2 h4
    refine ⟨by rw [List.append_nil, o.length, hc.1], ?_⟩
    rw [List.append_nil]
    refine ⟨pe, G2, rv0, outs, rp, h3, fun v H' G' sc ok => ?_⟩
    obtain ⟨q1, q2⟩ := kk v rv0 H' G' hns sc ok
    exact k v H' G' q1 q2
  · cases p
end
end Den
end

section
set_option Elab.async false
set_option linter.all false
set_option maxRecDepth 100000
set_option maxHeartbeats 2000000
/-! DenK2: calls of the program's own defs by keywords alone. -/
namespace Den
open PySem L2
def pick {α : Type} (is : List Nat) (xs : List α) : List α := is.filterMap (xs[·]?)
theorem pick_get {α : Type} {xs : List α} : ∀ {is : List Nat} (k : Nat), (∀ i ∈ is, i < xs.length) → (pick is xs)[k]? = is[k]?.bind (xs[·]?)
  | [], k, _ => by simp [pick]
  | i :: is, k, h => by
    have hi : i < xs.length := h i (by simp)
    have e : pick (i :: is) xs = xs[i] :: pick is xs := by simp [pick, List.filterMap_cons, hi]
    rw [e]
    cases k with
    | zero => simp [hi]
    | succ k => simpa using pick_get (is := is) k fun j hj => h j (List.mem_cons_of_mem _ hj)
theorem pick_len {α : Type} {xs : List α} : ∀ {is : List Nat}, (∀ i ∈ is, i < xs.length) → (pick is xs).length = is.length
  | [], _ => rfl
  | i :: is, h => by
    have hi : i < xs.length := h i (by simp)
    have e : pick (i :: is) xs = xs[i] :: pick is xs := by simp [pick, List.filterMap_cons, hi]
    rw [e]
    simp [pick_len (is := is) fun j hj => h j (List.mem_cons_of_mem _ hj)]
section
variable {X : Cx} {W : Pw} {σ : St} {H H' G' : Hp}
theorem RvsOk.pair : ∀ {vs : List V} {rvs : List RV} {i j : Nat} {d e : D} {v : V}, RvsOk W σ H H' G' vs rvs → i < j → rvs[i]? = some (.own d) → rvs[j]? = some (.own e) → vs[i]? = some v → vs[j]? ≠ some v
  | _, _, _, _, _, _, _, .nil, _, h, _, _ => by simp at h
  | v0 :: vs, r0 :: rvs, 0, j + 1, d, e, v, .cons h n t, _, h1, h2, h3 => by
    simp only [List.getElem?_cons_zero, Option.some.injEq] at h1 h3
    subst h3
    have q := n d e j h1 (by simpa using h2)
    simpa using q
  | v0 :: vs, r0 :: rvs, i + 1, j + 1, d, e, v, .cons h n t, hij, h1, h2, h3 => by
    have q := RvsOk.pair (i := i) (j := j) t (by omega) (by simpa using h1) (by simpa using h2) (by simpa using h3)
    simpa using q
theorem RvsOk.mk : ∀ {vs : List V} {rvs : List RV}, vs.length = rvs.length → (∀ (i : Nat) (v : V) (rv : RV), vs[i]? = some v → rvs[i]? = some rv → RvOk W σ H H' G' v rv) →
    (∀ (i j : Nat) (d e : D) (v : V), i < j → rvs[i]? = some (.own d) → rvs[j]? = some (.own e) → vs[i]? = some v → vs[j]? ≠ some v) → RvsOk W σ H H' G' vs rvs
  | [], [], _, _, _ => .nil
  | v :: vs, r :: rvs, hl, h, n => by
    refine .cons (h 0 v r rfl rfl) (fun d e i h1 h2 => ?_) (RvsOk.mk (by simpa using hl) (fun i v' r' h1 h2 => h (i + 1) v' r' (by simpa using h1) (by simpa using h2)) fun i j d e v' hij h1 h2 h3 => ?_)
    · subst h1
      have q := n 0 (i + 1) d e v (by omega) rfl (by simpa using h2) rfl
      simpa using q
    · have q := n (i + 1) (j + 1) d e v' (by omega) (by simpa using h1) (by simpa using h2) (by simpa using h3)
      simpa using q
theorem RvsOk.pick {vs : List V} {rvs : List RV} {is : List Nat} (h : RvsOk W σ H H' G' vs rvs) (hi : ∀ i ∈ is, i < rvs.length) (hn : is.Nodup) : RvsOk W σ H H' G' (pick is vs) (pick is rvs) := by
  have hl := h.length
  have hi' : ∀ i ∈ is, i < vs.length := fun i q => by rw [hl]; exact hi i q
  refine RvsOk.mk (by rw [pick_len hi, pick_len hi']) (fun k v rv h1 h2 => ?_) fun k m d e v hkm h1 h2 h3 h4 => ?_
  · rw [pick_get k hi'] at h1
    rw [pick_get k hi] at h2
    simp only [Option.bind_eq_some_iff] at h1 h2
    obtain ⟨i, a1, a2⟩ := h1
    obtain ⟨j, b1, b2⟩ := h2
    rw [a1] at b1; cases b1
    obtain ⟨v', c1, c2⟩ := h.get b2
    rw [a2] at c1; cases c1
    exact c2
  · rw [pick_get k hi'] at h3
    rw [pick_get k hi] at h1
    rw [pick_get m hi'] at h4
    rw [pick_get m hi] at h2
    simp only [Option.bind_eq_some_iff] at h1 h2 h3 h4
    obtain ⟨i, a1, a2⟩ := h1
    obtain ⟨j, b1, b2⟩ := h2
    obtain ⟨i', c1, c2⟩ := h3
    obtain ⟨j', d1, d2⟩ := h4
    rw [a1] at c1; cases c1
    rw [b1] at d1; cases d1
    have ne : i ≠ j := fun z => by
      subst z
      have hk : k < is.length := (List.getElem?_eq_some_iff.mp a1).1
      have hm : m < is.length := (List.getElem?_eq_some_iff.mp b1).1
      have := (List.getElem?_inj hk hn).mp (a1.trans b1.symm)
      omega
    rcases Nat.lt_or_ge i j with z | z
    · exact h.pair z a2 b2 c2 d2
    · exact h.pair (i := j) (j := i) (by omega) b2 a2 d2 c2
def aPick (is : List Nat) (P : PAF) : PAF := fun env => do
  let (rvs, e1) ← P env
  if rvs.length = is.length then some (pick is rvs, e1) else none
theorem pick_tA {is : List Nat} {P : PAF} {Q : List V → Hp → Prop} (hi : ∀ i ∈ is, i < is.length) (hn : is.Nodup) (h : tA W (aPick is P) σ H Q) : tA W P σ H fun vs H1 => vs.length = is.length ∧ Q (pick is vs) H1 := by
  obtain ⟨env, G, rvs, env', r, p, k⟩ := h
  unfold aPick at p
  simp only [Option.bind_eq_bind, Option.bind_eq_some_iff, Prod.exists] at p
  obtain ⟨rs, e1, h1, p⟩ := p
  split at p
  · rename_i hl
    cases p
    exact ⟨env, G, rs, _, r, h1, fun vs H1 G1 s o => ⟨by rw [o.length]; exact hl, k _ H1 G1 s (o.pick (fun i q => by rw [hl]; exact hi i q) hn)⟩⟩
  · cases p
/-! ### the keywords' values -/
abbrev PKD (X : Cx) (W : Pw) (P : PAF) (kws : List Keyword) : Prop := PK X kws (tA W P)
theorem PK.weak {kws : List Keyword} {t t' : TA} (h : PK X kws t) (k : ∀ σ H Q, t' σ H Q → t σ H Q) : PK X kws t' := ⟨fun pos pins s σ H Q I q => h.run pos pins s σ H Q I (k σ H Q q)⟩
theorem pkd_nil : PKD X W aNil [] := PK.weak pk_nil fun σ H Q ⟨env, G, rvs, env', r, p, k⟩ => by
  cases p
  exact k [] H G (Step.refl r) .nil
theorem pkd_cons {nm : Option Str} {e : Expr} {kp : Pos} {kws : List Keyword} {P : PF} {P' : PAF} (h : PD X W P e) (h' : PKD X W P' kws) : PKD X W (aCons P P') (⟨nm, e, kp⟩ :: kws) := PK.weak (pk_cons h h') fun σ H Q ⟨env, G, rvs, env', r, p, k⟩ => by
  unfold aCons at p
  simp only [Option.bind_eq_bind, Option.bind_eq_some_iff, Prod.exists, Option.some.injEq, Prod.mk.injEq] at p
  obtain ⟨rv, e1, h1, rs, e2, h2, rfl, rfl⟩ := p
  refine tE_one r h1 fun v H1 G1 s o => ⟨e1, G1, rs, e2, s.rel, h2, fun vs H2 G2 s2 o2 => ?_⟩
  refine k (v :: vs) H2 G2 (s.trans s2) (.cons (o.step s.rel (fun b z => s.ownNe r z) s2) (fun d e i ed er => ?_) (o2.base s.ext.dom))
  subst ed
  obtain ⟨a, ob, ea, ha, _⟩ := o
  rw [ea]
  exact o2.fresh (by rw [ha]; simp) er
theorem pkd_nope {kws : List Keyword} : PKD X W (fun _ => none) kws := ⟨fun pos pins s σ H Q I ⟨env, G, rv, env', r, p, k⟩ => by cases p⟩
/-! ### how they bind -/
def kws? : List Keyword → Option (List Str)
  | [] => some []
  | k :: ks => match k.arg, kws? ks with
    | some x, some xs => some (x :: xs)
    | _, _ => none
def KwOk (K : PySem.W.Frag) (fd : FuncData) (ps ks : List Str) (is : List Nat) : Prop := ∀ (s : Shared) (ws : List Value), ws.length = ks.length → BindsTo s fd ⟨[], ks.zip ws⟩ (ps.zip (pick is ws))
def kg {α : Type} (n : Nat) (is : List Nat) (us ws : List α) : List α := if us.length = 0 ∧ ws.length = n then pick is ws else []
theorem pick_vals {is : List Nat} : ∀ {zs : List V} {ws : List Value}, Vals zs ws → Vals (pick is zs) (pick is ws) := by
  intro zs ws r
  induction is with
  | nil => exact .nil
  | cons i is ih =>
    have hl := r.length
    by_cases hi : i < zs.length
    · have hj : i < ws.length := by omega
      have e1 : pick (i :: is) zs = zs[i] :: pick is zs := by simp [pick, List.filterMap_cons, hi]
      have e2 : pick (i :: is) ws = ws[i] :: pick is ws := by simp [pick, List.filterMap_cons, hj]
      rw [e1, e2]
      refine .cons ?_ ih
      clear e1 e2 ih
      induction r generalizing i with
      | nil => simp at hi
      | cons a t ih2 =>
        cases i with
        | zero => exact a
        | succ i => exact ih2 i (by simpa using t.length) (by simpa using hi) (by simpa using hj)
    · have hj : ¬ i < ws.length := by omega
      have e1 : pick (i :: is) zs = pick is zs := by simp [pick, List.filterMap_cons, hi]
      have e2 : pick (i :: is) ws = pick is ws := by simp [pick, List.filterMap_cons, hj]
      rw [e1, e2]
      exact ih
theorem kbinds_of {K : PySem.W.Frag} {fd : FuncData} {ps ks : List Str} {is : List Nat} (hp : ps ≠ []) (h : KwOk K fd ps ks is) : KBinds K fd ps ks (kg ks.length is) (kg ks.length is) := by
  refine ⟨fun s us ws _ hl => ?_, fun {vs us zs ws} r rz => ?_⟩
  · unfold kg at hl ⊢
    split at hl
    · rename_i hc
      rw [if_pos hc]
      have : us = [] := List.length_eq_zero_iff.mp hc.1
      subst this
      exact h s ws hc.2
    · exact (hp (List.length_eq_zero_iff.mp hl.symm)).elim
  · unfold kg
    rw [r.length, rz.length]
    split
    · exact pick_vals rz
    · exact .nil
theorem pe_callVK0 {x : Str} {p pos : Pos} {a : Addr} {ks : List Str} {kws : List Keyword} {tk : TA} {r : List V → List V → Hp → VK → Prop} (hc : CallRK X (.ref a) ks r) (hg : Gl X x) (hm : X.mg x = some (.ref a)) (hk : PySem.W.keepIn X.K (.ref a) = true) (hkw : PK X kws tk)
    (hks : kws? kws = some ks) (hdb : (x == ("__debug__" : Str)) = false) : PE X (.Call (.Name x p) [] kws pos) (tCKw r tNil tk) := by
  have kk : ∀ {kws : List Keyword} {ks : List Str}, kws? kws = some ks → (backToKw pos (keywordEach kws X.env)).all (·.1.isSome) = true ∧ (backToKw pos (keywordEach kws X.env)).any (·.1.isNone) = false ∧ (backToKw pos (keywordEach kws X.env)).filterMap (·.1) = ks := by
    intro kws
    induction kws with
    | nil => intro ks h; cases h; exact ⟨rfl, rfl, rfl⟩
    | cons k r ih =>
      intro ks h
      obtain ⟨nm, e, kp⟩ := k
      cases nm with
      | none => simp [kws?] at h
      | some nm =>
        cases e2 : kws? r with
        | none => simp [kws?, e2] at h
        | some xs =>
          simp only [kws?, e2, Option.some.injEq] at h
          subst h
          obtain ⟨a1, a2, a3⟩ := ih e2
          have e3 : backToKw pos (keywordEach (⟨some nm, e, kp⟩ :: r) X.env) = (some nm, (do let v ← eval e X.env; standAt pos; pure v)) :: backToKw pos (keywordEach r X.env) := rfl
          rw [e3]
          refine ⟨by simpa using a1, by simpa using a2, by simp [a3]⟩
  obtain ⟨q1, q2, q3⟩ := kk hks
  refine ⟨fun pins s σ H Q I h => ?_⟩
  refine wpAny_Call_Name_kw (ld_glob I hg hm ?_ hdb)
  refine PySem.W.callWith_KW0 (h₀ := X.base) I.ok.mod.kin hk q1 ?_ (by rw [q2]; rfl)
  refine thn (hkw.run pos pins s σ H _ I h) fun ws s2 ⟨zs, H2, I2, rz, q⟩ => ⟨I2.kIn, ?_⟩
  rw [q3]
  exact hc pins s2 σ H2 [] zs [] ws Q I2 .nil rz q
theorem fnk_tE {io : List Bool} {F : DF} {P : PAF} {is : List Nat} {Q : VK} {E : XK} (hi : ∀ i ∈ is, i < is.length) (hn : is.Nodup) (h : tE W (pFn io F (aPick is P)) σ H Q) :
    tCKw (fun vs zs H Q => spF W io.length F (kg is.length is vs zs) H Q E) tNil (tA W P) σ H Q := by
  have q : tCB (fun vs H Q => spF W io.length F (vs ++ []) H Q E) (tA W (aPick is P)) σ H Q := fn_tE h
  have q2 : tA W P σ H fun vs H1 => vs.length = is.length ∧ spF W io.length F (pick is vs ++ []) H1 Q E := pick_tA hi hn q
  show tA W P σ H fun zs H2 => spF W io.length F (kg is.length is [] zs) H2 Q E
  obtain ⟨env, G, rvs, env', r, p, k⟩ := q2
  refine ⟨env, G, rvs, env', r, p, fun vs H1 G1 s o => ?_⟩
  obtain ⟨k1, k2⟩ := k vs H1 G1 s o
  unfold kg
  rw [if_pos ⟨rfl, k1⟩]
  simpa using k2
end
end Den
end

section
set_option Elab.async false
set_option linter.all false
set_option maxRecDepth 100000
set_option maxHeartbeats 2000000
/-! DenK3: own classes: fields read and stored, objects made. -/
namespace Den
open PySem L2
section
variable {X : Cx} {W : Pw}
theorem RpF.get {G : Hp} {f : Str} {d : D} : ∀ {fv : List (Str × V)} {fd : List (Str × D)}, RpF W G fv fd → fd.lookup f = some d → ∃ v, fv.lookup f = some v ∧ Rp W G v d
  | _, _, .nil, h => by cases h
  | (k, v) :: fv, (_, d') :: fd, .cons a r, h => by
    rw [List.lookup_cons] at h ⊢
    by_cases e : f == k
    · simp only [e] at h ⊢
      cases h
      exact ⟨v, rfl, a⟩
    · have e' : (f == k) = false := by simpa using e
      simp only [e'] at h ⊢
      exact RpF.get r h
theorem RpF.length {G : Hp} : ∀ {fv : List (Str × V)} {fd : List (Str × D)}, RpF W G fv fd → fv.length = fd.length
  | _, _, .nil => rfl
  | _ :: _, _ :: _, .cons _ r => by simp [RpF.length r]
def putD (f : Str) (d : D) : List (Str × D) → List (Str × D)
  | [] => [(f, d)]
  | (g, x) :: r => if g = f then (g, d) :: r else (g, x) :: putD f d r
theorem RpF.put {G : Hp} {f : Str} {v : V} {d : D} (h : Rp W G v d) : ∀ {fv : List (Str × V)} {fd : List (Str × D)}, RpF W G fv fd → RpF W G (putF f v fv) (putD f d fd)
  | _, _, .nil => .cons h .nil
  | (k, x) :: fv, (_, y) :: fd, .cons a r => by
    show RpF W G (if k = f then (k, v) :: fv else (k, x) :: putF f v fv) (if k = f then (k, d) :: fd else (k, y) :: putD f d fd)
    split
    · exact .cons h r
    · exact .cons a (RpF.put h r)
/-! ### e.f -/
/-- ok: which fields may be read of objects of which class -/
def pFld (ok : Nat → Str → Bool) (f : Str) (P : PF) : PF := fun env => do
  let (rv, e1) ← P env
  let d ← rv.cont e1
  match d with
  | .obj c fs => if ok c f then (fs.lookup f).map fun z => (.dat z, e1) else none
  | _ => none
theorem fld_tE {ok : Nat → Str → Bool} {f : Str} {P : PF} {σ : L2.St} {H : Hp} {Q : VK} (hok : ∀ c, ok c f = true → Cls W.K (W.cl c) ∧ NoAttr W.K (W.cl c) f) (h : tE W (pFld ok f P) σ H Q) : tFld W.K (tE W P) f σ H Q := by
  obtain ⟨env, G, rv, env', r, p, k⟩ := h
  unfold pFld at p
  simp only [Option.bind_eq_bind, Option.bind_eq_some_iff, Prod.exists] at p
  obtain ⟨rv0, e1, h1, d, h2, p⟩ := p
  refine tE_one r h1 fun v H1 G1 s o => ?_
  split at p
  · rename_i c fs
    split at p
    · rename_i hc
      simp only [Option.map_eq_some_iff, Prod.mk.injEq] at p
      obtain ⟨z, h3, rfl, rfl⟩ := p
      obtain ⟨a, dx, fv, rfl, ha, rf⟩ := (o.vw s.rel h2).obj s.rel.sub
      obtain ⟨x, h4, h5⟩ := rf.get h3
      obtain ⟨q1, q2⟩ := hok c hc
      exact ⟨a, _, dx, fv, x, rfl, ha, q1, q2, h4, k x H1 G1 s h5⟩
    · cases p
  · cases p
def baseB : Expr → Bool
  | .Call (.Name _ _) [] [] _ => false
  | _ => true
theorem base_any {o : Expr} {name : Str} {env : Env} {m : Sem Value} (h : baseB o = true) : attributeBase o name env m = m := by
  cases o <;> try rfl
  rename_i f as ks pos
  cases f <;> try rfl
  cases as <;> try rfl
  cases ks <;> first | rfl | cases h
theorem pd_fld {ok : Nat → Str → Bool} {f : Str} {e : Expr} {P : PF} {pos : Pos} (hK : X.K = W.K) (hok : ∀ c, ok c f = true → Cls W.K (W.cl c) ∧ NoAttr W.K (W.cl c) f) (he : PD X W P e) (hb : baseB e = true) : PD X W (pFld ok f P) (.Attribute e f pos) :=
  PE.weak (pe_fld he (base_any hb)) fun σ H Q h => by rw [hK]; exact fld_tE hok h
/-! ### self.f = e -/
def sFldF (np i : Nat) (ok : Nat → Str → Bool) (f : Str) (P : PF) : SF := fun env => do
  let (rv, e1) ← P env
  if ownB np env e1 then
    match rv.dt, e1[i]? with
    | some y, some (.own (.obj c fs)) => if ok c f && decide (fs.length < 900) then some (.nx (e1.set i (.own (.obj c (putD f y fs))))) else none
    | _, _ => none
  else none
theorem fldS_tS {E : Entry} {i : Nat} {ok : Nat → Str → Bool} {f : Str} {P : PF} {D : Ends} {σ : L2.St} {H : Hp} (hok : ∀ c, ok c f = true → Cls W.K (W.cl c) ∧ NoAttr W.K (W.cl c) f) (h : tS W E (sFldF E.np i ok f P) D σ H) : sFld W.K (tVar i) (tE W P) f D σ H := by
  obtain ⟨env, G, o, r0, p, k⟩ := h
  have r := r0.rel
  unfold sFldF at p
  simp only [Option.bind_eq_bind, Option.bind_eq_some_iff, Prod.exists] at p
  obtain ⟨rv, e1, h1, p⟩ := p
  split at p
  · rename_i hb
    split at p
    · rename_i y c fs hy hi
      split at p
      · rename_i hc
        simp only [Bool.and_eq_true, decide_eq_true_eq] at hc
        cases p
        refine tE_one r h1 fun v H1 G1 s q => ?_
        have fz : ∃ G2, Step W σ env H G e1 H1 G2 ∧ Rp W G2 v y := by
          cases rv with
          | dat d => cases hy; exact ⟨G1, s, q⟩
          | slot j => cases hy
          | own d =>
            cases hy
            obtain ⟨a, ob, rfl, ha, ga, h0, hob⟩ := q
            obtain ⟨s7, q7⟩ := Step.thaw r s ha ga h0 hob
            exact ⟨_, s7, q7⟩
        obtain ⟨G2, s2, q2⟩ := fz
        obtain ⟨a, ob, a1, a2, a3, a4⟩ := s2.rel.slot i _ hi
        cases a4 with
        | obj rf =>
          rename_i dx fv
          obtain ⟨q3, q4⟩ := hok c hc.1
          refine ⟨.ref a, a1, a, _, dx, fv, rfl, a2, q3, q4, by rw [rf.length]; omega, ?_⟩
          have sw := Step.write (d := .obj c (putD f y fs)) s2.rel hi a1 a2 a3 (.obj (dx := dx) (RpF.put q2 rf))
          refine k σ _ G2 (r0.trans ((s2.toS (np := E.np) (ownB_ok hb)).trans (sw.toS fun j d hj e => ?_))) s2.ext.same
          by_cases z : j = i
          · subst z
            exact ⟨_, by rw [List.getElem?_set_self (List.getElem?_eq_some_iff.mp e).1]⟩
          · exact ⟨d, by rw [List.getElem?_set_ne (Ne.symm z)]; exact e⟩
      · cases p
    · cases p
  · cases p
theorem RvsOk.stepAll {σ : L2.St} {env env' : Env'} {H H1 G1 H2 G2 : Hp} (r : Rel W σ env H1 G1) (hn : ∀ b, IsOwn σ env b → H b ≠ none) (s : Step W σ env H1 G1 env' H2 G2) : ∀ {vs : List V} {rvs : List RV}, RvsOk W σ H H1 G1 vs rvs → RvsOk W σ H H2 G2 vs rvs
  | _, _, .nil => .nil
  | _, _, .cons h n t => .cons (h.step r hn s) n (RvsOk.stepAll r hn s t)
/-! ### C(..) -/
def pMk (c : Nat) (io : List Bool) (F : DF) (P : PAF) : PF := fun env => do
  let (rvs, e1) ← P env
  if io.length = rvs.length ∧ onceB (true :: io) (.own (.obj c []) :: rvs) [] = true then
    let pe ← passE e1 (true :: io) (.own (.obj c []) :: rvs)
    let (rv, outs) ← F pe
    let e2 ← backE e1 (true :: io) (.own (.obj c []) :: rvs) outs
    match rv, outs with
    | .dat .non, .own d :: _ => some (.own d, e2)
    | _, _ => none
  else none
theorem mk_tE {c : Nat} {io : List Bool} {F : DF} {P : PAF} {σ : L2.St} {H : Hp} {Q : VK} {E : XK} (h : tE W (pMk c io F P) σ H Q) :
    tCB (fun vs H Q => ∀ x dx, H x = none → H dx = none → dx ≠ x → spF W (io.length + 1) F (.ref x :: (vs ++ [])) (upd (upd H dx (.own x)) x (.ins (W.cl c) dx [])) (fun v H2 => v = .non ∧ Q (.ref x) H2) E) (tA W P) σ H Q := by
  obtain ⟨env, G, rv, env', r, p, k⟩ := h
  unfold pMk at p
  simp only [Option.bind_eq_bind, Option.bind_eq_some_iff, Prod.exists] at p
  obtain ⟨rvs, e1, h1, p⟩ := p
  split at p
  · rename_i hc
    simp only [Option.bind_eq_some_iff, Prod.exists] at p
    obtain ⟨pe, h2, rv0, outs, h3, e2, h4, p⟩ := p
    split at p
    · rename_i d outs'
      cases p
      refine ⟨env, G, rvs, e1, r, h1, fun vs H1 G1 s o x dx hx hdx hne => ?_⟩
      have hx' : upd H1 dx (.own x) x = none := by rw [upd_ne (Ne.symm hne)]; exact hx
      -- the two new objects
      have gx : G1 x = none := s.rel.sub.free hx
      have gd : G1 dx = none := s.rel.sub.free hdx
      have kp : Same H1 (upd (upd H1 dx (.own x)) x (.ins (W.cl c) dx [])) := (same_upd hdx).trans (same_upd hx')
      have ext : Ext H1 G1 (upd (upd H1 dx (.own x)) x (.ins (W.cl c) dx [])) G1 := ⟨Same.refl _, fun _ _ h => h, fun b hb => by
        by_cases z : b = x
        · rw [z]; exact hx
        · rw [upd_ne z] at hb
          by_cases z2 : b = dx
          · rw [z2]; exact hdx
          · rw [upd_ne z2] at hb; exact hb⟩
      have s1 : Step W σ e1 H1 G1 e1 (upd (upd H1 dx (.own x)) x (.ins (W.cl c) dx [])) G1 := ⟨Le.refl _, s.rel.grow kp ext (s.rel.sub.trans kp), ext, fun b u hb _ => kp b u hb⟩
      have s' := s.trans s1
      have hxH : H x = none := s.ext.dom x hx
      have o' : RvsOk W σ H (upd (upd H1 dx (.own x)) x (.ins (W.cl c) dx [])) G1 (.ref x :: vs) (.own (.obj c []) :: rvs) := by
        refine .cons ⟨x, _, rfl, upd_same, gx, hxH, .obj .nil⟩ (fun d e i _ hr z => ?_) (RvsOk.stepAll s.rel (fun b q => s.ownNe r q) s1 o)
        obtain ⟨u, u1, u2⟩ := o.get hr
        rw [z] at u1; cases u1
        obtain ⟨a, ob, ea, ha, _⟩ := u2
        cases ea
        rw [hx] at ha; cases ha
      obtain ⟨G2, rp, kk⟩ := own_call r s' o' (by simpa using hc.1) hc.2 h2 h4
      refine ⟨by simp [o.length, hc.1], ?_⟩
      rw [List.append_nil]
      refine ⟨pe, G2, .dat .non, _, rp, h3, fun v H' G' sc ok => ?_⟩
      cases ok
      refine ⟨rfl, ?_⟩
      obtain ⟨q1, _⟩ := kk .non (.dat .non) H' G' (fun j z => nomatch z) sc .non
      obtain ⟨a, ob, a1, a2, a3, a4⟩ := sc.rel.slot 0 _ rfl
      have ea : a = x := by
        have : (V.ref x) = .ref a := by simpa using a1
        cases this; rfl
      subst ea
      exact k _ H' G' q1 ⟨a, ob, rfl, a2, a3, hxH, a4⟩
    · cases p
  · cases p
end
end Den
end

section
set_option Elab.async false
set_option linter.all false
set_option maxRecDepth 100000
set_option maxHeartbeats 2000000
/-! DenK4: methods of own classes. -/
namespace Den
open PySem L2
section
variable {X : Cx} {W : Pw}
/-- a method's promise by the class that is met -/
def tMethA (W : Pw) (m : Str) (Kn : Nat → Prop) (R : Nat → List V → Hp → VK → Prop) (ta : TE) (t : TA) : TE := fun σ H Q => ta σ H fun x H1 => ∃ c a dx fs, Kn c ∧ x = .ref a ∧ H1 a = some (.ins (W.cl c) dx fs) ∧ fs.lookup m = none ∧ t σ H1 fun vs H2 => R c (x :: vs) H2 Q
theorem pe_methA {pl : Sem Bool} {o e : Expr} {es : List Expr} {m : Str} {apos pos : Pos} {ta : TE} {t : TA} {Kn : Nat → Prop} {R : Nat → List V → Hp → VK → Prop} (he : PE X o ta) (ok : ∀ c, Kn c → Cls X.K (W.cl c) ∧ ∃ f, Meth X.K (W.cl c) m f ∧ CallR X (.ref f) (R c))
    (ha : PA X (e :: es) t) (hs : (e :: es).all notStar = true)
    (ht : eval (.Call (.Attribute o m apos) (e :: es) [] pos) X.env = (do
      let ov ← eval o X.env
      standAt apos.atName
      let (f, first) ← holding [ov] (getMethod ov m pl)
      callWith pos f first (backTo pos (starEach (e :: es) X.env)) (backToKw pos (keywordEach [] X.env)))) :
    PE X (.Call (.Attribute o m apos) (e :: es) [] pos) (tMethA W m Kn R ta t) := by
  have h2 := hs
  rw [List.all_cons, Bool.and_eq_true] at h2
  constructor
  intro pins s σ H Q I h
  apply PySem.W.methodCall_KW (pl := pl) _ ht
  apply thn (he.run pins s σ H _ I h)
  rintro u s1 ⟨x, H1, I1, rx, c, a, dx, fs, kc, ex, ea, l, q⟩
  subst ex
  cases (show u = Value.ref a from rx)
  obtain ⟨q1, f, q2, q3⟩ := ok c kc
  apply getmeth_ok I1 ea q1 q2 l
  apply PySem.W.callWith_K (first := [.ref a]) (h₀ := X.base) I.ok.mod.kin q2.kp _ (star_plain h2.1) (noStars h2.2)
  exact thn (ha.run pos pins s1 σ H1 _ I1 q) fun us s2 ⟨vs, H2, I2, r, q4⟩ => ⟨I2.kIn, q3 pins s2 σ H2 (.ref a :: vs) (.ref a :: us) Q I2 (.cons rfl r) q4⟩
theorem pe_methA0 {pl : Sem Bool} {o : Expr} {m : Str} {apos pos : Pos} {ta : TE} {Kn : Nat → Prop} {R : Nat → List V → Hp → VK → Prop} (he : PE X o ta) (ok : ∀ c, Kn c → Cls X.K (W.cl c) ∧ ∃ f, Meth X.K (W.cl c) m f ∧ CallR X (.ref f) (R c))
    (ht : eval (.Call (.Attribute o m apos) [] [] pos) X.env = (do
      let ov ← eval o X.env
      standAt apos.atName
      let (f, first) ← holding [ov] (getMethod ov m pl)
      callWith pos f first (backTo pos (starEach [] X.env)) (backToKw pos (keywordEach [] X.env)))) :
    PE X (.Call (.Attribute o m apos) [] [] pos) (tMethA W m Kn R ta tNil) := by
  constructor
  intro pins s σ H Q I h
  apply PySem.W.methodCall_KW (pl := pl) _ ht
  apply thn (he.run pins s σ H _ I h)
  rintro u s1 ⟨x, H1, I1, rx, c, a, dx, fs, kc, ex, ea, l, q⟩
  subst ex
  cases (show u = Value.ref a from rx)
  obtain ⟨q1, f, q2, q3⟩ := ok c kc
  apply getmeth_ok I1 ea q1 q2 l
  exact PySem.W.callWith_K0 (first := [.ref a]) I1.kIn q2.kp (q3 pins s1 σ H1 [.ref a] [.ref a] Q I1 (.cons rfl .nil) q)
theorem method_eq {o : Expr} {m : Str} {apos pos : Pos} {args : List Expr} {env : Env} (hb : baseB o = true) (hf : args.all notStar = true) (hn : args.length < 30) (hl : (apos.endLine == pos.line) = true) : eval (.Call (.Attribute o m apos) args [] pos) env = (do
      let ov ← eval o env
      standAt apos.atName
      let (f, first) ← holding [ov] (getMethod ov m (do return (← importBound o env).getD true))
      callWith pos f first (backTo pos (starEach args env)) (backToKw pos (keywordEach [] env))) := by
  have hfew := bm_few (pos := pos) (env := env) hf hn
  have hform : methodCallForm (args.length + ([] : List Keyword).length) (backTo pos (starEach args env)) (backToKw pos (keywordEach [] env)) = true := hfew
  have hpos : methodCallPos true o env apos pos = pure pos := by unfold methodCallPos; simp [hl]
  rw [arm_eval_Call, base_any hb]
  congr 1
  funext ov
  congr 1
  funext u
  unfold methodCall
  rw [hform]
  rw [hpos]
  rfl
/-- the object ahead of the arguments -/
def aSelfM (c : Nat) (m : Str) (P : PF) (P' : PAF) : PAF := fun env => do
  let (ra, e1) ← P env
  match ra with
  | .dat (.obj c' fs) => if c' = c ∧ fs.lookup m = none then (P' e1).map fun r => (ra :: r.1, r.2) else none
  | _ => none
/-- ms: the method of each class: which parameters behind self it changes, what it makes -/
def pMeth (ms : Nat → Option (List Bool × DF)) (m : Str) (P : PF) (P' : PAF) : PF := fun env => match P env with
  | some (.dat (.obj c _), _) => (match ms c with
    | some q => pFn (false :: q.1) q.2 (aSelfM c m P P') env
    | none => none)
  | _ => none
theorem RpF.none {G : Hp} {f : Str} : ∀ {fv : List (Str × V)} {fd : List (Str × D)}, RpF W G fv fd → fd.lookup f = Option.none → fv.lookup f = Option.none
  | _, _, .nil, _ => rfl
  | (k, v) :: fv, (_, d') :: fd, .cons a r, h => by
    rw [List.lookup_cons] at h ⊢
    by_cases e : f == k
    · simp only [e] at h; cases h
    · have e' : (f == k) = false := by simpa using e
      simp only [e'] at h ⊢
      exact RpF.none r h
theorem meth_tE {ms : Nat → Option (List Bool × DF)} {m : Str} {P : PF} {P' : PAF} {σ : St} {H : Hp} {Q : VK} {E : XK} (h : tE W (pMeth ms m P P') σ H Q) :
    tMethA W m (fun c => (ms c).isSome = true) (fun c vs H Q => ∃ q, ms c = some q ∧ spF W (q.1.length + 1) q.2 (vs ++ []) H Q E) (tE W P) (tA W P') σ H Q := by
  obtain ⟨env, G, rv, env', r, p, k⟩ := h
  unfold pMeth at p
  split at p
  · rename_i c fs0 e0 hP
    split at p
    · rename_i qq hq
      have h2 : tE W (pFn (false :: qq.1) qq.2 (aSelfM c m P P')) σ H Q := ⟨env, G, rv, env', r, p, k⟩
      have h3 : tA W (aSelfM c m P P') σ H fun vs H1 => spF W (qq.1.length + 1) qq.2 (vs ++ []) H1 Q E := fn_tE h2
      clear h2 k p hP r
      obtain ⟨env, G, rvs, env', r, p, k⟩ := h3
      unfold aSelfM at p
      simp only [Option.bind_eq_bind, Option.bind_eq_some_iff, Prod.exists] at p
      obtain ⟨ra, e1, h1, p⟩ := p
      split at p
      · rename_i c' fs
        split at p
        · rename_i hc
          simp only [Option.map_eq_some_iff, Prod.exists, Prod.mk.injEq] at p
          obtain ⟨rs, e2, h4, rfl, rfl⟩ := p
          refine tE_one r h1 fun v H1 G1 s o => ?_
          have o' : Rp W G1 v (.obj c' fs) := o
          obtain ⟨a, dx, fv, rfl, ha, rf⟩ := (Vw.rp (H := H1) o').obj s.rel.sub
          refine ⟨c', a, dx, fv, (by show (ms c').isSome = true; rw [hc.1, hq]; rfl), rfl, ha, rf.none hc.2, e1, G1, rs, e2, s.rel, h4, fun vs H2 G2 s2 o2 => ?_⟩
          refine ⟨qq, by rw [hc.1]; exact hq, ?_⟩
          refine k (.ref a :: vs) H2 G2 (s.trans s2) (.cons (Rp.mono s2.ext.same o') (fun d e i ed _ => nomatch ed) (o2.base s.ext.dom))
        · cases p
      · cases p
    · cases p
  · cases p
end
end Den
end

section
set_option Elab.async false
set_option linter.all false
set_option maxRecDepth 100000
set_option maxHeartbeats 4000000
/-! DenK5: operators, comparisons, repr, truth of own objects. -/
namespace Den
open PySem L2
theorem relV_ni {v : V} {u : Value} (r : RelV v u) : u ≠ .notImplemented := by
  cases v <;> (rintro rfl; first | (obtain ⟨_, z⟩ := r; cases z; done) | (cases r; done))
theorem cmpBack_of {Q : Value → Shared → Prop} {u : Value} {s : Shared} (h : u ≠ .notImplemented) (q : Q u s) : PySem.W.CmpBack Q u s := by
  cases u <;> first | exact q | exact (h rfl).elim
section
variable {X : Cx} {W : Pw}
/-- an own def at a call within an operator -/
theorem own_back {f : Addr} {r : List V → Hp → VK → Prop} (h : CallR X (.ref f) r) {pins : List (Addr × Obj)} {s : Shared} {σ : L2.St} {H : Hp} {xs : List V} {us : List Value} {Q : VK} (I : Inv X pins σ H s) (rr : Vals xs us) (q : r xs H Q) :
    wpAny (model X.prog X.w) X.A (call (.ref f) us) (PySem.W.CmpBack (EP X pins σ Q)) X.xe s :=
  wpAny_mono (h pins s σ H xs us Q I rr q) (fun u s' e => by
    obtain ⟨v, H', I', rv, q'⟩ := e
    exact cmpBack_of (relV_ni rv) ⟨v, H', I', rv, q'⟩) fun _ _ e => e

/-- the built-in types that may stand beside an own object in its operators -/
structure OwnBin (K : PySem.W.Frag) (C f : Addr) (nm : String) : Prop where
  at_ : PySem.W.findIn K (.ref C) (PySem.dunder nm) = some (some (.ref f))
  fn : PySem.W.isFn K (.ref f) = true
  self : PySem.W.selfFirst K C = true
  refl : ∃ rc, PySem.W.findIn K (.ref C) (dunderR nm) = some rc ∧ (rc = none ∨ ∃ g : Addr, rc = some (.ref g))
  int1 : ∃ fo, PySem.W.findIn K (.type "int") (PySem.dunder nm) = some fo
  int2 : ∃ ro, PySem.W.findIn K (.type "int") (dunderR nm) = some ro
  sub : PySem.W.subIn K (.type "int") (.ref C) = some false
/-- x op y, x an own object, y of the same class or an int -/
def rOwnL (W : Pw) (l : Nat → Option DF) : R2 := fun x y H Q => ∃ c a dx fs F, l c = some F ∧ x = .ref a ∧ H a = some (.ins (W.cl c) dx fs) ∧ ((∃ b dy gs, y = .ref b ∧ H b = some (.ins (W.cl c) dy gs)) ∨ ∃ i, y = .int i) ∧ spF W 2 F [x, y] H Q fun _ _ _ => False
/-- what an own def at f makes of n arguments -/
def OwnFn (X : Cx) (W : Pw) (n : Nat) (f : Addr) (F : DF) : Prop := CallR X (.ref f) fun vs H Q => spF W n F vs H Q fun _ _ _ => False
theorem opr_ownL {l : Nat → Option DF} {op : Operator} (ok : ∀ c F, l c = some F → ∃ f, OwnBin X.K (W.cl c) f op.info.2 ∧ OwnFn X W 2 f F) : OpR X (binaryOp op) (rOwnL W l) := by
  intro pins s σ H x y v u Q I rx ry h
  obtain ⟨c, a, dx, fs, F, hl, rfl, ha, hy, hq⟩ := h
  obtain ⟨f, B, cr⟩ := ok c F hl
  cases (show v = Value.ref a from rx)
  obtain ⟨mA, J, _⟩ := ins_get I.hok ha
  obtain ⟨od, J, _⟩ := J.look
  obtain ⟨m, hF⟩ := I.fr
  have go := own_back cr I (.cons (show RelV (V.ref a) (Value.ref a) from rfl) (.cons ry .nil)) hq
  rcases hy with ⟨b, dy, gs, rfl, hb⟩ | ⟨i, rfl⟩
  · cases (show u = Value.ref b from ry)
    obtain ⟨mB, J', _⟩ := ins_get I.hok hb
    obtain ⟨od', J', _⟩ := J'.look
    exact PySem.W.binop_K hF I.ok.mod.kin J J'.type B.self B.at_ B.fn go
  · obtain ⟨t, rfl⟩ := (show ∃ t, u = Value.int i t from ry)
    obtain ⟨rc, r1, r2⟩ := B.refl
    obtain ⟨fo, h1⟩ := B.int1
    obtain ⟨ro, h2⟩ := B.int2
    exact PySem.W.ksp_binT hF I.ok.mod.kin J rfl B.self B.at_ B.fn r1 r2 h1 h2 B.sub go

end
/-! ### an own def called within a built-in -/
section
variable {X : Cx} {W : Pw}
theorem env0_at {A : Around} {pins : List (Addr × Obj)} {σ : L2.St} {H : Hp} {s : Shared} (I : Inv X pins σ H s) (hf : A.frames = X.A.frames) : Env0 X.prog X.w X.K X.mg X.base A X.stack s H := by
  have e := I.env0
  exact ⟨by rw [hf]; exact e.frames, e.mod, e.bs, e.bsz, e.funs, e.frf, e.hok, e.bare⟩
theorem FnG.at_ {k : Nat} {f : Addr} {fd : FuncData} {ps : List Str} {sp : Sp} {E : XK} {A : Around} {pins : List (Addr × Obj)} {s : Shared} {σ : L2.St} {H : Hp} {vs : List V} {us : List Value} {Q : VK}
    (F : FnG X.prog X.w X.K X.mg X.base k f fd ps sp) (hb : Binds X.K fd ps []) (hg : A.guards = some []) (hr : Room k A) (hf : A.frames = X.A.frames) (I : Inv X pins σ H s) (r : Vals vs us) (h : sp vs H Q E) :
    wpAny (model X.prog X.w) A (call (.ref f) us) (EP X pins σ Q) X.xe s := by
  have ll : us.length = ps.length := r.length ▸ F.len _ _ _ _ h
  apply wpAny_call
  have bb := hb s us I.kIn (by simpa using ll)
  apply codeAny_mono (F.run A X.stack s H ⟨us, []⟩ us vs Q E hg hr (env0_at I hf) (by simpa using bb) r h)
  intro res s' hq
  cases res with
  | error e => exact hq.elim
  | ok fl =>
    cases fl with
    | ret u => exact I.after hq
    | next => exact hq.elim
    | brk => exact hq.elim
    | cont => exact hq.elim
/-- an own def at f that takes n, and what it makes -/
def OwnAt (X : Cx) (W : Pw) (n : Nat) (f : Addr) (F : DF) : Prop := ∃ k fd ps, FnG X.prog X.w X.K X.mg X.base k f fd ps (spF W n F) ∧ Room (k + 1) X.A ∧ Binds X.K fd ps []
theorem OwnAt.callR {n : Nat} {f : Addr} {F : DF} (h : OwnAt X W n f F) (hg : X.A.guards = some []) : OwnFn X W n f F := by
  obtain ⟨k, fd, ps, G, hr, hb⟩ := h
  intro pins s σ H vs us Q I r q
  exact G.at_ hb hg (hr.mono (Nat.le_succ k)) rfl I r q
theorem OwnAt.in1 {n : Nat} {f : Addr} {F : DF} (h : OwnAt X W n f F) (hg : X.A.guards = some []) {pins : List (Addr × Obj)} {s : Shared} {σ : L2.St} {H : Hp} {vs : List V} {us : List Value} {Q : VK} (I : Inv X pins σ H s) (r : Vals vs us)
    (q : spF W n F vs H Q fun _ _ _ => False) : wpAny (model X.prog X.w) X.A.in1 (call (.ref f) us) (EP X pins σ Q) X.xe s := by
  obtain ⟨k, fd, ps, G, hr, hb⟩ := h
  exact G.at_ hb hg hr.in1 rfl I r q

/-! ### int op own -/
structure OwnRBin (K : PySem.W.Frag) (C g : Addr) (nm : String) : Prop where
  at_ : PySem.W.findIn K (.ref C) (dunderR nm) = some (some (.ref g))
  fn : PySem.W.isFn K (.ref g) = true
  self : PySem.W.selfFirst K C = true
  left : ∃ f : Addr, PySem.W.findIn K (.ref C) (PySem.dunder nm) = some (some (.ref f))
  sub : PySem.W.subIn K (.ref C) (.type "int") = some false
/-- an int's own operator declines an own object -/
structure IntDecl (op : Operator) (id : String) : Prop where
  fills : fillsNumberSlot (.type "int") op.info.2 = pure true
  slot : PySem.Slot "int" (PySem.dunder op.info.2) id
  run : ∀ {prog : Program} {w : World} {A : Around} {E : Value → Shared → Prop} {s : Shared} {Q : Value → Shared → Prop} {a : Int} {t : Tok} {l C dx : Addr}, s.heap.get? l = some (PySem.W.instObj C dx) → Q .notImplemented s →
    wpAny (model prog w) A (call (.builtin id) [.int a t, .ref l]) Q E s
theorem declAdd : IntDecl .Add "int.__add__" := ⟨PySem.F.fills_int_add, PySem.F.slot_int_add, fun {prog w A E s Q a t l C dx} h q => by
  refine wpAny_call_entry PySem.F.slot_int_add (PySem.typeIs_int s a t) PySem.F.entry_int_add ?_ (PySem.F.args_int_add_2 _ _)
  obtain ⟨hp, g, d, tk, os⟩ := s
  unfold Builtin.«int.__add__» Builtin.Int.intBinary
  wp_walk
  exact ⟨_, rfl, q⟩⟩
theorem declSub : IntDecl .Sub "int.__sub__" := ⟨PySem.F.fills_int_sub, PySem.F.slot_int_sub, fun {prog w A E s Q a t l C dx} h q => by
  refine wpAny_call_entry PySem.F.slot_int_sub (PySem.typeIs_int s a t) PySem.F.entry_int_sub ?_ (PySem.F.args_int_sub_2 _ _)
  obtain ⟨hp, g, d, tk, os⟩ := s
  unfold Builtin.«int.__sub__» Builtin.Int.intBinary
  wp_walk
  exact ⟨_, rfl, q⟩⟩
theorem declMul : IntDecl .Mult "int.__mul__" := ⟨PySem.F.fills_int_mul, PySem.F.slot_int_mul, fun {prog w A E s Q a t l C dx} h q => by
  refine wpAny_call_entry PySem.F.slot_int_mul (PySem.typeIs_int s a t) PySem.F.entry_int_mul ?_ (PySem.F.args_int_mul_2 _ _)
  obtain ⟨hp, g, d, tk, os⟩ := s
  unfold Builtin.«int.__mul__» Builtin.Int.intBinary
  wp_walk
  exact ⟨_, rfl, q⟩⟩
theorem binR_K {prog : Program} {w : World} {A : Around} {E : Value → Shared → Prop} {s : Shared} {K : PySem.W.Frag} {b C dx L g : Addr} {h₀ : Heap} {m : Str → Option Value} {od : Option Obj} {op : Operator} {id : String} {i : Int} {t : Tok} {Q : Value → Shared → Prop}
    (D : IntDecl op id) (F : PyProof.Rows.Fr h₀ L s.heap m) (X₀ : K.In h₀) (J : PySem.W.InstAt s.heap b (PySem.W.instObj C dx) C od) (B : OwnRBin K C g op.info.2) (h : wpAny (model prog w) A (call (.ref g) [.ref b, .int i t]) (PySem.W.CmpBack Q) E s) :
    wpAny (model prog w) A (binaryOp op (.int i t) (.ref b)) Q E s := by
  have X := X₀.keeps F.keep
  obtain ⟨cd, rest, hcd, hm⟩ := PySem.W.ksp_first B.self
  obtain ⟨f, hl⟩ := B.left
  rcases hi : op.info with ⟨sym, nm⟩
  have at_ := B.at_
  have fl := D.fills
  have sl := D.slot
  rw [hi] at hl at_ fl sl
  dsimp only at hl at_ fl sl
  have fills : PySem.W.Looks (model prog w) s.heap (fillsNumberSlot (.ref C) nm) true := PySem.W.fills_K X hcd hm hl
  have one := PySem.W.ksp_try X J at_ B.fn h
  simp only [binaryOp, hi]
  refine wpAny_holding (wpAny_bind ?_)
  simp only [binaryOp1]
  have hne : (Value.type "int" == Value.ref C) = false := rfl
  refine wpAny_bind (PySem.wpAny_typeOf (PySem.typeIs_int s i t) (wpAny_bind (J.type.here (wpAny_bind (PySem.wpAny_of_eq fl ?_)))))
  simp only [hne, Bool.false_eq_true, if_false]
  refine wpAny_bind (fills.here ?_)
  simp only [Bool.and_self, if_true]
  refine wpAny_bind ((PySem.W.looks_subIn X B.sub).here ?_)
  have hpy : numberSlotInPython (.type "int") nm = pure false := rfl
  simp only [Bool.false_eq_true, if_false, pure_bind, Bool.not_false, Bool.and_self, if_true, hpy]
  refine wpAny_bind (PySem.wpAny_tryMethod_declines (PySem.typeIs_int s i t) sl (D.run J.at_ ⟨rfl, ?_⟩))
  refine wpAny_bind (wpAny_mono one (fun r s' hr => ?_) fun _ _ e => e)
  obtain ⟨v, rfl, hq⟩ := hr
  exact wpAny_bind (PySem.wpAny_rule (wpAny_pure (wpAny_pure hq)))
def rOwnR (W : Pw) (l : Nat → Option DF) : R2 := fun x y H Q => ∃ c b dx fs F i, l c = some F ∧ x = .int i ∧ y = .ref b ∧ H b = some (.ins (W.cl c) dx fs) ∧ spF W 2 F [y, x] H Q fun _ _ _ => False
theorem opr_ownR {l : Nat → Option DF} {op : Operator} {id : String} (D : IntDecl op id) (ok : ∀ c F, l c = some F → ∃ g, OwnRBin X.K (W.cl c) g op.info.2 ∧ OwnFn X W 2 g F) : OpR X (binaryOp op) (rOwnR W l) := by
  intro pins s σ H x y v u Q I rx ry h
  obtain ⟨c, b, dx, fs, F, i, hl, rfl, rfl, hb, hq⟩ := h
  obtain ⟨g, B, cr⟩ := ok c F hl
  obtain ⟨t, rfl⟩ := (show ∃ t, v = Value.int i t from rx)
  cases (show u = Value.ref b from ry)
  obtain ⟨mA, J, _⟩ := ins_get I.hok hb
  obtain ⟨od, J, _⟩ := J.look
  obtain ⟨m, hF⟩ := I.fr
  exact binR_K D hF I.ok.mod.kin J B (own_back cr I (.cons (show RelV (V.ref b) (Value.ref b) from rfl) (.cons rx .nil)) hq)

/-! ### - own -/
structure OwnUn (K : PySem.W.Frag) (C f : Addr) (nm : Str) : Prop where
  at_ : PySem.W.findIn K (.ref C) nm = some (some (.ref f))
  fn : PySem.W.isFn K (.ref f) = true
def rOwnU (W : Pw) (l : Nat → Option DF) : V → Hp → VK → Prop := fun x H Q => ∃ c a dx fs F, l c = some F ∧ x = .ref a ∧ H a = some (.ins (W.cl c) dx fs) ∧ spF W 1 F [x] H Q fun _ _ _ => False
theorem unr_neg {l : Nat → Option DF} (ok : ∀ c F, l c = some F → ∃ f, OwnUn X.K (W.cl c) f "__neg__" ∧ OwnFn X W 1 f F) : UnR X (unaryOp .USub) (rOwnU W l) := by
  intro pins s σ H x v Q I rx h
  obtain ⟨c, a, dx, fs, F, hl, rfl, ha, hq⟩ := h
  obtain ⟨f, B, cr⟩ := ok c F hl
  cases (show v = Value.ref a from rx)
  obtain ⟨mA, J, _⟩ := ins_get I.hok ha
  obtain ⟨od, J, _⟩ := J.look
  obtain ⟨m, hF⟩ := I.fr
  exact PySem.W.ksp_neg hF I.ok.mod.kin J B.at_ B.fn (cr pins s σ H _ _ Q I (.cons rx .nil) hq)
/-! ### repr of own, str() -/
theorem strBack_of {Q : V → Hp → Prop} {pins : List (Addr × Obj)} {σ : L2.St} {u : Value} {s : Shared} (h : EP X pins σ (fun v H' => (∃ z, v = .str z) ∧ Q v H') u s) : PySem.W.StrBack (EP X pins σ Q) u s := by
  obtain ⟨v, H', I', rv, ⟨z, rfl⟩, q⟩ := h
  obtain ⟨t, rfl⟩ := (show ∃ t, u = Value.str z t from rv)
  exact ⟨_, H', I', rv, q⟩
def rOwnRepr (W : Pw) (l : Nat → Option DF) : List V → Hp → VK → Prop := fun xs H Q => ∃ c a dx fs F, l c = some F ∧ xs = [.ref a] ∧ H a = some (.ins (W.cl c) dx fs) ∧ spF W 1 F xs H (fun v H' => (∃ z, v = .str z) ∧ Q v H') fun _ _ _ => False
theorem cr_ownRepr {l : Nat → Option DF} (hg : X.A.guards = some []) (hu : X.A.units + 64 < cLine) (ok : ∀ c F, l c = some F → ∃ f, OwnUn X.K (W.cl c) f "__repr__" ∧ OwnAt X W 1 f F) : CallR X (.builtin "repr") (rOwnRepr W l) := by
  intro pins s σ H xs us Q I r h
  obtain ⟨c, a, dx, fs, F, hl, rfl, ha, hq⟩ := h
  obtain ⟨f, B, cr⟩ := ok c F hl
  obtain ⟨u, rfl, ru⟩ := r.one
  cases (show u = Value.ref a from ru)
  obtain ⟨mA, J, _⟩ := ins_get I.hok ha
  obtain ⟨od, J, _⟩ := J.look
  obtain ⟨m, hF⟩ := I.fr
  exact PySem.W.repr_K (by show X.A.units + 1 < cLine; omega) hF I.ok.mod.kin J B.at_ B.fn (wpAny_mono (cr.in1 hg I (.cons ru .nil) hq) (fun u s' e => strBack_of e) fun _ _ e => e)

/-! ### own == y, own != y -/
structure OwnEq (K : PySem.W.Frag) (C f : Addr) : Prop where
  at_ : PySem.W.findIn K (.ref C) "__eq__" = some (some (.ref f))
  fn : PySem.W.isFn K (.ref f) = true
  ne : PySem.W.findIn K (.ref C) "__ne__" = some (some (.builtin "object.__ne__"))
  obj : PySem.W.mroIn K C (.type "object") = some true
/-- what stands beside it: of the same class, or of a built-in type -/
def EqSide (W : Pw) (K : PySem.W.Frag) (H : Hp) (c : Nat) (y : V) : Prop := (∃ b dy gs, y = .ref b ∧ H b = some (.ins (W.cl c) dy gs)) ∨ ∃ T, TyX K H y (.type T) ∧ PySem.W.notFirst K (W.cl c) (.type T) = true
def rOwnEq (W : Pw) (K : PySem.W.Frag) (neg : Bool) (l : Nat → Option DF) : R2 := fun x y H Q => ∃ c a dx fs F, l c = some F ∧ x = .ref a ∧ H a = some (.ins (W.cl c) dx fs) ∧ EqSide W K H c y ∧
  spF W 2 F [x, y] H (fun v H' => ∃ b, v = .bl b ∧ Q (.bl (if neg then !b else b)) H') fun _ _ _ => False
theorem side_looks {pins : List (Addr × Obj)} {σ : L2.St} {H : Hp} {s : Shared} {c : Nat} {y : V} {u : Value} (I : Inv X pins σ H s) (ry : RelV y u) (h : EqSide W X.K H c y) : ∃ tb, (∀ M, PySem.W.Looks M s.heap (typeOf u) tb) ∧ PySem.W.notFirst X.K (W.cl c) tb = true := by
  rcases h with ⟨b, dy, gs, rfl, hb⟩ | ⟨T, ht, hn⟩
  · cases (show u = Value.ref b from ry)
    obtain ⟨mB, J', _⟩ := ins_get I.hok hb
    obtain ⟨od', J', _⟩ := J'.look
    exact ⟨.ref (W.cl c), fun M => J'.type, by simp [PySem.W.notFirst]⟩
  · obtain ⟨P, Z, p, _⟩ := kit_of I ry ht
    exact ⟨_, fun M => Z.ty M _ I.kIn p, hn⟩
theorem opr_ownEq {l : Nat → Option DF} (hu : X.A.units + 64 < cLine) (ok : ∀ c F, l c = some F → ∃ f, OwnEq X.K (W.cl c) f ∧ OwnFn X W 2 f F) : OpR X (compareOp .Eq) (rOwnEq W X.K false l) := by
  intro pins s σ H x y v u Q I rx ry h
  obtain ⟨c, a, dx, fs, F, hl, rfl, ha, hy, hq⟩ := h
  obtain ⟨f, B, cr⟩ := ok c F hl
  cases (show v = Value.ref a from rx)
  obtain ⟨mA, J, _⟩ := ins_get I.hok ha
  obtain ⟨od, J, _⟩ := J.look
  obtain ⟨m, hF⟩ := I.fr
  obtain ⟨tb, lk, nf⟩ := side_looks I ry hy
  show wpAny (model X.prog X.w) X.A (richCompare .Eq (.ref a) u) (EP X pins σ Q) X.xe s
  refine PySem.W.cmp_K (op := .Eq) (by omega) hF I.ok.mod.kin J (lk _) nf B.at_ B.fn ?_
  refine wpAny_mono (cr pins s σ H _ _ _ I (.cons (show RelV (V.ref a) (Value.ref a) from rfl) (.cons ry .nil)) hq) (fun w s' e => ?_) fun _ _ e => e
  obtain ⟨z, H', I', rv, b, rfl, q⟩ := e
  cases (show w = Value.bool b from rv)
  exact cmpBack_of (fun z => nomatch z) ⟨.bl b, H', I', rfl, q⟩
theorem ifBound_B {M : Model} {A : Around} {E : Value → Shared → Prop} {s : Shared} {K : PySem.W.Frag} {x C : Addr} {ox : Obj} {od : Option Obj} {name : Str} {id : String} {args : List Value} {Q : Option Value → Shared → Prop} (X : K.In s.heap) (I : PySem.W.InstAt s.heap x ox C od)
    (hs : PySem.W.findIn K (.ref C) name = some (some (.builtin id))) (hb : ∀ self, bindSpecial (.builtin id) self = pure (.builtin id, [self]))
    (h : wpAny M A (call (.builtin id) (.ref x :: args)) (fun v => Q (some v)) E s) : wpAny M A (callSpecialIfBound? (.ref x) name args) Q E s := by
  simp only [callSpecialIfBound?, bindSpecialIfBound?]
  refine wpAny_holding (wpAny_bind (wpAny_bind (wpAny_bind (I.type.here ((PySem.W.looks_findIn X hs).here ?_)))))
  refine wpAny_bind (wpAny_askSetting (wpAny_ite ?_))
  have fin : wpAny M A (call (.builtin id) ([.ref x] ++ args) >>= fun v => pure (some v)) Q E s := wpAny_bind (wpAny_mono h (fun v s' h' => wpAny_pure h') fun _ _ h' => h')
  split
  · exact wpAny_bind ((PySem.W.Looks.of_pure (hb _)).here (wpAny_pure (by exact fin)))
  · exact wpAny_tryCatch (wpAny_bind ((PySem.W.Looks.of_pure (hb _)).here (wpAny_pure (by exact fin))))
theorem ne_K {prog : Program} {w : World} {A : Around} {E : Value → Shared → Prop} {s : Shared} {K : PySem.W.Frag} {x C L f : Addr} {h₀ : Heap} {m : Str → Option Value} {ox : Obj} {od : Option Obj} {b tb : Value} {Q : Value → Shared → Prop}
    (hu : A.units + 1 < cLine) (F : PyProof.Rows.Fr h₀ L s.heap m) (X₀ : K.In h₀) (I : PySem.W.InstAt s.heap x ox C od) (hb : PySem.W.Looks (model prog w) s.heap (typeOf b) tb) (hn : PySem.W.notFirst K C tb = true) (B : OwnEq K C f)
    (h : wpAny (model prog w) A.in1 (call (.ref f) [.ref x, b]) (fun v s' => ∃ r, v = .bool r ∧ Q (.bool (!r)) s') E s) : wpAny (model prog w) A (richCompare .NotEq (.ref x) b) Q E s := by
  have X := X₀.keeps F.keep
  have one : wpAny (model prog w) A (tryCompare (.ref x) (cmpInfo .NotEq).2.1 b) (fun r s' => ∃ v, r = some v ∧ Q v s') E s := by
    unfold tryCompare
    refine wpAny_bind (ifBound_B X I B.ne PySem.F.slot_object_ne.bind ?_)
    refine wpAny_call (codeAny_call_builtin PySem.F.slot_object_ne.plain PySem.F.entry_object_ne (PySem.W.check_slot (i := "object.__ne__") (owner := "object") (n := "__ne__") (by decide +kernel) (by decide +kernel) (I.type.andThen (PySem.W.looks_mroIn X B.obj)) (PySem.F.args_object_ne_2 _ _) ?_))
    unfold Builtin.«object.__ne__»
    refine wpAny_bind (m := slotArgs "__ne__" 1 _) (wpAny_pure ?_)
    refine wpAny_bind (m := cRoomFor _ _) (wpAny_cRoomFor (by show A.units + 1 < cLine; exact hu) ?_)
    refine wpAny_bind (m := callSpecialIfBound? (.ref x) (Str.ofString "__eq__") _) (PySem.W.ifBound_K X I B.at_ B.fn (wpAny_mono h (fun r s' hq => ?_) fun _ _ y => y))
    obtain ⟨r, rfl, q⟩ := hq
    refine wpAny_bind (m := truthy (.bool _)) (wpAny_truthy_bool ?_)
    first | exact wpAny_pure ⟨_, rfl, wpAny_pure ⟨_, rfl, q⟩⟩ | exact ⟨_, rfl, wpAny_pure ⟨_, rfl, q⟩⟩ | exact wpAny_pure (wpAny_pure ⟨_, rfl, q⟩) | exact ⟨_, rfl, wpAny_pure (wpAny_pure ⟨_, rfl, q⟩)⟩
  unfold richCompare
  simp only [oneThing_ref]
  refine wpAny_holding (wpAny_bind (wpAny_cRoomFor (by omega) ?_))
  refine wpAny_bind (I.type.here (wpAny_bind (hb.here ?_)))
  split
  · rename_i q
    have e : PySem.W.subIn K tb (.ref C) = some false := by
      rcases Bool.or_eq_true_iff.mp hn with e | e
      · rw [beq_iff_eq.mp e] at q; simp at q
      · exact beq_iff_eq.mp e
    refine wpAny_bind ((PySem.W.looks_subIn X e).here ?_)
    simp only [Bool.false_eq_true, if_false]
    refine wpAny_bind (wpAny_mono one (fun r s' z => ?_) fun _ _ e => e)
    obtain ⟨v, rfl, hq⟩ := z
    exact wpAny_pure hq
  · refine wpAny_bind (wpAny_pure ?_)
    simp only [Bool.false_eq_true, if_false]
    refine wpAny_bind (wpAny_mono one (fun r s' z => ?_) fun _ _ e => e)
    obtain ⟨v, rfl, hq⟩ := z
    exact wpAny_pure hq
theorem opr_ownNe {l : Nat → Option DF} (hg : X.A.guards = some []) (hu : X.A.units + 64 < cLine) (ok : ∀ c F, l c = some F → ∃ f, OwnEq X.K (W.cl c) f ∧ OwnAt X W 2 f F) : OpR X (compareOp .NotEq) (rOwnEq W X.K true l) := by
  intro pins s σ H x y v u Q I rx ry h
  obtain ⟨c, a, dx, fs, F, hl, rfl, ha, hy, hq⟩ := h
  obtain ⟨f, B, cr⟩ := ok c F hl
  cases (show v = Value.ref a from rx)
  obtain ⟨mA, J, _⟩ := ins_get I.hok ha
  obtain ⟨od, J, _⟩ := J.look
  obtain ⟨m, hF⟩ := I.fr
  obtain ⟨tb, lk, nf⟩ := side_looks I ry hy
  show wpAny (model X.prog X.w) X.A (richCompare .NotEq (.ref a) u) (EP X pins σ Q) X.xe s
  refine ne_K (by omega) hF I.ok.mod.kin J (lk _) nf B ?_
  refine wpAny_mono (cr.in1 hg I (.cons (show RelV (V.ref a) (Value.ref a) from rfl) (.cons ry .nil)) hq) (fun w s' e => ?_) fun _ _ e => e
  obtain ⟨z, H', I', rv, b, rfl, q⟩ := e
  cases (show w = Value.bool b from rv)
  exact ⟨b, rfl, .bl (!b), H', I', rfl, q⟩
end
end Den
end

section
set_option Elab.async false
set_option linter.all false
set_option maxRecDepth 100000
set_option maxHeartbeats 4000000
/-! DenK6: what operators of own objects make of data. -/
namespace Den
open PySem L2
section
variable {X : Cx} {W : Pw}
/-! ### arguments one by one -/
theorem cons_tA {P : PF} {P' : PAF} {σ : L2.St} {H : Hp} {Q : List V → Hp → Prop} (h : tA W (aCons P P') σ H Q) : tE W P σ H fun v H1 => tA W P' σ H1 fun vs H2 => Q (v :: vs) H2 := by
  obtain ⟨env, G, rvs, env', r, p, k⟩ := h
  unfold aCons at p
  simp only [Option.bind_eq_bind, Option.bind_eq_some_iff, Prod.exists, Option.some.injEq, Prod.mk.injEq] at p
  obtain ⟨rv, e1, h1, rs, e2, h2, rfl, rfl⟩ := p
  refine tE_one r h1 fun v H1 G1 s o => ⟨e1, G1, rs, e2, s.rel, h2, fun vs H2 G2 s2 o2 => ?_⟩
  refine k (v :: vs) H2 G2 (s.trans s2) (.cons (o.step s.rel (fun b z => s.ownNe r z) s2) (fun d e i ed er => ?_) (o2.base s.ext.dom))
  subst ed
  obtain ⟨a, ob, ea, ha, _⟩ := o
  subst ea
  exact o2.fresh (by rw [ha]; simp) er
theorem nil_tA {σ : L2.St} {H : Hp} {Q : List V → Hp → Prop} (h : tA W aNil σ H Q) : Q [] H := by
  obtain ⟨env, G, rvs, env', r, p, k⟩ := h
  cases p
  exact k [] H G (Step.refl r) .nil
theorem tE_imp {P : PF} {σ : L2.St} {H : Hp} {Q Q' : VK} (h : tE W P σ H Q) (k : ∀ v H', Q v H' → Q' v H') : tE W P σ H Q' := by
  obtain ⟨env, G, rv, env', r, p, kk⟩ := h
  exact ⟨env, G, rv, env', r, p, fun v H' G' s o => k v H' (kk v H' G' s o)⟩
theorem tA_imp {P : PAF} {σ : L2.St} {H : Hp} {Q Q' : List V → Hp → Prop} (h : tA W P σ H Q) (k : ∀ v H', Q v H' → Q' v H') : tA W P σ H Q' := by
  obtain ⟨env, G, rv, env', r, p, kk⟩ := h
  exact ⟨env, G, rv, env', r, p, fun v H' G' s o => k v H' (kk v H' G' s o)⟩
theorem two_tA {P P' : PF} {σ : L2.St} {H : Hp} {R : V → V → Hp → Prop} (h : tA W (aCons P (aCons P' aNil)) σ H fun vs H2 => ∃ x y, vs = [x, y] ∧ R x y H2) : tE W P σ H fun x H1 => tE W P' σ H1 fun y H2 => R x y H2 :=
  tE_imp (cons_tA h) fun x H1 q => tE_imp (cons_tA q) fun y H2 z => by
    obtain ⟨x', y', e, z⟩ := nil_tA z
    cases e
    exact z
theorem one_tA {P : PF} {σ : L2.St} {H : Hp} {R : V → Hp → Prop} (h : tA W (aCons P aNil) σ H fun vs H2 => ∃ x, vs = [x] ∧ R x H2) : tE W P σ H fun x H1 => R x H1 :=
  tE_imp (cons_tA h) fun x H1 z => by
    obtain ⟨x', e, z⟩ := nil_tA z
    cases e
    exact z
/-! ### looks at what is passed -/
/-- the class of an own object (no slot's) -/
def RV.cls : RV → Option Nat
  | .dat (.obj c _) => some c
  | .own (.obj c _) => some c
  | _ => none
theorem RvOk.isObj {σ : L2.St} {H H' G' : Hp} {v : V} {rv : RV} {c : Nat} (h : RvOk W σ H H' G' v rv) (s : Same G' H') (e : rv.cls = some c) : ∃ a dx fs, v = .ref a ∧ H' a = some (.ins (W.cl c) dx fs) := by
  cases rv with
  | slot j => cases e
  | dat d =>
    cases d <;> cases e
    cases (show Rp W G' v _ from h) with
    | obj q r => exact ⟨_, _, _, rfl, s _ _ q⟩
  | own d =>
    cases d <;> cases e
    obtain ⟨a, o, rfl, ha, _, _, ob⟩ := h
    cases ob with
    | obj r => exact ⟨_, _, _, rfl, ha⟩
def aChk (f : List RV → Bool) (P : PAF) : PAF := fun env => (P env).bind fun r => if f r.1 then some r else none
theorem chk_tA {f : List RV → Bool} {P : PAF} {σ : L2.St} {H : Hp} {Q : List V → Hp → Prop} (h : tA W (aChk f P) σ H Q) : tA W P σ H fun vs H' => Q vs H' ∧ ∃ rvs G' H0, f rvs = true ∧ Same G' H' ∧ RvsOk W σ H0 H' G' vs rvs := by
  obtain ⟨env, G, rvs, env', r, p, k⟩ := h
  unfold aChk at p
  simp only [Option.bind_eq_some_iff, Prod.exists] at p
  obtain ⟨rs, e1, h1, p⟩ := p
  split at p
  · rename_i hf
    cases p
    exact ⟨env, G, rvs, env', r, h1, fun vs H' G' s o => ⟨k vs H' G' s o, rvs, G', H, hf, s.rel.sub, o⟩⟩
  · cases p
/-! ### own op y, int op own -/
def sideB (c : Nat) : RV → Bool
  | .dat (.int _) => true
  | rv => rv.cls == some c
def chkL (c : Nat) : List RV → Bool
  | [ra, rb] => ra.cls == some c && sideB c rb
  | _ => false
def intB : RV → Bool
  | .dat (.int _) => true
  | _ => false
def chkR (c : Nat) : List RV → Bool
  | [rb, ra] => rb.cls == some c && intB ra
  | _ => false
def pOwnL (l : Nat → Option DF) (c : Nat) (P P' : PF) : PF := fun env => match l c with
  | some F => pFn [false, false] F (aChk (chkL c) (aCons P (aCons P' aNil))) env
  | none => none
def pOwnR (l : Nat → Option DF) (c : Nat) (P P' : PF) : PF := fun env => match l c with
  | some F => pFn [false, false] F (aChk (chkR c) (aPick [1, 0] (aCons P (aCons P' aNil)))) env
  | none => none
theorem fn_tA {io : List Bool} {F : DF} {P : PAF} {σ : L2.St} {H : Hp} {Q : VK} {E : XK} (h : tE W (pFn io F P) σ H Q) : tA W P σ H fun vs H1 => spF W io.length F vs H1 Q E := by
  have q : tA W P σ H fun vs H1 => spF W io.length F (vs ++ []) H1 Q E := fn_tE h
  exact tA_imp q fun vs H1 z => by simpa using z
theorem rvs2 {σ : L2.St} {H H' G' : Hp} {vs : List V} {ra rb : RV} (o : RvsOk W σ H H' G' vs [ra, rb]) : ∃ x y, vs = [x, y] ∧ RvOk W σ H H' G' x ra ∧ RvOk W σ H H' G' y rb := by
  cases o with
  | cons h _ t => cases t with
    | cons h2 _ t => cases t; exact ⟨_, _, rfl, h, h2⟩
theorem sideB_ok {σ : L2.St} {H H' G' : Hp} {y : V} {rb : RV} {c : Nat} (o : RvOk W σ H H' G' y rb) (s : Same G' H') (h : sideB c rb = true) : (∃ b dy gs, y = .ref b ∧ H' b = some (.ins (W.cl c) dy gs)) ∨ ∃ i, y = .int i := by
  unfold sideB at h
  split at h
  · cases (show Rp W G' y _ from o); exact .inr ⟨_, rfl⟩
  · exact .inl (o.isObj s (by simpa using h))
theorem ownL_tE {l : Nat → Option DF} {c : Nat} {P P' : PF} {σ : L2.St} {H : Hp} {Q : VK} (h : tE W (pOwnL l c P P') σ H Q) : tOp (rOwnL W l) (tE W P) (tE W P') σ H Q := by
  cases hl : l c with
  | none =>
    obtain ⟨env, G, rv, env', r, p, k⟩ := h
    unfold pOwnL at p
    rw [hl] at p
    cases p
  | some F =>
    have e : pOwnL l c P P' = pFn [false, false] F (aChk (chkL c) (aCons P (aCons P' aNil))) := by
      funext env; unfold pOwnL; rw [hl]
    rw [e] at h
    refine two_tA (tA_imp (chk_tA (fn_tA (E := fun _ _ _ => False) h)) fun vs H2 ⟨q, rvs, G', H0, hf, sb, o⟩ => ?_)
    unfold chkL at hf
    split at hf
    · simp only [Bool.and_eq_true, beq_iff_eq] at hf
      obtain ⟨x, y, rfl, o1, o2⟩ := rvs2 o
      obtain ⟨a, dx, fs, rfl, ha⟩ := o1.isObj sb hf.1
      exact ⟨_, _, rfl, c, a, dx, fs, F, hl, rfl, ha, sideB_ok o2 sb hf.2, q⟩
    · cases hf
theorem pick10 {P : PAF} {σ : L2.St} {H : Hp} {Q : List V → Hp → Prop} (h : tA W (aPick [1, 0] P) σ H Q) : tA W P σ H fun vs H1 => ∃ x y, vs = [x, y] ∧ Q [y, x] H1 :=
  tA_imp (pick_tA (is := [1, 0]) (by decide) (by decide) h) fun vs H1 ⟨q1, q2⟩ => by
    match vs, q1 with
    | [x, y], _ => exact ⟨x, y, rfl, q2⟩
theorem ownR_tE {l : Nat → Option DF} {c : Nat} {P P' : PF} {σ : L2.St} {H : Hp} {Q : VK} (h : tE W (pOwnR l c P P') σ H Q) : tOp (rOwnR W l) (tE W P) (tE W P') σ H Q := by
  cases hl : l c with
  | none =>
    obtain ⟨env, G, rv, env', r, p, k⟩ := h
    unfold pOwnR at p
    rw [hl] at p
    cases p
  | some F =>
    have e : pOwnR l c P P' = pFn [false, false] F (aChk (chkR c) (aPick [1, 0] (aCons P (aCons P' aNil)))) := by
      funext env; unfold pOwnR; rw [hl]
    rw [e] at h
    refine two_tA (tA_imp (pick10 (chk_tA (fn_tA (E := fun _ _ _ => False) h))) fun vs H2 ⟨x, y, ev, q, rvs, G', H0, hf, sb, o⟩ => ?_)
    unfold chkR at hf
    split at hf
    · rename_i rb ra
      simp only [Bool.and_eq_true, beq_iff_eq] at hf
      obtain ⟨y', x', ez, o1, o2⟩ := rvs2 o
      cases ez
      obtain ⟨a, dx, fs, rfl, ha⟩ := o1.isObj sb hf.1
      have h2 := hf.2
      unfold intB at h2
      split at h2
      · cases (show Rp W G' x _ from o2)
        exact ⟨_, _, ev, c, a, dx, fs, F, _, hl, rfl, rfl, ha, q⟩
      · cases h2
    · cases hf
/-- a op b, by what stands there -/
def pBinO (l r : Nat → Option DF) (f : D → D → Option RV) (P P' : PF) : PF := fun env => match P env with
  | some (ra, e1) => (match ra.cls with
    | some c => pOwnL l c P P' env
    | none => (match P' e1 with
      | some (rb, _) => (match rb.cls with
        | some c => pOwnR r c P P' env
        | none => pBin f P P' env)
      | none => none))
  | none => none
theorem tE_pick {P1 P2 : PF} {σ : L2.St} {H : Hp} {Q : VK} (h : tE W P1 σ H Q) (k : ∀ env, P1 env = P2 env ∨ True) : True := trivial
theorem binO_tE {l r : Nat → Option DF} {f : D → D → Option RV} {r0 : R2} (o : OpD W r0 f) {P P' : PF} {σ : L2.St} {H : Hp} {Q : VK} (h : tE W (pBinO l r f P P') σ H Q) :
    tOp (fun x y H Q => rOwnL W l x y H Q ∨ rOwnR W r x y H Q ∨ r0 x y H Q) (tE W P) (tE W P') σ H Q := by
  obtain ⟨env, G, rv, env', rl, p, k⟩ := h
  have imp : ∀ {r' : R2}, (∀ x y H Q, r' x y H Q → rOwnL W l x y H Q ∨ rOwnR W r x y H Q ∨ r0 x y H Q) → tOp r' (tE W P) (tE W P') σ H Q → tOp (fun x y H Q => rOwnL W l x y H Q ∨ rOwnR W r x y H Q ∨ r0 x y H Q) (tE W P) (tE W P') σ H Q :=
    fun hi q => tE_imp q fun x H1 q1 => tE_imp q1 fun y H2 q2 => hi _ _ _ _ q2
  unfold pBinO at p
  split at p
  · split at p
    · rename_i c _
      exact imp (fun _ _ _ _ z => .inl z) (ownL_tE (c := c) ⟨env, G, rv, env', rl, p, k⟩)
    · split at p
      · split at p
        · rename_i c _
          exact imp (fun _ _ _ _ z => .inr (.inl z)) (ownR_tE (c := c) ⟨env, G, rv, env', rl, p, k⟩)
        · exact imp (fun _ _ _ _ z => .inr (.inr z)) (op_tE o ⟨env, G, rv, env', rl, p, k⟩)
      · cases p
  · cases p
theorem pd_binO {op : Operator} {l r : Nat → Option DF} {f : D → D → Option RV} {r0 : R2} {a b : Expr} {P P' : PF} {pos : Pos} (hl : OpR X (binaryOp op) (rOwnL W l)) (hr : OpR X (binaryOp op) (rOwnR W r)) (h0 : OpR X (binaryOp op) r0) (o : OpD W r0 f) (ha : PD X W P a) (hb : PD X W P' b) :
    PD X W (pBinO l r f P P') (.BinOp a op b pos) := PE.weak (pe_op (OpR.or hl (OpR.or hr h0)) ha hb) fun _ _ _ h => binO_tE o h
/-! ### - own -/
def chkU (c : Nat) : List RV → Bool
  | [ra] => ra.cls == some c
  | _ => false
def pOwnU (l : Nat → Option DF) (c : Nat) (P : PF) : PF := fun env => match l c with
  | some F => pFn [false] F (aChk (chkU c) (aCons P aNil)) env
  | none => none
theorem rvs1 {σ : L2.St} {H H' G' : Hp} {vs : List V} {ra : RV} (o : RvsOk W σ H H' G' vs [ra]) : ∃ x, vs = [x] ∧ RvOk W σ H H' G' x ra := by
  cases o with
  | cons h _ t => cases t; exact ⟨_, rfl, h⟩
theorem ownU_tE {l : Nat → Option DF} {c : Nat} {P : PF} {σ : L2.St} {H : Hp} {Q : VK} (h : tE W (pOwnU l c P) σ H Q) : tUn (rOwnU W l) (tE W P) σ H Q := by
  cases hl : l c with
  | none =>
    obtain ⟨env, G, rv, env', r, p, k⟩ := h
    unfold pOwnU at p
    rw [hl] at p
    cases p
  | some F =>
    have e : pOwnU l c P = pFn [false] F (aChk (chkU c) (aCons P aNil)) := by
      funext env; unfold pOwnU; rw [hl]
    rw [e] at h
    refine one_tA (tA_imp (chk_tA (fn_tA (E := fun _ _ _ => False) h)) fun vs H2 ⟨q, rvs, G', H0, hf, sb, o⟩ => ?_)
    unfold chkU at hf
    split at hf
    · simp only [beq_iff_eq] at hf
      obtain ⟨x, rfl, o1⟩ := rvs1 o
      obtain ⟨a, dx, fs, rfl, ha⟩ := o1.isObj sb hf
      exact ⟨_, rfl, c, a, dx, fs, F, hl, rfl, ha, q⟩
    · cases hf
def pUnO (l : Nat → Option DF) (f : D → Option RV) (P : PF) : PF := fun env => match P env with
  | some (ra, _) => (match ra.cls with
    | some c => pOwnU l c P env
    | none => pUn f P env)
  | none => none
theorem UnR.or {f : Value → Sem Value} {r r' : V → Hp → VK → Prop} (h : UnR X f r) (h' : UnR X f r') : UnR X f (fun x H Q => r x H Q ∨ r' x H Q) :=
  fun pins s σ H x v Q I rx q => q.elim (h pins s σ H x v Q I rx) (h' pins s σ H x v Q I rx)
theorem pd_unO {op : UnaryOp} {l : Nat → Option DF} {f : D → Option RV} {r0 : V → Hp → VK → Prop} {a : Expr} {P : PF} {pos : Pos} (hl : UnR X (unaryOp op) (rOwnU W l)) (h0 : UnR X (unaryOp op) r0) (o : UnD W r0 f) (ha : PD X W P a) :
    PD X W (pUnO l f P) (.UnaryOp op a pos) := PE.weak (pe_un (UnR.or hl h0) ha) fun σ H Q h => by
  obtain ⟨env, G, rv, env', rl, p, k⟩ := h
  unfold pUnO at p
  split at p
  · split at p
    · rename_i c _
      exact tE_imp (ownU_tE (c := c) ⟨env, G, rv, env', rl, p, k⟩) fun _ _ z => .inl z
    · exact tE_imp (un_tE o ⟨env, G, rv, env', rl, p, k⟩) fun _ _ z => .inr z
  · cases p
/-! ### own == y -/
/-- a truth behind it -/
def pTr (neg : Bool) (P : PF) : PF := fun env => match P env with
  | some (.dat (.bl b), e1) => some (.dat (.bl (if neg then !b else b)), e1)
  | _ => none
def eqSideB (c : Nat) : RV → Bool
  | .dat d => (tyNm d).isSome || (RV.dat d).cls == some c
  | .own d => (tyNm d).isSome || (RV.own d).cls == some c
  | .slot _ => false
def chkEq (c : Nat) : List RV → Bool
  | [ra, rb] => ra.cls == some c && eqSideB c rb
  | _ => false
def pOwnEq (neg : Bool) (l : Nat → Option DF) (c : Nat) (P P' : PF) : PF := fun env => match l c with
  | some F => pTr neg (pFn [false, false] F (aChk (chkEq c) (aCons P (aCons P' aNil)))) env
  | none => none
/-- the built-in types that an own object may be compared with -/
def eqTys : List String := ["NoneType", "bool", "int", "str", "list", "tuple", "dict"]
theorem tyNm_in {d : D} {T : String} (h : tyNm d = some T) : T ∈ eqTys := by
  cases d <;> simp only [tyNm] at h <;> cases h <;> decide
theorem tr_tE {neg : Bool} {P : PF} {σ : L2.St} {H : Hp} {Q : VK} (h : tE W (pTr neg P) σ H Q) : tE W P σ H fun v H' => ∃ b, v = .bl b ∧ Q (.bl (if neg then !b else b)) H' := by
  obtain ⟨env, G, rv, env', r, p, k⟩ := h
  unfold pTr at p
  split at p
  · rename_i b e1 hP
    cases p
    refine ⟨env, G, _, _, r, hP, fun v H' G' s o => ?_⟩
    cases (show Rp W G' v _ from o)
    exact ⟨b, rfl, k _ H' G' s (.bl _)⟩
  · cases p
theorem ownEq_tE {neg : Bool} {l : Nat → Option DF} {c : Nat} {P P' : PF} {σ : L2.St} {H : Hp} {Q : VK} (hn : ∀ c F, l c = some F → ∀ T ∈ eqTys, PySem.W.notFirst W.K (W.cl c) (.type T) = true) (h : tE W (pOwnEq neg l c P P') σ H Q) :
    tOp (rOwnEq W W.K neg l) (tE W P) (tE W P') σ H Q := by
  cases hl : l c with
  | none =>
    obtain ⟨env, G, rv, env', r, p, k⟩ := h
    unfold pOwnEq at p
    rw [hl] at p
    cases p
  | some F =>
    have e : pOwnEq neg l c P P' = pTr neg (pFn [false, false] F (aChk (chkEq c) (aCons P (aCons P' aNil)))) := by
      funext env; unfold pOwnEq; rw [hl]
    rw [e] at h
    refine two_tA (tA_imp (chk_tA (fn_tA (E := fun _ _ _ => False) (tr_tE h))) fun vs H2 ⟨q, rvs, G', H0, hf, sb, o⟩ => ?_)
    unfold chkEq at hf
    split at hf
    · rename_i ra rb
      simp only [Bool.and_eq_true, beq_iff_eq] at hf
      obtain ⟨x, y, rfl, o1, o2⟩ := rvs2 o
      obtain ⟨a, dx, fs, rfl, ha⟩ := o1.isObj sb hf.1
      refine ⟨_, _, rfl, c, a, dx, fs, F, hl, rfl, ha, ?_, q⟩
      have h2 := hf.2
      have fin : ∀ d, (tyNm d).isSome = true → Vw W G' H2 y d → EqSide W W.K H2 c y := fun d hd vw => by
        obtain ⟨T, hT⟩ := Option.isSome_iff_exists.mp hd
        exact .inr ⟨T, tyNm_ok sb vw hT, hn c F hl T (tyNm_in hT)⟩
      cases rb with
      | slot j => cases h2
      | dat d =>
        simp only [eqSideB, Bool.or_eq_true, beq_iff_eq] at h2
        rcases h2 with h2 | h2
        · exact fin d h2 (.rp o2)
        · exact .inl (o2.isObj sb h2)
      | own d =>
        simp only [eqSideB, Bool.or_eq_true, beq_iff_eq] at h2
        rcases h2 with h2 | h2
        · obtain ⟨b, ob, rfl, hb, _, _, hob⟩ := o2
          exact fin d h2 (.ob rfl hb hob)
        · exact .inl (o2.isObj sb h2)
    · cases hf
def pCmpO (neg : Bool) (l : Nat → Option DF) (f : D → D → Option RV) (P P' : PF) : PF := fun env => match P env with
  | some (ra, _) => (match ra.cls with
    | some c => pOwnEq neg l c P P' env
    | none => pBin f P P' env)
  | none => none
theorem cmpO_tE {neg : Bool} {l : Nat → Option DF} {f : D → D → Option RV} {r0 : R2} (hn : ∀ c F, l c = some F → ∀ T ∈ eqTys, PySem.W.notFirst W.K (W.cl c) (.type T) = true) (o : OpD W r0 f) {P P' : PF} {σ : L2.St} {H : Hp} {Q : VK} (h : tE W (pCmpO neg l f P P') σ H Q) :
    tOp (fun x y H Q => rOwnEq W W.K neg l x y H Q ∨ r0 x y H Q) (tE W P) (tE W P') σ H Q := by
  obtain ⟨env, G, rv, env', rl, p, k⟩ := h
  unfold pCmpO at p
  split at p
  · split at p
    · rename_i c _
      exact tE_imp (ownEq_tE (c := c) hn ⟨env, G, rv, env', rl, p, k⟩) fun x H1 q1 => tE_imp q1 fun y H2 q2 => .inl q2
    · exact tE_imp (op_tE o ⟨env, G, rv, env', rl, p, k⟩) fun x H1 q1 => tE_imp q1 fun y H2 q2 => .inr q2
  · cases p
theorem pd_cmpO {op : CmpOp} {neg : Bool} {l : Nat → Option DF} {f : D → D → Option RV} {r0 : R2} {a b : Expr} {P P' : PF} {pos : Pos} (hl : OpR X (compareOp op) (rOwnEq W W.K neg l)) (h0 : OpR X (compareOp op) r0) (o : OpD W r0 f)
    (hn : ∀ c F, l c = some F → ∀ T ∈ eqTys, PySem.W.notFirst W.K (W.cl c) (.type T) = true) (ha : PD X W P a) (hb : PD X W P' b) (hs : notSet b = true) : PD X W (pCmpO neg l f P P') (.Compare a [op] [b] pos) :=
  PE.weak (pe_cmpR (OpR.or hl h0) ha hb (nomarks hs)) fun _ _ _ h => cmpO_tE hn o h
theorem ptd_cmpO {op : CmpOp} {neg : Bool} {l : Nat → Option DF} {f : D → D → Option RV} {r0 : R2} {a b : Expr} {P P' : PF} {pos : Pos} (hl : OpR X (compareOp op) (rOwnEq W W.K neg l)) (h0 : OpR X (compareOp op) r0) (o : OpD W r0 f)
    (hn : ∀ c F, l c = some F → ∀ T ∈ eqTys, PySem.W.notFirst W.K (W.cl c) (.type T) = true) (ha : PD X W P a) (hb : PD X W P' b) (hs : notSet b = true) : PTD X W (bVal (pCmpO neg l f P P')) (.Compare a [op] [b] pos) :=
  PT.weak (pt_cmpR (OpR.or hl h0) ha hb (nomarks hs)) fun _ _ _ h => cmpO_tE hn o (test_tE h)
/-! ### repr of own -/
def isTxt : RV → Bool
  | .dat (.str _) => true
  | _ => false
def pStrs (P : PF) : PF := fun env => match P env with
  | some (.dat (.str x), e1) => some (.dat (.str x), e1)
  | _ => none
def pOwnS (l : Nat → Option DF) (c : Nat) (P : PAF) : PF := fun env => match l c with
  | some F => pStrs (pFn [false] F (aChk (chkU c) P)) env
  | none => none
theorem strs_tE {P : PF} {σ : L2.St} {H : Hp} {Q : VK} (h : tE W (pStrs P) σ H Q) : tE W P σ H fun v H' => (∃ z, v = .str z) ∧ Q v H' := by
  obtain ⟨env, G, rv, env', r, p, k⟩ := h
  unfold pStrs at p
  split at p
  · rename_i b e1 hP
    cases p
    refine ⟨env, G, _, _, r, hP, fun v H' G' s o => ?_⟩
    have o' : Rp W G' v (.str b) := o
    cases o'
    exact ⟨⟨_, rfl⟩, k _ H' G' s o⟩
  · cases p
theorem ownS_tE {l : Nat → Option DF} {c : Nat} {P : PAF} {σ : L2.St} {H : Hp} {Q : VK} (h : tE W (pOwnS l c P) σ H Q) : tCB (rOwnRepr W l) (tA W P) σ H Q := by
  cases hl : l c with
  | none =>
    obtain ⟨env, G, rv, env', r, p, k⟩ := h
    unfold pOwnS at p
    rw [hl] at p
    cases p
  | some F =>
    have e : pOwnS l c P = pStrs (pFn [false] F (aChk (chkU c) P)) := by
      funext env; unfold pOwnS; rw [hl]
    rw [e] at h
    refine tA_imp (chk_tA (fn_tA (E := fun _ _ _ => False) (strs_tE h))) fun vs H2 ⟨q, rvs, G', H0, hf, sb, o⟩ => ?_
    unfold chkU at hf
    split at hf
    · simp only [beq_iff_eq] at hf
      obtain ⟨x, rfl, o1⟩ := rvs1 o
      obtain ⟨a, dx, fs, rfl, ha⟩ := o1.isObj sb hf
      exact ⟨c, a, dx, fs, F, hl, rfl, ha, q⟩
    · cases hf
end
end Den
end

section
set_option Elab.async false
set_option linter.all false
set_option maxRecDepth 100000
set_option maxHeartbeats 4000000
/-! DenK7: calls of any shape: arguments by place and by name, defaults. -/
namespace Den
open PySem L2
section
variable {X : Cx} {W : Pw}
theorem RvsOk.appD {σ : L2.St} {H H' G' : Hp} : ∀ {vs dv : List V} {rvs : List RV} {ds : List D}, RvsOk W σ H H' G' vs rvs → RpAll W G' dv ds → RvsOk W σ H H' G' (vs ++ dv) (rvs ++ ds.map RV.dat)
  | [], dv, [], ds, _, r => by
    induction r using RpAll.rec (motive_1 := fun _ _ _ => True) (motive_3 := fun _ _ _ => True) (motive_4 := fun _ _ _ => True) with
    | nil => exact .nil
    | cons a _ _ ih => exact .cons a (fun d e i h => nomatch h) ih
    | _ => trivial
  | v :: vs, dv, rv :: rvs, ds, .cons h n t, r => by
    refine .cons h (fun d e i h1 h2 => ?_) (RvsOk.appD t r)
    show (vs ++ dv)[i]? ≠ some v
    have h2 : (rvs ++ ds.map RV.dat)[i]? = some (RV.own e) := h2
    rw [List.getElem?_append] at h2
    split at h2
    · rename_i hi
      have hl := t.length
      rw [List.getElem?_append_left (by omega)]
      exact n d e i h1 h2
    · rw [List.getElem?_map] at h2
      cases q : ds[i - rvs.length]? with
      | none => rw [q] at h2; cases h2
      | some d' => rw [q] at h2; cases h2
/-- the parameters: of what is passed and the defaults behind it -/
def aSel (m : Nat) (is : List Nat) (ds : List D) (P : PAF) : PAF := fun env => do
  let (rvs, e1) ← P env
  if rvs.length = m then some (pick is (rvs ++ ds.map RV.dat), e1) else none
theorem sel_tA {m : Nat} {is : List Nat} {ds : List D} {dv : List V} {P : PAF} {σ : L2.St} {H : Hp} {Q : List V → Hp → Prop} (hd : ∀ G, RpAll W G dv ds) (hi : ∀ i ∈ is, i < m + ds.length) (hn : is.Nodup) (h : tA W (aSel m is ds P) σ H Q) :
    tA W P σ H fun vs H1 => vs.length = m ∧ Q (pick is (vs ++ dv)) H1 := by
  obtain ⟨env, G, rvs, env', r, p, k⟩ := h
  unfold aSel at p
  simp only [Option.bind_eq_bind, Option.bind_eq_some_iff, Prod.exists] at p
  obtain ⟨rs, e1, h1, p⟩ := p
  split at p
  · rename_i hl
    cases p
    exact ⟨env, G, rs, _, r, h1, fun vs H1 G1 s o => ⟨by rw [o.length]; exact hl, k _ H1 G1 s ((o.appD (hd G1)).pick (fun i q => by rw [List.length_append, List.length_map, hl]; exact hi i q) hn)⟩⟩
  · cases p
/-- by place, then by name -/
def aApp (P P' : PAF) : PAF := fun env => do
  let (rs, e1) ← P env
  let (rs', e2) ← P' e1
  some (rs ++ rs', e2)
theorem RvsOk.app {σ : L2.St} {H H1 H2 G2 : Hp} : ∀ {vs ws : List V} {rvs rws : List RV}, RvsOk W σ H H2 G2 vs rvs → (∀ (i : Nat) (d : D) (a : Addr), rvs[i]? = some (RV.own d) → vs[i]? = some (.ref a) → H1 a ≠ none) → (∀ b, H1 b = none → H b = none) → RvsOk W σ H1 H2 G2 ws rws → RvsOk W σ H H2 G2 (vs ++ ws) (rvs ++ rws)
  | [], ws, [], rws, _, _, d, t => t.base d
  | v :: vs, ws, rv :: rvs, rws, .cons h n t, f, d, t2 => by
    refine .cons h (fun d1 e i h1 h2 => ?_) (RvsOk.app t (fun i d1 a z1 z2 => f (i + 1) d1 a (by simpa using z1) (by simpa using z2)) d t2)
    subst h1
    show (vs ++ ws)[i]? ≠ some v
    have h2 : (rvs ++ rws)[i]? = some (RV.own e) := h2
    rw [List.getElem?_append] at h2
    have hl := t.length
    split at h2
    · rename_i hi
      rw [List.getElem?_append_left (by omega)]
      exact n d1 e i rfl h2
    · rename_i hi
      rw [List.getElem?_append_right (by omega)]
      obtain ⟨a, ob, ea, ha, _⟩ := h
      subst ea
      rw [hl]
      exact t2.fresh (f 0 d1 a rfl rfl) h2
theorem app_tA {P P' : PAF} {σ : L2.St} {H : Hp} {Q : List V → Hp → Prop} (h : tA W (aApp P P') σ H Q) : tA W P σ H fun vs H1 => tA W P' σ H1 fun zs H2 => Q (vs ++ zs) H2 := by
  obtain ⟨env, G, rvs, env', r, p, k⟩ := h
  unfold aApp at p
  simp only [Option.bind_eq_bind, Option.bind_eq_some_iff, Prod.exists, Option.some.injEq, Prod.mk.injEq] at p
  obtain ⟨rs, e1, h1, rs', e2, h2, rfl, rfl⟩ := p
  refine ⟨env, G, rs, e1, r, h1, fun vs H1 G1 s o => ⟨e1, G1, rs', e2, s.rel, h2, fun zs H2 G2 s2 o2 => ?_⟩⟩
  refine k (vs ++ zs) H2 G2 (s.trans s2) (RvsOk.app (RvsOk.stepAll s.rel (fun b z => s.ownNe r z) s2 o) (fun i d a z1 z2 => ?_) s.ext.dom o2)
  obtain ⟨v, y1, y2⟩ := o.get z1
  rw [z2] at y1
  cases y1
  obtain ⟨a', ob, ea, ha, _⟩ := y2
  cases ea
  rw [ha]; simp
/-- how a call binds: n by place, ks by name, is: where each parameter's value stands -/
structure Shp where
  n : Nat
  ks : List Str
  is : List Nat
def Shp.good (sh : Shp) (m : Nat) : Bool := sh.is.all (fun i => decide (i < sh.n + sh.ks.length + m)) && decide sh.is.Nodup
/-- the defaults ds as they stand -/
def DfOk (W : Pw) (ds : List D) (dv : List V) (its : List Value) : Prop := Vals dv its ∧ ∀ G, RpAll W G dv ds
def ShOk (K : PySem.W.Frag) (fd : FuncData) (ps : List Str) (its : List Value) (sh : Shp) : Prop := ∀ (s : Shared) (us ws : List Value), K.In s.heap → us.length = sh.n → ws.length = sh.ks.length → BindsTo s fd ⟨us, sh.ks.zip ws⟩ (ps.zip (pick sh.is (us ++ ws ++ its)))
/-- .. of a method or __init__ -/
def ShOk1 (K : PySem.W.Frag) (fd : FuncData) (ps : List Str) (its : List Value) (sh : Shp) : Prop := ∀ (s : Shared) (u : Value) (us ws : List Value), K.In s.heap → us.length = sh.n → ws.length = sh.ks.length → BindsTo s fd ⟨u :: us, sh.ks.zip ws⟩ (ps.zip (u :: pick sh.is (us ++ ws ++ its)))
theorem FnG.callS {k : Nat} {f : Addr} {fd : FuncData} {ps : List Str} {sp : Sp} {its : List Value} {dv : List V} {sh : Shp} (F : FnG X.prog X.w X.K X.mg X.base k f fd ps sp) (hg : X.A.guards = some []) (hr : Room k X.A) (hs : ShOk X.K fd ps its sh) (hv : Vals dv its) (E : XK) :
    CallRK X (.ref f) sh.ks (fun vs zs H Q => vs.length = sh.n ∧ zs.length = sh.ks.length ∧ sp (pick sh.is (vs ++ zs ++ dv)) H Q E) := by
  intro pins s σ H vs zs us ws Q I r rz h
  obtain ⟨h1, h2, h⟩ := h
  have rr : Vals (pick sh.is (vs ++ zs ++ dv)) (pick sh.is (us ++ ws ++ its)) := pick_vals ((r.append rz).append hv)
  apply wpAny_call
  apply codeAny_mono (F.run X.A X.stack s H ⟨us, sh.ks.zip ws⟩ _ _ Q E hg hr I.env0 (hs s us ws I.kIn (r.length ▸ h1) (rz.length ▸ h2)) rr h)
  intro res s' hq
  cases res with
  | error e => exact hq.elim
  | ok fl =>
    cases fl with
    | ret u => exact I.after hq
    | next => exact hq.elim
    | brk => exact hq.elim
    | cont => exact hq.elim
theorem guards_makeK {A : Around} {C : Addr} {us : List Value} {kw : List (Str × Value)} (h : A.guards = some []) : (A.under (.builtin "type.__call__" ⟨.ref C :: us, kw⟩)).guards = some [] := guards_make h
theorem FnG.makeS {k : Nat} {f C : Addr} {fd : FuncData} {ps : List Str} {sp : Sp} {its : List Value} {dv : List V} {sh : Shp} (M : Mk X.K C f) (F : FnG X.prog X.w X.K X.mg X.base k f fd ps sp) (hg : X.A.guards = some []) (hr : Room (k + 1) X.A) (hs : ShOk1 X.K fd ps its sh) (hv : Vals dv its) (E : XK) :
    CallRK X (.ref C) sh.ks (fun vs zs H Q => vs.length = sh.n ∧ zs.length = sh.ks.length ∧ ∀ x dx, H x = none → H dx = none → dx ≠ x → sp (.ref x :: pick sh.is (vs ++ zs ++ dv)) (upd (upd H dx (.own x)) x (.ins C dx [])) (fun v H2 => v = .non ∧ Q (.ref x) H2) E) := by
  intro pins s σ H vs zs us ws Q I r rz h
  obtain ⟨h1, h2, h⟩ := h
  have n0 : H s.heap.objs.size = none := I.hok.fresh (Nat.le_refl _)
  have n1 : H (s.heap.objs.size + 1) = none := I.hok.fresh (Nat.le_succ _)
  have hq := h (s.heap.objs.size + 1) s.heap.objs.size n1 n0 (Nat.ne_of_lt (Nat.lt_succ_self _))
  have J := Inv.made (C := C) I
  have rr : Vals (V.ref (s.heap.objs.size + 1) :: pick sh.is (vs ++ zs ++ dv)) (Value.ref (s.heap.objs.size + 1) :: pick sh.is (us ++ ws ++ its)) := .cons rfl (pick_vals ((r.append rz).append hv))
  apply wpAny_call
  apply make_map (f := f) I.kIn M.makes M.init (beq_iff_eq.mp M.fn)
  apply codeAny_mono (F.run _ X.stack _ _ ⟨.ref (s.heap.objs.size + 1) :: us, sh.ks.zip ws⟩ _ _ _ E (guards_make hg) (hr.make C us (sh.ks.zip ws)) (J.env0.make C us (sh.ks.zip ws))
    (hs _ _ us ws J.kIn (r.length ▸ h1) (rz.length ▸ h2)) rr hq)
  intro res s' hq'
  cases res with
  | error e => exact hq'.elim
  | ok fl =>
    cases fl with
    | ret u =>
      obtain ⟨v, H', I3, rv, ev, q3⟩ := J.after hq'
      subst ev
      exact ⟨rv, .ref (s.heap.objs.size + 1), H', I3, rfl, q3⟩
    | next => exact hq'.elim
    | brk => exact hq'.elim
    | cont => exact hq'.elim
theorem kwsP {pos : Pos} : ∀ {kws : List Keyword} {ks : List Str}, kws? kws = some ks → (backToKw pos (keywordEach kws X.env)).all (·.1.isSome) = true ∧ (backToKw pos (keywordEach kws X.env)).any (·.1.isNone) = false ∧ (backToKw pos (keywordEach kws X.env)).filterMap (·.1) = ks := by
  intro kws
  induction kws with
  | nil => intro ks h; cases h; exact ⟨rfl, rfl, rfl⟩
  | cons k r ih =>
    intro ks h
    obtain ⟨nm, e, kp⟩ := k
    cases nm with
    | none => simp [kws?] at h
    | some nm =>
      cases e2 : kws? r with
      | none => simp [kws?, e2] at h
      | some xs =>
        simp only [kws?, e2, Option.some.injEq] at h
        subst h
        obtain ⟨a1, a2, a3⟩ := ih e2
        have e3 : backToKw pos (keywordEach (⟨some nm, e, kp⟩ :: r) X.env) = (some nm, (do let v ← eval e X.env; standAt pos; pure v)) :: backToKw pos (keywordEach r X.env) := rfl
        rw [e3]
        refine ⟨by simpa using a1, by simpa using a2, by simp [a3]⟩
/-- a call of a value that is found -/
theorem callAny_ok {a : Addr} {pos : Pos} {ks : List Str} {es : List Expr} {kws : List Keyword} {t tk : TA} {r : List V → List V → Hp → VK → Prop} {pins : List (Addr × Obj)} {σ : L2.St} {s : Shared} {H : Hp} {Q : VK} (hc : CallRK X (.ref a) ks r) (hk : PySem.W.keepIn X.K (.ref a) = true)
    (ha : PA X es t) (hkw : PK X kws tk) (hs : es.all notStar = true) (hks : kws? kws = some ks) (hnil : es = [] → ∀ σ H Q, t σ H Q → Q [] H) (hnilk : kws = [] → ∀ σ H Q, tk σ H Q → Q [] H) (I : Inv X pins σ H s) (h : tCKw r t tk σ H Q) :
    wpAny (model X.prog X.w) X.A (callWith pos (.ref a) [] (backTo pos (starEach es X.env)) (backToKw pos (keywordEach kws X.env))) (EP X pins σ Q) X.xe s := by
  obtain ⟨q1, q2, q3⟩ := kwsP (X := X) (pos := pos) hks
  cases es with
  | nil =>
    have h' : tk σ H fun zs H2 => r [] zs H2 Q := hnil rfl σ H _ h
    cases kws with
    | nil =>
      cases hks
      refine PySem.W.callWith_K0 I.kIn hk ?_
      exact hc pins s σ H [] [] [] [] Q I .nil .nil (hnilk rfl σ H _ h')
    | cons k kr =>
      refine PySem.W.callWith_KW0 (h₀ := X.base) I.ok.mod.kin hk q1 ?_ (by rw [q2]; rfl)
      refine thn (hkw.run pos pins s σ H _ I h') fun ws s2 ⟨zs, H2, I2, rz, q⟩ => ⟨I2.kIn, ?_⟩
      rw [q3]
      exact hc pins s2 σ H2 [] zs [] ws Q I2 .nil rz q
  | cons e es =>
    have h2 := hs
    rw [List.all_cons, Bool.and_eq_true] at h2
    refine PySem.W.callWith_KW (h₀ := X.base) I.ok.mod.kin hk q1 ?_ (by rw [star_plain h2.1]; show (false || (backTo pos (starEach es X.env)).any (·.1) || _) = false; rw [noStars h2.2, q2]; rfl) (star_plain h2.1)
    refine thn (ha.run pos pins s σ H _ I h) fun us s1 ⟨vs, H1, I1, rv, q⟩ => ?_
    refine thn (hkw.run pos pins s1 σ H1 _ I1 q) fun ws s2 ⟨zs, H2, I2, rz, q⟩ => ⟨I2.kIn, ?_⟩
    rw [q3]
    exact hc pins s2 σ H2 vs zs us ws Q I2 rv rz q
end
end Den
end

section
set_option Elab.async false
set_option linter.all false
set_option maxRecDepth 100000
set_option maxHeartbeats 4000000
/-! DenK8: calls by shape, as expressions; properties, classmethods. -/
namespace Den
open PySem L2
section
variable {X : Cx} {W : Pw}
theorem nilP {P : PAF} (h : P = aNil) {σ : L2.St} {H : Hp} {Q : List V → Hp → Prop} (q : tA W P σ H Q) : Q [] H := nil_tA (by rw [← h]; exact q)
/-- f(..), f a def of the module -/
theorem pe_defS {x : Str} {p pos : Pos} {a : Addr} {ks : List Str} {es : List Expr} {kws : List Keyword} {t tk : TA} {r : List V → List V → Hp → VK → Prop} (hc : CallRK X (.ref a) ks r) (hg : Gl X x) (hm : X.mg x = some (.ref a)) (hk : PySem.W.keepIn X.K (.ref a) = true)
    (ha : PA X es t) (hkw : PK X kws tk) (hs : es.all notStar = true) (hks : kws? kws = some ks) (hnil : es = [] → ∀ σ H Q, t σ H Q → Q [] H) (hnilk : kws = [] → ∀ σ H Q, tk σ H Q → Q [] H) (hdb : (x == ("__debug__" : Str)) = false) :
    PE X (.Call (.Name x p) es kws pos) (tCKw r t tk) := by
  refine ⟨fun pins s σ H Q I h => ?_⟩
  refine wpAny_Call_Name_kw (ld_glob I hg hm ?_ hdb)
  exact callAny_ok hc hk ha hkw hs hks hnil hnilk I h
/-- .. a name of the def at hand -/
theorem pe_locS {x : Str} {p pos : Pos} {a : Addr} {i : Nat} {ks : List Str} {es : List Expr} {kws : List Keyword} {t tk : TA} {r : List V → List V → Hp → VK → Prop} (hc : CallRK X (.ref a) ks r) (hN : X.N[i]? = some x) (hv : Vis X.env.scope x) (hk : PySem.W.keepIn X.K (.ref a) = true)
    (ha : PA X es t) (hkw : PK X kws tk) (hs : es.all notStar = true) (hks : kws? kws = some ks) (hnil : es = [] → ∀ σ H Q, t σ H Q → Q [] H) (hnilk : kws = [] → ∀ σ H Q, tk σ H Q → Q [] H) (hdb : (x == ("__debug__" : Str)) = false) (hcd : (x == ("__classdict__" : Str)) = false) :
    PE X (.Call (.Name x p) es kws pos) (fun σ H Q => σ[i]? = some (some (.ref a)) ∧ tCKw r t tk σ H Q) := by
  refine ⟨fun pins s σ H Q I h => ?_⟩
  obtain ⟨hs', ht⟩ := h
  refine wpAny_Call_Name_kw (thn ((pe_var (pos := p) hN hv hdb hcd).run pins s σ H (fun v H1 => v = .ref a ∧ H1 = H) I ⟨.ref a, hs', rfl, rfl⟩) fun u s1 ⟨v, H1, I1, r1, q1⟩ => ?_)
  obtain ⟨rfl, rfl⟩ := q1
  cases r1
  exact callAny_ok hc hk ha hkw hs hks hnil hnilk I1 ht
def pFnS (io : List Bool) (F : DF) (sh : Shp) (ds : List D) (P P' : PAF) : PF := pFn io F (aSel (sh.n + sh.ks.length) sh.is ds (aApp P P'))
theorem len_split {vs zs : List V} {n m : Nat} (h : (vs ++ zs).length = n + m) (h1 : vs.length = n) : zs.length = m := by
  rw [List.length_append] at h; omega
/-- how many values a list of expressions gives -/
def LenP (P : PAF) (n : Nat) : Prop := ∀ env rvs e, P env = some (rvs, e) → rvs.length = n
theorem lenP_tA {P : PAF} {n : Nat} (hl : LenP P n) {σ : L2.St} {H : Hp} {Q : List V → Hp → Prop} (h : tA W P σ H Q) : tA W P σ H fun vs H1 => vs.length = n ∧ Q vs H1 := by
  obtain ⟨env, G, rvs, env', r, p, k⟩ := h
  exact ⟨env, G, rvs, env', r, p, fun vs H1 G1 s o => ⟨by rw [o.length]; exact hl _ _ _ p, k vs H1 G1 s o⟩⟩
theorem fnS_tE {io : List Bool} {F : DF} {sh : Shp} {ds : List D} {dv : List V} {P P' : PAF} {σ : L2.St} {H : Hp} {Q : VK} (hl : LenP P sh.n) (hl' : LenP P' sh.ks.length) (hd : ∀ G, RpAll W G dv ds) (hg : sh.good ds.length = true) (h : tE W (pFnS io F sh ds P P') σ H Q) :
    tCKw (fun vs zs H Q => vs.length = sh.n ∧ zs.length = sh.ks.length ∧ spF W io.length F (pick sh.is (vs ++ zs ++ dv)) H Q fun _ _ _ => False) (tA W P) (tA W P') σ H Q := by
  unfold Shp.good at hg
  simp only [Bool.and_eq_true, List.all_eq_true, decide_eq_true_eq] at hg
  have q := app_tA (sel_tA hd (fun i hi => by have := hg.1 i hi; omega) hg.2 (fn_tA (E := fun _ _ _ => False) h))
  refine tA_imp (lenP_tA hl q) fun vs H1 ⟨e1, q1⟩ => tA_imp (lenP_tA hl' q1) fun zs H2 ⟨e2, q2⟩ => ⟨e1, e2, q2.2⟩
def pMkS (c : Nat) (io : List Bool) (F : DF) (sh : Shp) (ds : List D) (P P' : PAF) : PF := pMk c io F (aSel (sh.n + sh.ks.length) sh.is ds (aApp P P'))
theorem mkS_tE {c : Nat} {io : List Bool} {F : DF} {sh : Shp} {ds : List D} {dv : List V} {P P' : PAF} {σ : L2.St} {H : Hp} {Q : VK} (hl : LenP P sh.n) (hl' : LenP P' sh.ks.length) (hd : ∀ G, RpAll W G dv ds) (hg : sh.good ds.length = true) (h : tE W (pMkS c io F sh ds P P') σ H Q) :
    tCKw (fun vs zs H Q => vs.length = sh.n ∧ zs.length = sh.ks.length ∧ ∀ x dx, H x = none → H dx = none → dx ≠ x → spF W (io.length + 1) F (.ref x :: pick sh.is (vs ++ zs ++ dv)) (upd (upd H dx (.own x)) x (.ins (W.cl c) dx [])) (fun v H2 => v = .non ∧ Q (.ref x) H2) fun _ _ _ => False) (tA W P) (tA W P') σ H Q := by
  unfold Shp.good at hg
  simp only [Bool.and_eq_true, List.all_eq_true, decide_eq_true_eq] at hg
  have q0 : tCB (fun vs H Q => ∀ x dx, H x = none → H dx = none → dx ≠ x → spF W (io.length + 1) F (.ref x :: (vs ++ [])) (upd (upd H dx (.own x)) x (.ins (W.cl c) dx [])) (fun v H2 => v = .non ∧ Q (.ref x) H2) fun _ _ _ => False) (tA W (aSel (sh.n + sh.ks.length) sh.is ds (aApp P P'))) σ H Q := mk_tE h
  have q := app_tA (sel_tA hd (fun i hi => by have := hg.1 i hi; omega) hg.2 q0)
  refine tA_imp (lenP_tA hl q) fun vs H1 ⟨e1, q1⟩ => tA_imp (lenP_tA hl' q1) fun zs H2 ⟨e2, q2⟩ => ⟨e1, e2, fun x dx a b cc => ?_⟩
  simpa using q2.2 x dx a b cc
/-! ### a class in a name of one's own -/
def pMkL (i : Nat) (mk : Nat → Option PF) : PF := fun env => match env[i]? with
  | some (.dat (.kls c)) => (match mk c with
    | some P => P env
    | none => none)
  | _ => none
/-! ### properties -/
def tPropG (W : Pw) (l : Nat → Option DF) (ta : TE) : TE := fun σ H Q => ta σ H fun x H1 => ∃ c a dx fs F, l c = some F ∧ x = .ref a ∧ H1 a = some (.ins (W.cl c) dx fs) ∧ spF W 1 F [x] H1 Q fun _ _ _ => False
theorem pe_propG {l : Nat → Option DF} {e : Expr} {f : Str} {pos : Pos} {ta : TE} (hg : X.A.guards = some []) (he : PE X e ta) (ok : ∀ c F, l c = some F → Cls X.K (W.cl c) ∧ ∃ p g, PropOf X.K (W.cl c) f p g ∧ OwnAt X W 1 g F) (hab : attributeBase e f X.env (eval e X.env) = eval e X.env) :
    PE X (.Attribute e f pos) (tPropG W l ta) := by
  refine ⟨fun pins s σ H Q I h => ?_⟩
  refine attr_of hab (thn (he.run pins s σ H _ I h) fun u s1 ⟨x, H1, I1, rx, c, a, dx, fs, F, hl, ex, ea, q⟩ => ?_)
  subst ex
  obtain rfl : u = Value.ref a := rx
  obtain ⟨cl, p, g, hp, k, fd, ps, G, hr, hb⟩ := ok c F hl
  obtain ⟨mA, O, _, _, _, _⟩ := ins_get I1.hok ea
  obtain ⟨od, J, _⟩ := O.look
  obtain ⟨rest, hrec⟩ := hp.rec_
  have I2 := I1.tok (s1.toks + 1)
  have hc : (PySem.W.clsIn X.K (W.cl c)).isSome = true := by
    obtain ⟨cd, hc, _⟩ := PySem.W.any_some cl.hd
    rw [hc]
    rfl
  have ll : ([Value.ref a] : List Value).length = ps.length := (G.len _ _ _ _ q : ([V.ref a] : List V).length = ps.length)
  have bb := hb { s1 with toks := s1.toks + 1 } [.ref a] I2.kIn (by simpa using ll)
  refine PySem.W.get_bind I1.kIn J (PySem.W.plainGet_of (cl.get f)).1 (PySem.W.findObj_data hc hp.at_ hp.get hp.tak) (PySem.W.plainGet_of (cl.get f)).2 (wpAny_call (PySem.W.prop_get (s := { s1 with toks := s1.toks + 1 }) I1.kIn hrec ?_))
  refine codeAny_mono (G.run X.A.in1 X.stack { s1 with toks := s1.toks + 1 } H1 ⟨[.ref a], []⟩ [.ref a] [.ref a] Q _ hg hr.in1 I2.env0.in1 (by simpa using bb) (.cons rfl .nil) q) fun r s' hq => ?_
  cases r with
  | error er => exact hq.elim
  | ok fl =>
    cases fl with
    | ret u =>
      obtain ⟨v, H', I3, rv, q3⟩ := I2.after hq
      show wpAny _ _ (handedOut u) _ _ _
      rw [PySem.W.handedOut_of (handed_of rv)]
      exact wpAny_pure ⟨v, H', I3, rv, q3⟩
    | next => exact hq.elim
    | brk => exact hq.elim
    | cont => exact hq.elim
theorem propU_tE {l : Nat → Option DF} {c : Nat} {P : PF} {σ : L2.St} {H : Hp} {Q : VK} (h : tE W (pOwnU l c P) σ H Q) : tPropG W l (tE W P) σ H Q := ownU_tE h
/-- e.f: a property, or a field -/
def pAttr (l : Nat → Option DF) (ok : Nat → Str → Bool) (f : Str) (P : PF) : PF := fun env => match P env with
  | some (ra, _) => (match ra.cls with
    | some c => (match l c with
      | some _ => pOwnU l c P env
      | none => pFld ok f P env)
    | none => pFld ok f P env)
  | none => none
theorem pd_attr {l : Nat → Option DF} {ok : Nat → Str → Bool} {f : Str} {e : Expr} {P : PF} {pos : Pos} (hg : X.A.guards = some []) (hK : X.K = W.K) (hok : ∀ c, ok c f = true → Cls W.K (W.cl c) ∧ NoAttr W.K (W.cl c) f)
    (hp : ∀ c F, l c = some F → Cls X.K (W.cl c) ∧ ∃ p g, PropOf X.K (W.cl c) f p g ∧ OwnAt X W 1 g F) (he : PD X W P e) (hb : baseB e = true) : PD X W (pAttr l ok f P) (.Attribute e f pos) :=
  PE.weak (PE.or (pe_propG hg he hp (base_any hb)) (pe_fld he (base_any hb))) fun σ H Q h => by
    obtain ⟨env, G, rv, env', rl, p, k⟩ := h
    unfold pAttr at p
    split at p
    · split at p
      · rename_i c _
        split at p
        · exact .inl (propU_tE (c := c) ⟨env, G, rv, env', rl, p, k⟩)
        · exact .inr (by rw [hK]; exact fld_tE hok ⟨env, G, rv, env', rl, p, k⟩)
      · exact .inr (by rw [hK]; exact fld_tE hok ⟨env, G, rv, env', rl, p, k⟩)
    · cases p
/-! ### classmethods -/
theorem pe_cmethG {x m : Str} {xp ap pos : Pos} {c n : Nat} {mc : Value} {p g : Addr} {F : DF} {e : Expr} {es : List Expr} {t : TA} (hg : Gl X x) (hm : X.mg x = some (.ref (W.cl c))) (hgd : X.A.guards = some []) (r : ClX.CRead X.K (W.cl c) mc) (cm : ClX.CMet X.K (W.cl c) mc m p g) (ow : OwnAt X W n g F)
    (ha : PA X (e :: es) t) (hdb : (x == ("__debug__" : Str)) = false) (hs : (e :: es).all notStar = true) (hn : (e :: es).length < 30) (hl : (ap.endLine == pos.line) = true) :
    PE X (.Call (.Attribute (.Name x xp) m ap) (e :: es) [] pos) (fun σ H Q => t σ H fun vs H1 => spF W n F (.ref (W.cl c) :: vs) H1 Q fun _ _ _ => False) := by
  have h2 := hs
  rw [List.all_cons, Bool.and_eq_true] at h2
  refine ⟨fun pins s σ H Q I h => ?_⟩
  refine PySem.W.methodCall_KW (pl := _) (thn ((pe_glob (pos := xp) hg hm (v := .ref (W.cl c)) rfl hdb).run pins s σ H (fun v H1 => v = .ref (W.cl c) ∧ H1 = H) I ⟨rfl, rfl⟩) fun u s1 ⟨v, H1, I1, rx, ev, eH⟩ => ?_) (method_eq rfl hs hn hl)
  subst ev; subst eH
  obtain rfl : u = Value.ref (W.cl c) := rx
  refine ClX.getmethcm_ok I1 r cm fun s2 I2 => ?_
  refine ClX.callwith_cm I2 (ClX.base_none I1 (Nat.le_refl _)) cm.fi (thn (ha.run pos _ s2 σ H1 _ I2 h) fun us s3 ⟨vs, H2, I3, rv, q2⟩ => ⟨⟨ClX.pin_at I3, I3.kIn⟩, ?_⟩) (star_plain h2.1) (noStars h2.2)
  obtain ⟨k, fd, ps, G, hr, hb⟩ := ow
  have rr : Vals (V.ref (W.cl c) :: vs) (Value.ref (W.cl c) :: us) := .cons rfl rv
  have ll : (Value.ref (W.cl c) :: us).length = ps.length := rr.length ▸ G.len _ _ _ _ q2
  have bb := hb s3 (.ref (W.cl c) :: us) I3.kIn (by simpa using ll)
  have z : wpAny (model X.prog X.w) X.A (call (.ref s1.heap.objs.size) us) (EP X ((s1.heap.objs.size, PySem.W.methodObj (.ref g) (.ref (W.cl c))) :: pins) σ Q) X.xe s3 := (wpAny_call (PySem.W.method_call (ClX.pin_at I3) (codeAny_mono (G.run X.A X.stack s3 H2 ⟨.ref (W.cl c) :: us, []⟩ _ _ Q _ hgd (hr.mono (Nat.le_succ k)) I3.env0 (by simpa using bb) rr q2) fun res s' hq => by
      cases res with
      | error er => exact hq.elim
      | ok fl =>
        cases fl with
        | ret u => exact I3.after hq
        | next => exact hq.elim
        | brk => exact hq.elim
        | cont => exact hq.elim)))
  exact thn z fun _ _ y => ClX.unpinE y
def pCm (io : List Bool) (F : DF) (c : Nat) (P : PAF) : PF := pFn (false :: io) F (aCons (pC (.kls c)) P)
theorem cm_tE {io : List Bool} {F : DF} {c : Nat} {P : PAF} {σ : L2.St} {H : Hp} {Q : VK} (h : tE W (pCm io F c P) σ H Q) : tA W P σ H fun vs H1 => spF W (io.length + 1) F (.ref (W.cl c) :: vs) H1 Q fun _ _ _ => False := by
  have q := fn_tA (E := fun _ _ _ => False) h
  obtain ⟨env, G, rvs, env', r, p, k⟩ := q
  unfold aCons pC at p
  simp only [Option.bind_eq_bind, Option.bind_eq_some_iff, Prod.exists, Option.some.injEq, Prod.mk.injEq] at p
  obtain ⟨rv, e1, ⟨rfl, rfl⟩, rs, e2, h2, rfl, rfl⟩ := p
  exact ⟨env, G, rs, e2, r, h2, fun vs H1 G1 s o => k (.ref (W.cl c) :: vs) H1 G1 s (.cons (.kls c) (fun d e i h => nomatch h) o)⟩
end
end Den
end

section
set_option Elab.async false
set_option linter.all false
set_option maxRecDepth 100000
set_option maxHeartbeats 4000000
/-! DenK9: great ints, gcd, str, f-strings, isinstance of own classes, while, lists let go of. -/
namespace Den
open PySem L2
section
variable {X : Cx} {W : Pw}
/-! ### great ints -/
def mul3D (d e : D) : Option RV := match d, e with
  | .int i, .int j => if mulB i j then some (.dat (.int (i * j))) else if i.natAbs.log2 + j.natAbs.log2 < 1000000 then some (.dat (.int (i * j))) else none
  | d, e => mul2D d e
def rMul3 : R2 := fun x y H Q => rMul2 x y H Q ∨ rI CMulW (fun i j => .int (i * j)) x y H Q
theorem opr_mul3 : OpR X (binaryOp .Mult) rMul3 := opr_mul2.or op_mulW
theorem opd_mul3 : OpD W rMul3 mul3D := by
  intro x y d e G H Q z s vx vy hf k
  unfold mul3D at hf
  split at hf
  · split at hf
    · rename_i h
      exact .inl (opd_mul2 x y _ _ G H Q z s vx vy (by show (if mulB _ _ = true then _ else _) = _; rw [if_pos h]; exact hf) k)
    · split at hf
      · rename_i h
        cases hf
        cases vx.int; cases vy.int
        exact .inr ⟨_, _, rfl, rfl, h, k _ _ _ (NR.dat s (.int _))⟩
      · cases hf
  · exact .inl (opd_mul2 x y _ _ G H Q z s vx vy hf k)
def CDivF (_ j : Int) : Prop := j ≠ 0 ∧ j.natAbs.log2 < 9000
theorem op_fdivF : OpR X (binaryOp .FloorDiv) (rI CDivF fun i j => .int (i.fdiv j)) := opI fun i j _ _ _ _ _ hc q => PyProof.Rows.floordiv_int hc.1 q (.inl (PyProof.noPylong_of_log2 hc.2))
def fdiv3D (d e : D) : Option RV := match d, e with
  | .int i, .int j => if 0 < j ∧ j < 1073741824 then some (.dat (.int (i / j))) else if j ≠ 0 ∧ j.natAbs.log2 < 9000 then some (.dat (.int (i.fdiv j))) else none
  | _, _ => none
def rFdiv3 : R2 := fun x y H Q => rI CDiv (fun i j => .int (i / j)) x y H Q ∨ rI CDivF (fun i j => .int (i.fdiv j)) x y H Q
theorem opr_fdiv3 : OpR X (binaryOp .FloorDiv) rFdiv3 := op_fdiv.or op_fdivF
theorem opd_fdiv3 : OpD W rFdiv3 fdiv3D := by
  intro x y d e G H Q z s vx vy hf k
  unfold fdiv3D at hf
  split at hf
  · cases vx.int; cases vy.int
    split at hf
    · rename_i h
      cases hf
      exact .inl ⟨_, _, rfl, rfl, h, k _ _ _ (NR.dat s (.int _))⟩
    · split at hf
      · rename_i h
        cases hf
        exact .inr ⟨_, _, rfl, rfl, h, k _ _ _ (NR.dat s (.int _))⟩
      · cases hf
  · cases hf
/-! ### gcd, str -/
def gcdD : List D → Option RV
  | [.int i, .int j] => some (.dat (.int (Nat.gcd i.natAbs j.natAbs : Nat)))
  | _ => none
theorem callD_gcd : CallD W rGcd gcdD := by
  intro xs ds G H Q z s vs hf k
  unfold gcdD at hf
  split at hf
  · cases vs with | cons v t => cases t with | cons v' t => cases t; cases v.int; cases v'.int; cases hf; exact ⟨_, _, rfl, k _ _ _ (NR.dat s (.int _))⟩
  · cases hf
def strD1 : List D → Option RV
  | [.int i] => if i.natAbs.log2 < 1920 then some (.dat (.str (toString i))) else none
  | _ => none
theorem callD_str : CallD W (fun xs H Q => ∃ i, xs = [.int i] ∧ i.natAbs.log2 < 1920 ∧ Q (.str (toString i)) H) strD1 := by
  intro xs ds G H Q z s vs hf k
  unfold strD1 at hf
  split at hf
  · cases vs with
    | cons v t =>
      cases t; cases v.int
      split at hf
      · rename_i h; cases hf; exact ⟨_, rfl, h, k _ _ _ (NR.dat s (.str _))⟩
      · cases hf
  · cases hf
/-! ### repr of anything -/
def rReprO (W : Pw) (K : PySem.W.Frag) (l : Nat → Option DF) : List V → Hp → VK → Prop := fun xs H Q => rRepr K xs H Q ∨ rOwnRepr W l xs H Q
def pReprO (l : Nat → Option DF) (P : PAF) : PF := fun env => match P env with
  | some ([ra], _) => (match ra.cls with
    | some c => pOwnS l c P env
    | none => pCall reprD P env)
  | _ => none
theorem reprO_tE {l : Nat → Option DF} {P : PAF} {σ : L2.St} {H : Hp} {Q : VK} (h : tE W (pReprO l P) σ H Q) : tCB (rReprO W W.K l) (tA W P) σ H Q := by
  obtain ⟨env, G, rv, env', rl, p, k⟩ := h
  unfold pReprO at p
  split at p
  · split at p
    · rename_i c _
      exact tA_imp (ownS_tE (c := c) ⟨env, G, rv, env', rl, p, k⟩) fun _ _ z => .inr z
    · exact tA_imp (call_tE callD_repr ⟨env, G, rv, env', rl, p, k⟩) fun _ _ z => .inl z
  · cases p
/-! ### f-strings -/
def pFmt (P : PF) : PF := fun env => match P env with
  | some (.dat (.str y), e1) => if y.length ≤ sizeLine then some (.dat (.str y), e1) else none
  | some (.dat (.int i), e1) => if i.natAbs.log2 < 1920 then some (.dat (.str (toString i)), e1) else none
  | _ => none
theorem pd_fmt {e : Expr} {P : PF} {pos : Pos} (h : PD X W P e) : PD X W (pFmt P) (.FormattedValue e (-1) none pos) := PE.weak (pe_fmt h) fun σ H Q ⟨env, G, rv, env', r, p, k⟩ => by
  unfold pFmt at p
  split at p
  · rename_i y e1 hP
    split at p
    · rename_i hz
      cases p
      refine ⟨env, G, _, _, r, hP, fun v H1 G1 s o => ?_⟩
      have o' : Rp W G1 v (.str y) := o
      cases o'
      exact .inl ⟨y, rfl, hz, k _ H1 G1 s o⟩
    · cases p
  · rename_i i e1 hP
    split at p
    · rename_i hz
      cases p
      refine ⟨env, G, _, _, r, hP, fun v H1 G1 s o => ?_⟩
      have o' : Rp W G1 v (.int i) := o
      cases o'
      exact .inr ⟨i, rfl, hz, k _ H1 G1 s (.str _)⟩
    · cases p
  · cases p
def pJs : List PF → Str → PF
  | [], acc => fun env => some (.dat (.str acc), env)
  | P :: Ps, acc => fun env => match P env with
    | some (.dat (.str y), e1) => if (acc ++ y).length ≤ sizeLine then pJs Ps (acc ++ y) e1 else none
    | _ => none
theorem js_tE : ∀ {Ps : List PF} {acc : Str} {σ : L2.St} {H : Hp} {Q : VK}, tE W (pJs Ps acc) σ H Q → tJs (Ps.map (tE W)) acc σ H fun out H1 => Q (.str out) H1
  | [], acc, σ, H, Q, ⟨env, G, rv, env', r, p, k⟩ => by
    cases p
    exact k _ H G (Step.refl r) (.str _)
  | P :: Ps, acc, σ, H, Q, ⟨env, G, rv, env', r, p, k⟩ => by
    unfold pJs at p
    split at p
    · rename_i y e1 hP
      split at p
      · rename_i hz
        refine ⟨env, G, _, _, r, hP, fun v H1 G1 s o => ?_⟩
        have o' : Rp W G1 v (.str y) := o
        cases o'
        exact ⟨y, rfl, hz, js_tE ⟨e1, G1, rv, env', s.rel, p, fun v H2 G2 s2 o2 => k v H2 G2 (s.trans s2) (o2.base s.ext.dom)⟩⟩
      · cases p
    · cases p
inductive PJD (X : Cx) (W : Pw) : List Expr → List PF → Prop
  | nil : PJD X W [] []
  | cons {e : Expr} {P : PF} {es : List Expr} {Ps : List PF} : PD X W P e → PJD X W es Ps → PJD X W (e :: es) (P :: Ps)
theorem PJD.pj : ∀ {es : List Expr} {Ps : List PF}, PJD X W es Ps → PJ X es (Ps.map (tE W))
  | _, _, .nil => .nil
  | _, _, .cons h t => .cons h (PJD.pj t)
theorem pd_joined {v1 v2 : Expr} {rest : List Expr} {Ps : List PF} {pos : Pos} (h : PJD X W (v1 :: v2 :: rest) Ps) : PD X W (pJs Ps Str.empty) (.JoinedStr (v1 :: v2 :: rest) pos) := PE.weak (pe_joined h.pj) fun _ _ _ q => js_tE q
/-! ### isinstance -/
abbrev Ty := String ⊕ Nat
def tyTag : D → Option Ty
  | .obj c _ => some (.inr c)
  | d => (tyNm d).map .inl
def clTag : D → Option Ty
  | .typ n => some (.inl n)
  | .kls c => some (.inr c)
  | _ => none
def tyVal (W : Pw) : Ty → Value
  | .inl n => .type n
  | .inr c => .ref (W.cl c)
/-- the answers that are known beside the built-in ones -/
abbrev IsiT := List ((Ty × Ty) × Bool)
def isi2D (tb : IsiT) : List D → Option RV
  | [d, c] => match tyTag d, clTag c with
    | some t, some u => (match tb.lookup (t, u) with
      | some b => some (.dat (.bl b))
      | none => isiD [d, c])
    | _, _ => isiD [d, c]
  | _ => none
/-- what isinstance asks of an own class -/
structure IsiC (K : PySem.W.Frag) (C : Addr) : Prop where
  cl : Cls K C
  ha : PySem.W.findIn K (.ref C) "__class__" = some (some (.builtin "object.__class__"))
  hn : PySem.W.specialIn K (.builtin "object.__class__") "__get__" = some (some (.builtin "getset_descriptor.__get__"))
  htk : PySem.W.takesIn K (.builtin "object.__class__") = some true
  hm : PySem.W.mroIn K C (.type "object") = some true
structure IsiOk (W : Pw) (tb : IsiT) : Prop where
  ans : ∀ t u b, tb.lookup (t, u) = some b → PySem.W.kitOne W.K (tyVal W t) (tyVal W u) = some b
  cls : ∀ c u b, tb.lookup (.inr c, u) = some b → IsiC W.K (W.cl c)
theorem callD_isi2 {tb : IsiT} (ok : IsiOk W tb) : CallD W (rIsiA W.K) (isi2D tb) := by
  intro xs ds G H Q z s vs hf k
  unfold isi2D at hf
  split at hf
  · rename_i d c
    split at hf
    · rename_i t u ht hu
      split at hf
      · rename_i b hb
        cases hf
        cases vs with
        | @cons x0 _ _ _ v w => cases w with
          | @cons y0 _ _ _ v' w =>
            cases w
            have hc : ∃ cv, ClsV cv (tyVal W u) ∧ y0 = cv := by
              cases c <;> simp only [clTag] at hu <;> cases hu
              · exact ⟨_, .ty _, v'.typ⟩
              · exact ⟨_, .own _, v'.kls⟩
            obtain ⟨cv, h1, h2⟩ := hc
            subst h2
            have hx : TyX W.K H x0 (tyVal W t) := by
              cases d with
              | obj c0 fs =>
                cases ht
                obtain ⟨a, dx, fv, rfl, ha, _⟩ := v.obj s
                have q := ok.cls _ _ _ hb
                exact .base (.ins ha q.cl q.ha q.hn q.htk q.hm)
              | _ =>
                simp only [tyTag, Option.map_eq_some_iff] at ht
                obtain ⟨T, h3, rfl⟩ := ht
                exact tyNm_ok s v h3
            exact .inl ⟨_, _, _, _, b, rfl, h1, hx, ok.ans _ _ _ hb, k _ _ _ (NR.dat s (.bl _))⟩
      · exact callD_isi xs _ G H Q z s vs hf k
    · exact callD_isi xs _ G H Q z s vs hf k
  · cases hf
/-! ### while -/
def whileF (np : Nat) (c : BF) (b : SF) : Nat → Env' → Option Out
  | 0, _ => none
  | n + 1, env => (c env).bind fun r => if ownB np env r.2 then (if r.1 then (b r.2).bind fun o => match o with
      | .nx e => whileF np c b n e
      | .ct e => whileF np c b n e
      | .bk e => some (.nx e)
      | .rt rv e => some (.rt rv e) else some (.nx r.2)) else none
def sWhile (np : Nat) (c : BF) (b : SF) (n : Nat) : SF := whileF np c b n
theorem while_tS {E : Entry} {c : BF} {b : SF} {n : Nat} {D : Ends} {σ : St} {H : Hp} (h : tS W E (sWhile E.np c b n) D σ H) : tWhile (tT W c) (tS W E b) D σ H := by
  obtain ⟨env, G, o, r0, p, k⟩ := h
  refine ⟨fun m σ2 H2 => ∃ env2 G2, E.To W σ2 env2 H2 G2 ∧ Same G G2 ∧ whileF E.np c b m env2 = some o, ⟨n, env, G, r0, Same.refl _, p⟩, ?_⟩
  rintro m σ2 H2 ⟨env2, G2, t, sg, q⟩
  cases m with
  | zero => cases q
  | succ m =>
    simp only [whileF, Option.bind_eq_some_iff, Prod.exists] at q
    obtain ⟨bb, e1, h1, q⟩ := q
    split at q
    · rename_i hb
      refine ⟨env2, G2, bb, e1, t.rel, h1, fun H3 G3 s => ?_⟩
      have t3 := t.trans (s.toS (np := E.np) (ownB_ok hb))
      cases bb with
      | true =>
        simp only [if_true, Option.bind_eq_some_iff] at q
        obtain ⟨o1, h2, q⟩ := q
        refine iteT ⟨fun σ' H' => ∃ env' G', E.To W σ' env' H' G' ∧ Same G G' ∧ whileF E.np c b m env' = some o, fun σ' H' z => ⟨m, Nat.lt_succ_self m, z⟩, e1, G3, o1, t3, h2, ?_⟩
        have sg3 : Same G G3 := sg.trans s.ext.same
        cases o1 with
        | nx e => exact fun σ' H' G' t' z => ⟨e, G', t', sg3.trans z, q⟩
        | ct e => exact fun σ' H' G' t' z => ⟨e, G', t', sg3.trans z, q⟩
        | bk e => cases q; exact fun σ' H' G' t' z => k σ' H' G' t' (sg3.trans z)
        | rt rv e => cases q; exact fun v σ' H' G' t' z ok => k v σ' H' G' t' (sg3.trans z) ok
      | false =>
        simp only [Bool.false_eq_true, if_false] at q
        cases q
        exact iteF (k σ2 H3 G3 t3 (sg.trans s.ext.same))
    · cases q
/-! ### own lists let go of -/
def fzE (np : Nat) (env : Env') : List Nat → Env'
  | [] => env
  | i :: is => fzE np (match env[i]? with
    | some (.own d) => if i < np then env else env.set i (.dat d)
    | _ => env) is
def sFz (np : Nat) (is : List Nat) (P : SF) : SF := fun env => P (fzE np env is)
theorem Rel.freezeSlot {σ : St} {env : Env'} {H G : Hp} {i : Nat} {a : Addr} {o : HO} {d : D} (r : Rel W σ env H G) (hi : env[i]? = some (.own d)) (hs : σ[i]? = some (some (.ref a))) (ha : H a = some o) (ga : G a = none) (ob : Ob W G o d) : Rel W σ (env.set i (.dat d)) H (upd G a o) := by
  have hl : i < env.length := (List.getElem?_eq_some_iff.mp hi).1
  have sg : Same G (upd G a o) := same_upd ga
  refine ⟨by simp [r.len], fun b u e => ?_, fun j s hj => ?_, fun j k d' s b h1 h2 h3 h4 h5 => ?_⟩
  · by_cases z : b = a
    · subst z; rw [upd_same] at e; cases e; exact ha
    · rw [upd_ne z] at e; exact r.sub b u e
  · by_cases e : j = i
    · subst e
      rw [List.getElem?_set_self hl] at hj
      cases hj
      exact ⟨_, hs, (ob.mono sg).rp upd_same⟩
    · rw [List.getElem?_set_ne (Ne.symm e)] at hj
      refine (r.slot j s hj).mono sg (fun _ _ _ _ q => q) fun b e1 e2 e3 e4 => ?_
      have ne : b ≠ a := fun z => by
        subst z
        cases s with
        | own d' => exact e (r.dist j i d' (.own d) b hj hi rfl e1 hs)
        | _ => cases e2
      rw [upd_ne ne]; exact e3
  · by_cases ej : j = i
    · subst ej
      rw [List.getElem?_set_self hl] at h1
      cases h1
    · by_cases ek : k = i
      · subst ek
        rw [List.getElem?_set_self hl] at h2
        cases h2
        cases h3
      · rw [List.getElem?_set_ne (Ne.symm ej)] at h1
        rw [List.getElem?_set_ne (Ne.symm ek)] at h2
        exact r.dist j k d' s b h1 h2 h3 h4 h5
theorem isOwn_fz {σ : St} {env : Env'} {i : Nat} {d : D} {b : Addr} (h : IsOwn σ (env.set i (.dat d)) b) : IsOwn σ env b := by
  obtain ⟨j, d', h1, h2⟩ := h
  by_cases e : j = i
  · subst e
    have hj : j < env.length := by
      have := (List.getElem?_eq_some_iff.mp h1).1
      simpa using this
    rw [List.getElem?_set_self hj] at h1
    cases h1
  · rw [List.getElem?_set_ne (Ne.symm e)] at h1
    exact ⟨j, d', h1, h2⟩
theorem fz_one {E : Entry} (hE : E.Good) {σ : St} {env : Env'} {H G : Hp} (t : E.To W σ env H G) {i : Nat} {d : D} (hi : env[i]? = some (.own d)) (hn : ¬ i < E.np) : ∃ G', E.To W σ (env.set i (.dat d)) H G' ∧ Same G G' := by
  obtain ⟨a, o, hs, ha, ga, ob⟩ := t.rel.slot i _ hi
  have h0 : E.H a = none := by
    rcases t.own a ⟨i, d, hi, hs⟩ with z | ⟨j, d', z1, z2⟩
    · exact z
    · have hj := hE j d' z1
      obtain ⟨w1, d2, w2⟩ := t.pin j d' hj z1
      have e := t.rel.dist j i d2 (.own d) a w2 hi rfl (by rw [w1]; exact z2) hs
      exact (hn (by omega)).elim
  refine ⟨upd G a o, ⟨t.rel.freezeSlot hi hs ha ga ob, t.ext.freeze ga h0, t.keep, fun b z => t.own b (isOwn_fz z), fun j d' hj e => ?_, by simp [t.len]⟩, same_upd ga⟩
  obtain ⟨h1, d2, h2⟩ := t.pin j d' hj e
  exact ⟨h1, d2, by rw [List.getElem?_set_ne (fun z => hn (by omega))]; exact h2⟩
theorem fz_all {E : Entry} (hE : E.Good) {σ : St} {H : Hp} : ∀ (is : List Nat) {env : Env'} {G : Hp}, E.To W σ env H G → ∃ G', E.To W σ (fzE E.np env is) H G' ∧ Same G G'
  | [], env, G, t => ⟨G, t, Same.refl _⟩
  | i :: is, env, G, t => by
    unfold fzE
    split
    · rename_i d hi
      split
      · exact fz_all hE is t
      · rename_i hn
        obtain ⟨G1, t1, s1⟩ := fz_one hE t hi hn
        obtain ⟨G2, t2, s2⟩ := fz_all hE is t1
        exact ⟨G2, t2, s1.trans s2⟩
    · exact fz_all hE is t
theorem fz_tS {E : Entry} (hE : E.Good) {is : List Nat} {P : SF} {D : Ends} {σ : St} {H : Hp} (h : tS W E (sFz E.np is P) D σ H) : tS W E P D σ H := by
  obtain ⟨env, G, o, t, p, k⟩ := h
  obtain ⟨G', t', s⟩ := fz_all hE is t
  exact ⟨_, G', o, t', p, k.mono s⟩
end
end Den
end

section
set_option Elab.async false
set_option linter.all false
set_option maxRecDepth 100000
set_option maxHeartbeats 4000000
/-! DenKA: the same, each operand evaluated once. -/
namespace Den
open PySem L2
/-- a call behind its arguments -/
def fnTail (io : List Bool) (F : DF) (rvs : List RV) (e1 : Env') : Option (RV × Env') :=
  if io.length = rvs.length ∧ onceB io rvs [] = true then
    (passE e1 io rvs).bind fun pe => (F pe).bind fun r => (backE e1 io rvs r.2).bind fun e2 => match r.1 with
      | .slot _ => none
      | rv => some (rv, e2)
  else none
theorem pFn_eq {io : List Bool} {F : DF} {P : PAF} {env : Env'} : pFn io F P env = (P env).bind fun r => fnTail io F r.1 r.2 := by
  unfold pFn fnTail
  cases P env with
  | none => rfl
  | some r => rfl
section
variable {X : Cx} {W : Pw}
def pBinV (l r : Nat → Option DF) (f : D → D → Option RV) (P P' : PF) : PF := fun env => (P env).bind fun a => (P' a.2).bind fun b => match a.1.cls with
  | some c => (l c).bind fun F => if sideB c b.1 then fnTail [false, false] F [a.1, b.1] b.2 else none
  | none => match b.1.cls with
    | some c => (r c).bind fun F => if intB a.1 then fnTail [false, false] F [b.1, a.1] b.2 else none
    | none => (a.1.cont b.2).bind fun x => (b.1.cont b.2).bind fun y => (f x y).bind fun z => some (z, b.2)
theorem pBinV_eq {l r : Nat → Option DF} {f : D → D → Option RV} {P P' : PF} : pBinV l r f P P' = pBinO l r f P P' := by
  funext env
  unfold pBinV pBinO
  cases h1 : P env with
  | none => rfl
  | some a =>
    obtain ⟨ra, e1⟩ := a
    simp only [Option.bind_some]
    cases hc : ra.cls with
    | some c =>
      simp only [pOwnL]
      cases hl : l c with
      | none => cases P' e1 <;> rfl
      | some F =>
        simp only [pFn_eq, aChk, aCons, aNil, h1, Option.bind_eq_bind, Option.bind_some]
        cases h2 : P' e1 with
        | none => rfl
        | some b =>
          obtain ⟨rb, e2⟩ := b
          simp only [Option.bind_some, chkL, hc, beq_self_eq_true, Bool.true_and]
          cases sideB c rb <;> rfl
    | none =>
      cases h2 : P' e1 with
      | none => rfl
      | some b =>
        obtain ⟨rb, e2⟩ := b
        simp only [Option.bind_some]
        cases hc2 : rb.cls with
        | some c =>
          simp only [pOwnR]
          cases hr : r c with
          | none => rfl
          | some F =>
            simp only [pFn_eq, aChk, aPick, aCons, aNil, h1, h2, Option.bind_eq_bind, Option.bind_some, pick, List.length_cons, List.length_nil, if_true, List.filterMap_cons, List.filterMap_nil, List.getElem?_cons_zero, List.getElem?_cons_succ, chkR, hc2, beq_self_eq_true, Bool.true_and]
            cases intB ra <;> rfl
        | none =>
          simp only [pBin, h1, h2, Option.bind_eq_bind, Option.bind_some]
theorem pd_binV {op : Operator} {l r : Nat → Option DF} {f : D → D → Option RV} {r0 : R2} {a b : Expr} {P P' : PF} {pos : Pos} (hl : OpR X (binaryOp op) (rOwnL W l)) (hr : OpR X (binaryOp op) (rOwnR W r)) (h0 : OpR X (binaryOp op) r0) (o : OpD W r0 f) (ha : PD X W P a) (hb : PD X W P' b) :
    PD X W (pBinV l r f P P') (.BinOp a op b pos) := by rw [pBinV_eq]; exact pd_binO hl hr h0 o ha hb
def pUnV (l : Nat → Option DF) (f : D → Option RV) (P : PF) : PF := fun env => (P env).bind fun a => match a.1.cls with
  | some c => (l c).bind fun F => fnTail [false] F [a.1] a.2
  | none => (a.1.cont a.2).bind fun x => (f x).bind fun z => some (z, a.2)
theorem pOwnU_at {l : Nat → Option DF} {c : Nat} {P : PF} {env e1 : Env'} {ra : RV} (h1 : P env = some (ra, e1)) (hc : ra.cls = some c) : pOwnU l c P env = (l c).bind fun F => fnTail [false] F [ra] e1 := by
  unfold pOwnU
  cases hl : l c with
  | none => rfl
  | some F => simp only [pFn_eq, aChk, aCons, aNil, h1, Option.bind_eq_bind, Option.bind_some, chkU, hc, beq_self_eq_true, if_true]
theorem pUnV_eq {l : Nat → Option DF} {f : D → Option RV} {P : PF} : pUnV l f P = pUnO l f P := by
  funext env
  unfold pUnV pUnO
  cases h1 : P env with
  | none => rfl
  | some a =>
    obtain ⟨ra, e1⟩ := a
    simp only [Option.bind_some]
    cases hc : ra.cls with
    | some c => simp only [pOwnU_at h1 hc]
    | none => simp only [pUn, h1, Option.bind_eq_bind, Option.bind_some]
theorem pd_unV {op : UnaryOp} {l : Nat → Option DF} {f : D → Option RV} {r0 : V → Hp → VK → Prop} {a : Expr} {P : PF} {pos : Pos} (hl : UnR X (unaryOp op) (rOwnU W l)) (h0 : UnR X (unaryOp op) r0) (o : UnD W r0 f) (ha : PD X W P a) :
    PD X W (pUnV l f P) (.UnaryOp op a pos) := by rw [pUnV_eq]; exact pd_unO hl h0 o ha
def trO (neg : Bool) : Option (RV × Env') → Option (RV × Env')
  | some (.dat (.bl b), e1) => some (.dat (.bl (if neg then !b else b)), e1)
  | _ => none
def pCmpV (neg : Bool) (l : Nat → Option DF) (f : D → D → Option RV) (P P' : PF) : PF := fun env => (P env).bind fun a => (P' a.2).bind fun b => match a.1.cls with
  | some c => (l c).bind fun F => if eqSideB c b.1 then trO neg (fnTail [false, false] F [a.1, b.1] b.2) else none
  | none => (a.1.cont b.2).bind fun x => (b.1.cont b.2).bind fun y => (f x y).bind fun z => some (z, b.2)
theorem pTr_eq {neg : Bool} {P : PF} {env : Env'} : pTr neg P env = trO neg (P env) := by
  unfold pTr trO
  split
  · rename_i h
    first | rfl | rw [h]
  · rename_i h
    first
      | rfl
      | (split
         · rename_i h2; exact (h _ _ h2).elim
         · rfl)
theorem pCmpV_eq {neg : Bool} {l : Nat → Option DF} {f : D → D → Option RV} {P P' : PF} : pCmpV neg l f P P' = pCmpO neg l f P P' := by
  funext env
  unfold pCmpV pCmpO
  cases h1 : P env with
  | none => rfl
  | some a =>
    obtain ⟨ra, e1⟩ := a
    simp only [Option.bind_some]
    cases hc : ra.cls with
    | some c =>
      simp only [pOwnEq]
      cases hl : l c with
      | none => cases P' e1 <;> rfl
      | some F =>
        simp only [pTr_eq, pFn_eq, aChk, aCons, aNil, h1, Option.bind_eq_bind, Option.bind_some]
        cases h2 : P' e1 with
        | none => rfl
        | some b =>
          obtain ⟨rb, e2⟩ := b
          simp only [Option.bind_some, chkEq, hc, beq_self_eq_true, Bool.true_and]
          cases eqSideB c rb <;> rfl
    | none => 
      simp only [pBin, h1, Option.bind_eq_bind, Option.bind_some]
theorem pd_cmpV {op : CmpOp} {neg : Bool} {l : Nat → Option DF} {f : D → D → Option RV} {r0 : R2} {a b : Expr} {P P' : PF} {pos : Pos} (hl : OpR X (compareOp op) (rOwnEq W W.K neg l)) (h0 : OpR X (compareOp op) r0) (o : OpD W r0 f)
    (hn : ∀ c F, l c = some F → ∀ T ∈ eqTys, PySem.W.notFirst W.K (W.cl c) (.type T) = true) (ha : PD X W P a) (hb : PD X W P' b) (hs : notSet b = true) : PD X W (pCmpV neg l f P P') (.Compare a [op] [b] pos) := by
  rw [pCmpV_eq]; exact pd_cmpO hl h0 o hn ha hb hs
theorem ptd_cmpV {op : CmpOp} {neg : Bool} {l : Nat → Option DF} {f : D → D → Option RV} {r0 : R2} {a b : Expr} {P P' : PF} {pos : Pos} (hl : OpR X (compareOp op) (rOwnEq W W.K neg l)) (h0 : OpR X (compareOp op) r0) (o : OpD W r0 f)
    (hn : ∀ c F, l c = some F → ∀ T ∈ eqTys, PySem.W.notFirst W.K (W.cl c) (.type T) = true) (ha : PD X W P a) (hb : PD X W P' b) (hs : notSet b = true) : PTD X W (bVal (pCmpV neg l f P P')) (.Compare a [op] [b] pos) := by
  rw [pCmpV_eq]; exact ptd_cmpO hl h0 o hn ha hb hs
def fldV (ok : Nat → Str → Bool) (f : Str) (rv : RV) (e1 : Env') : Option (RV × Env') := (rv.cont e1).bind fun d => match d with
  | .obj c fs => if ok c f then (fs.lookup f).map fun z => (.dat z, e1) else none
  | _ => none
theorem pFld_eq {ok : Nat → Str → Bool} {f : Str} {P : PF} {env : Env'} : pFld ok f P env = (P env).bind fun a => fldV ok f a.1 a.2 := by
  unfold pFld fldV
  cases P env <;> rfl
def pAttrV (l : Nat → Option DF) (ok : Nat → Str → Bool) (f : Str) (P : PF) : PF := fun env => (P env).bind fun a => match a.1.cls with
  | some c => (match l c with
    | some F => fnTail [false] F [a.1] a.2
    | none => fldV ok f a.1 a.2)
  | none => fldV ok f a.1 a.2
theorem pAttrV_eq {l : Nat → Option DF} {ok : Nat → Str → Bool} {f : Str} {P : PF} : pAttrV l ok f P = pAttr l ok f P := by
  funext env
  unfold pAttrV pAttr
  cases h1 : P env with
  | none => rfl
  | some a =>
    obtain ⟨ra, e1⟩ := a
    simp only [Option.bind_some]
    cases hc : ra.cls with
    | some c =>
      cases hl : l c with
      | some F => simp only [pOwnU_at h1 hc, hl, Option.bind_some]
      | none => simp only [pFld_eq, h1, Option.bind_some, hl]
    | none => simp only [pFld_eq, h1, Option.bind_some]
theorem pd_attrV {l : Nat → Option DF} {ok : Nat → Str → Bool} {f : Str} {e : Expr} {P : PF} {pos : Pos} (hg : X.A.guards = some []) (hK : X.K = W.K) (hok : ∀ c, ok c f = true → Cls W.K (W.cl c) ∧ NoAttr W.K (W.cl c) f)
    (hp : ∀ c F, l c = some F → Cls X.K (W.cl c) ∧ ∃ p g, PropOf X.K (W.cl c) f p g ∧ OwnAt X W 1 g F) (he : PD X W P e) (hb : baseB e = true) : PD X W (pAttrV l ok f P) (.Attribute e f pos) := by
  rw [pAttrV_eq]; exact pd_attr hg hK hok hp he hb
def strsO : Option (RV × Env') → Option (RV × Env')
  | some (.dat (.str x), e1) => some (.dat (.str x), e1)
  | _ => none
def pReprV (l : Nat → Option DF) (P : PAF) : PF := fun env => (P env).bind fun a => match a.1 with
  | [ra] => (match ra.cls with
    | some c => (l c).bind fun F => strsO (fnTail [false] F [ra] a.2)
    | none => (ra.cont a.2).bind fun d => (reprD [d]).bind fun z => some (z, a.2))
  | _ => none
theorem pStrs_eq {P : PF} {env : Env'} : pStrs P env = strsO (P env) := by
  unfold pStrs strsO
  split
  · rename_i h
    first | rfl | rw [h]
  · rename_i h
    first
      | rfl
      | (split
         · rename_i h2; exact (h _ _ h2).elim
         · rfl)
theorem pReprV_eq {l : Nat → Option DF} {P : PAF} : pReprV l P = pReprO l P := by
  funext env
  unfold pReprV pReprO
  cases h1 : P env with
  | none => rfl
  | some a =>
    obtain ⟨rvs, e1⟩ := a
    simp only [Option.bind_some]
    match rvs with
    | [] => rfl
    | [ra] =>
      simp only
      cases hc : ra.cls with
      | some c =>
        simp only [pOwnS]
        cases hl : l c with
        | none => rfl
        | some F => simp only [pStrs_eq, pFn_eq, aChk, h1, Option.bind_some, chkU, hc, beq_self_eq_true, if_true]
      | none =>
        simp only [pCall, h1, Option.bind_eq_bind, Option.bind_some, conts]
        cases ra.cont e1 <;> rfl
    | _ :: _ :: _ => rfl
theorem pd_reprV {l : Nat → Option DF} {p pos : Pos} {e : Expr} {es : List Expr} {P : PAF} (hK : X.K = W.K) (hgd : X.A.guards = some []) (hu : X.A.units + 70 < cLine) (ok : ∀ c F, l c = some F → ∃ f, OwnUn X.K (W.cl c) f "__repr__" ∧ OwnAt X W 1 f F) (hg : Gl X "repr") (hm : X.mg "repr" = none)
    (ha : PAD X W P (e :: es)) (hs : (e :: es).all notStar = true) : PD X W (pReprV l P) (.Call (.Name "repr" p) (e :: es) [] pos) := by
  have h2 := hs
  rw [List.all_cons, Bool.and_eq_true] at h2
  rw [pReprV_eq]
  exact PE.weak (pe_callB (CallR.or (cr_repr hgd hu) (cr_ownRepr hgd (by omega) ok)) hg hm PyProof.Rows.boot_repr ha (by decide) (by decide) (star_plain h2.1) (noStars h2.2)) fun _ _ _ h => by
    have q := reprO_tE h
    rw [hK]; exact q
/-! ### methods -/
/-- an own object's class and fields -/
def RV.objf : RV → Option (Nat × List (Str × D))
  | .dat (.obj c fs) => some (c, fs)
  | .own (.obj c fs) => some (c, fs)
  | _ => none
def pMethV (ms : Nat → Option (List Bool × DF)) (m : Str) (P : PF) (P' : PAF) : PF := fun env => (P env).bind fun a => match a.1.objf with
  | some (c, fs) => (ms c).bind fun q => if fs.lookup m = none then (P' a.2).bind fun r => fnTail (false :: q.1) q.2 (a.1 :: r.1) r.2 else none
  | none => none
def aSelfV (c : Nat) (m : Str) (P : PF) (P' : PAF) : PAF := fun env => (P env).bind fun a => match a.1.objf with
  | some (c', fs) => if c' = c ∧ fs.lookup m = none then (P' a.2).bind fun r => some (a.1 :: r.1, r.2) else none
  | none => none
theorem methV_tE {ms : Nat → Option (List Bool × DF)} {m : Str} {P : PF} {P' : PAF} {σ : St} {H : Hp} {Q : VK} {E : XK} (h : tE W (pMethV ms m P P') σ H Q) :
    tMethA W m (fun c => (ms c).isSome = true) (fun c vs H Q => ∃ q, ms c = some q ∧ spF W (q.1.length + 1) q.2 (vs ++ []) H Q E) (tE W P) (tA W P') σ H Q := by
  obtain ⟨env, G, rv, env', r, p, k⟩ := h
  have p0 := p
  unfold pMethV at p
  cases hP : P env with
  | none => rw [hP] at p; cases p
  | some a =>
    obtain ⟨ra, e1⟩ := a
    simp only [hP, Option.bind_some] at p
    split at p
    · rename_i c fs hob
      simp only [Option.bind_eq_some_iff] at p
      obtain ⟨q, hq, p⟩ := p
      split at p
      · rename_i hlk
        simp only [Option.bind_eq_some_iff] at p
        obtain ⟨r2, h2, p⟩ := p
        have e : pFn (false :: q.1) q.2 (aSelfV c m P P') env = some (rv, env') := by
          rw [pFn_eq]
          unfold aSelfV
          simp only [hP, Option.bind_some, hob, hlk, and_self, if_true, h2]
          exact p
        have h3 : tA W (aSelfV c m P P') σ H fun vs H1 => spF W (q.1.length + 1) q.2 (vs ++ []) H1 Q E := fn_tE ⟨env, G, rv, env', r, e, k⟩
        clear e k p p0 r h2 hob hP hlk
        obtain ⟨env, G, rvs, env', r, p, k⟩ := h3
        unfold aSelfV at p
        simp only [Option.bind_eq_some_iff] at p
        obtain ⟨⟨ra, e1⟩, h1, p⟩ := p
        simp only at p
        split at p
        · rename_i c' fs' hob
          split at p
          · rename_i hc
            simp only [Option.bind_eq_some_iff, Option.some.injEq, Prod.mk.injEq] at p
            obtain ⟨⟨rs, e2⟩, h4, rfl, rfl⟩ := p
            refine tE_one r h1 fun v H1 G1 s o => ?_
            have obj : ∃ a dx fv, v = .ref a ∧ H1 a = some (.ins (W.cl c') dx fv) ∧ fv.lookup m = none := by
              cases ra with
              | slot j => cases hob
              | dat d =>
                cases d <;> cases hob
                obtain ⟨a, dx, fv, rfl, ha, rf⟩ := (Vw.rp (H := H1) (show Rp W G1 v _ from o)).obj s.rel.sub
                exact ⟨a, dx, fv, rfl, ha, rf.none hc.2⟩
              | own d =>
                cases d <;> cases hob
                obtain ⟨a, ob, rfl, ha, _, _, hob⟩ := o
                cases hob with
                | obj rf => exact ⟨a, _, _, rfl, ha, rf.none hc.2⟩
            obtain ⟨a, dx, fv, rfl, ha, hl⟩ := obj
            refine ⟨c', a, dx, fv, (by show (ms c').isSome = true; rw [hc.1, hq]; rfl), rfl, ha, hl, e1, G1, rs, e2, s.rel, h4, fun vs H2 G2 s2 o2 => ?_⟩
            refine ⟨q, by rw [hc.1]; exact hq, ?_⟩
            refine k (.ref a :: vs) H2 G2 (s.trans s2) (.cons (o.step s.rel (fun b z => s.ownNe r z) s2) (fun d e i ed er => ?_) (o2.base s.ext.dom))
            exact o2.fresh (by rw [ha]; simp) er
          · cases p
        · cases p
      · cases p
    · cases p
end
end Den
end

section
set_option Elab.async false
set_option linter.all false
set_option maxRecDepth 100000
set_option maxHeartbeats 4000000
/-! DenKB: methods called in any shape. -/
namespace Den
open PySem L2
section
variable {X : Cx} {W : Pw}
/-- a call of a value that is found, first ahead of the arguments -/
theorem callFirst_ok {f : Value} {first : List Value} {pos : Pos} {ks : List Str} {es : List Expr} {kws : List Keyword} {t tk : TA} {r : List V → List V → Hp → VK → Prop} {pins : List (Addr × Obj)} {σ : L2.St} {s : Shared} {H : Hp} {Q : VK}
    (hc : ∀ (s : Shared) (H : Hp) (vs zs : List V) (us ws : List Value), Inv X pins σ H s → Vals vs us → Vals zs ws → r vs zs H Q → wpAny (model X.prog X.w) X.A (call f (first ++ us) (ks.zip ws)) (EP X pins σ Q) X.xe s) (hk : PySem.W.keepIn X.K f = true)
    (ha : PA X es t) (hkw : PK X kws tk) (hs : es.all notStar = true) (hks : kws? kws = some ks) (hnil : es = [] → ∀ σ H Q, t σ H Q → Q [] H) (hnilk : kws = [] → ∀ σ H Q, tk σ H Q → Q [] H) (I : Inv X pins σ H s) (h : tCKw r t tk σ H Q) :
    wpAny (model X.prog X.w) X.A (callWith pos f first (backTo pos (starEach es X.env)) (backToKw pos (keywordEach kws X.env))) (EP X pins σ Q) X.xe s := by
  obtain ⟨q1, q2, q3⟩ := kwsP (X := X) (pos := pos) hks
  cases es with
  | nil =>
    have h' : tk σ H fun zs H2 => r [] zs H2 Q := hnil rfl σ H _ h
    cases kws with
    | nil =>
      cases hks
      refine PySem.W.callWith_K0 I.kIn hk ?_
      exact hc s H [] [] [] [] I .nil .nil (hnilk rfl σ H _ h')
    | cons k kr =>
      refine PySem.W.callWith_KW0 (h₀ := X.base) I.ok.mod.kin hk q1 ?_ (by rw [q2]; rfl)
      refine thn (hkw.run pos pins s σ H _ I h') fun ws s2 ⟨zs, H2, I2, rz, q⟩ => ⟨I2.kIn, ?_⟩
      rw [q3]
      exact hc s2 H2 [] zs [] ws I2 .nil rz q
  | cons e es =>
    have h2 := hs
    rw [List.all_cons, Bool.and_eq_true] at h2
    refine PySem.W.callWith_KW (h₀ := X.base) I.ok.mod.kin hk q1 ?_ (by rw [star_plain h2.1]; show (false || (backTo pos (starEach es X.env)).any (·.1) || _) = false; rw [noStars h2.2, q2]; rfl) (star_plain h2.1)
    refine thn (ha.run pos pins s σ H _ I h) fun us s1 ⟨vs, H1, I1, rv, q⟩ => ?_
    refine thn (hkw.run pos pins s1 σ H1 _ I1 q) fun ws s2 ⟨zs, H2, I2, rz, q⟩ => ⟨I2.kIn, ?_⟩
    rw [q3]
    exact hc s2 H2 vs zs us ws I2 rv rz q
/-- a default as a value -/
def dV : D → V
  | .int i => .int i
  | .str x => .str x
  | .bl b => .bl b
  | _ => .non
def dFlat : D → Bool
  | .int _ => true
  | .str _ => true
  | .bl _ => true
  | .non => true
  | _ => false
theorem dV_rp {G : Hp} : ∀ {ds : List D}, ds.all dFlat = true → RpAll W G (ds.map dV) ds
  | [], _ => .nil
  | d :: ds, h => by
    rw [List.all_cons, Bool.and_eq_true] at h
    refine .cons ?_ (dV_rp h.2)
    cases d <;> first | (cases h.1; done) | exact .int _ | exact .str _ | exact .bl _ | exact .non
/-- how a method is known: its def, its shapes, what it makes -/
structure Mi where
  io : List Bool
  F : DF
  ds : List D
  sh : Shp
/-- the method m of the class at c: as it is called -/
def MethAt (X : Cx) (W : Pw) (c : Nat) (m : Str) (q : Mi) : Prop := ∃ f k fd ps its, Cls X.K (W.cl c) ∧ Meth X.K (W.cl c) m f ∧ FnG X.prog X.w X.K X.mg X.base k f fd ps (spF W (q.io.length + 1) q.F) ∧ Room (k + 1) X.A ∧ Vals (q.ds.map dV) its ∧ ShOk1 X.K fd ps its q.sh
/-- o.m(..) -/
def tMethS (X : Cx) (W : Pw) (m : Str) (ms : Nat → Option Mi) (ta : TE) (t tk : TA) : TE := fun σ H Q => ta σ H fun x H1 => ∃ c a dx fs q, ms c = some q ∧ x = .ref a ∧ H1 a = some (.ins (W.cl c) dx fs) ∧ fs.lookup m = none ∧
  t σ H1 fun vs H2 => tk σ H2 fun zs H3 => vs.length = q.sh.n ∧ zs.length = q.sh.ks.length ∧ spF W (q.io.length + 1) q.F (.ref a :: pick q.sh.is (vs ++ zs ++ q.ds.map dV)) H3 Q fun _ _ _ => False
theorem meth_eqS {o : Expr} {m : Str} {apos pos : Pos} {args : List Expr} {kws : List Keyword} {ks : List Str} (hb : baseB o = true) (hf : args.all notStar = true) (hks : kws? kws = some ks) (hn : args.length + kws.length < 29) (hl : (apos.endLine == pos.line) = true) : eval (.Call (.Attribute o m apos) args kws pos) X.env = (do
      let ov ← eval o X.env
      standAt apos.atName
      let (f, first) ← holding [ov] (getMethod ov m (do return (← importBound o X.env).getD true))
      callWith pos f first (backTo pos (starEach args X.env)) (backToKw pos (keywordEach kws X.env))) := by
  obtain ⟨q1, q2, q3⟩ := kwsP (X := X) (pos := pos) hks
  have hform : methodCallForm (args.length + kws.length) (backTo pos (starEach args X.env)) (backToKw pos (keywordEach kws X.env)) = true := by
    have h1 := bm_few (pos := pos) (env := X.env) hf (by omega)
    simp only [Bool.and_eq_true, decide_eq_true_eq] at h1
    unfold methodCallForm
    simp only [Bool.and_eq_true, decide_eq_true_eq]
    refine ⟨⟨h1.1.1, q1⟩, ?_⟩
    split <;> omega
  have hpos : methodCallPos true o X.env apos pos = pure pos := by unfold methodCallPos; simp [hl]
  rw [arm_eval_Call, base_any hb]
  congr 1
  funext ov
  congr 1
  funext u
  unfold methodCall
  rw [hform]
  rw [hpos]
  rfl
theorem pe_methS {o : Expr} {m : Str} {apos pos : Pos} {es : List Expr} {kws : List Keyword} {ks : List Str} {ta : TE} {t tk : TA} {ms : Nat → Option Mi} (hg : X.A.guards = some []) (he : PE X o ta) (ok : ∀ c q, ms c = some q → MethAt X W c m q ∧ q.sh.ks = ks)
    (ha : PA X es t) (hkw : PK X kws tk) (hb : baseB o = true) (hs : es.all notStar = true) (hks : kws? kws = some ks) (hn : es.length + kws.length < 29) (hl : (apos.endLine == pos.line) = true) (hnil : es = [] → ∀ σ H Q, t σ H Q → Q [] H) (hnilk : kws = [] → ∀ σ H Q, tk σ H Q → Q [] H) :
    PE X (.Call (.Attribute o m apos) es kws pos) (tMethS X W m ms ta t tk) := by
  refine ⟨fun pins s σ H Q I h => ?_⟩
  refine PySem.W.methodCall_KW (thn (he.run pins s σ H _ I h) ?_) (meth_eqS hb hs hks hn hl)
  rintro u s1 ⟨x, H1, I1, rx, c, a, dx, fs, q, hq, ex, ea, l, z⟩
  subst ex
  cases (show u = Value.ref a from rx)
  obtain ⟨⟨f, k, fd, ps, its, c1, M, F, hr, hv, hsh⟩, hkk⟩ := ok c q hq
  subst hkk
  refine getmeth_ok I1 ea c1 M l ?_
  refine callFirst_ok (r := fun vs zs H Q => vs.length = q.sh.n ∧ zs.length = q.sh.ks.length ∧ spF W (q.io.length + 1) q.F (.ref a :: pick q.sh.is (vs ++ zs ++ q.ds.map dV)) H Q fun _ _ _ => False) (fun s2 H2 vs zs us ws I2 rv rz y => ?_) M.kp ha hkw hs hks hnil hnilk I1 z
  obtain ⟨l1, l2, y⟩ := y
  have rr : Vals (V.ref a :: pick q.sh.is (vs ++ zs ++ q.ds.map dV)) (Value.ref a :: pick q.sh.is (us ++ ws ++ its)) := .cons rfl (pick_vals ((rv.append rz).append hv))
  apply wpAny_call
  apply codeAny_mono (F.run X.A X.stack s2 H2 ⟨.ref a :: us, q.sh.ks.zip ws⟩ _ _ Q _ hg (hr.mono (Nat.le_succ k)) I2.env0 (hsh s2 (.ref a) us ws I2.kIn (rv.length ▸ l1) (rz.length ▸ l2)) rr y)
  intro res s' hq'
  cases res with
  | error e => exact hq'.elim
  | ok fl =>
    cases fl with
    | ret u => exact I2.after hq'
    | next => exact hq'.elim
    | brk => exact hq'.elim
    | cont => exact hq'.elim
def pMethS (ms : Nat → Option Mi) (m : Str) (P : PF) (P' P'' : PAF) : PF := fun env => (P env).bind fun a => match a.1.objf with
  | some (c, fs) => (ms c).bind fun q => if fs.lookup m = none then (aSel (q.sh.n + q.sh.ks.length) q.sh.is q.ds (aApp P' P'') a.2).bind fun r => fnTail (false :: q.io) q.F (a.1 :: r.1) r.2 else none
  | none => none
theorem methS_tE {ms : Nat → Option Mi} {m : Str} {P : PF} {P' P'' : PAF} {σ : St} {H : Hp} {Q : VK} (hl : ∀ c q, ms c = some q → LenP P' q.sh.n) (hl' : ∀ c q, ms c = some q → LenP P'' q.sh.ks.length) (hgd : ∀ c q, ms c = some q → q.sh.good q.ds.length = true) (hfl : ∀ c q, ms c = some q → q.ds.all dFlat = true) (h : tE W (pMethS ms m P P' P'') σ H Q) : tMethS X W m ms (tE W P) (tA W P') (tA W P'') σ H Q := by
  obtain ⟨env, G, rv, env', r, p, k⟩ := h
  unfold pMethS at p
  simp only [Option.bind_eq_some_iff] at p
  obtain ⟨⟨ra, e1⟩, hP, p⟩ := p
  simp only at p
  split at p
  · rename_i c fs hob
    simp only [Option.bind_eq_some_iff] at p
    obtain ⟨q, hq, p⟩ := p
    split at p
    · rename_i hlk
      have p' : pMethV (fun c' => if c' = c then some (q.io, q.F) else none) m P (aSel (q.sh.n + q.sh.ks.length) q.sh.is q.ds (aApp P' P'')) env = some (rv, env') := by
        unfold pMethV
        simp only [hP, Option.bind_some, hob, if_true, hlk]
        exact p
      have q2 := methV_tE (E := fun _ _ _ => False) ⟨env, G, rv, env', r, p', k⟩
      refine tE_imp q2 fun x H1 z => ?_
      obtain ⟨c', a, dx, fv, h1, h2, h3, h4, h5⟩ := z
      have ec : c' = c := by
        by_cases e : c' = c
        · exact e
        · simp [e] at h1
      subst ec
      refine ⟨c', a, dx, fv, q, hq, h2, h3, h4, ?_⟩
      have gd := hgd c' q hq
      unfold Shp.good at gd
      simp only [Bool.and_eq_true, List.all_eq_true, decide_eq_true_eq] at gd
      have q3 : tA W (aSel (q.sh.n + q.sh.ks.length) q.sh.is q.ds (aApp P' P'')) σ H1 fun vs H2 => spF W (q.io.length + 1) q.F (.ref a :: vs) H2 Q fun _ _ _ => False := tA_imp h5 fun vs H2 y => by
        obtain ⟨q', e, y⟩ := y
        simp only [if_true, Option.some.injEq] at e
        subst e
        rw [List.append_nil, h2] at y
        exact y
      have q4 := app_tA (sel_tA (fun G => dV_rp (hfl c' q hq)) (fun i hi => by have := gd.1 i hi; omega) gd.2 q3)
      exact tA_imp (lenP_tA (hl c' q hq) q4) fun vs H2 ⟨e1, y⟩ => tA_imp (lenP_tA (hl' c' q hq) y) fun zs H3 ⟨e2, y2⟩ => ⟨e1, e2, y2.2⟩
    · cases p
  · cases p
end
end Den
end

section
set_option Elab.async false
set_option linter.all false
set_option maxRecDepth 100000
set_option maxHeartbeats 2000000
/-! DenL: a def by its body. -/
namespace Den
open PySem L2
section
variable {W : Pw}

/-- the parameters behind a body: own ones as the body left them -/
def selO : SV → SV → SV
  | .own _, e => e
  | s, _ => s
def outsOf : List SV → List SV → List SV
  | s :: ps, e :: es => selO s e :: outsOf ps es
  | _, _ => []
theorem outsOf_len : ∀ {pe es : List SV}, pe.length ≤ es.length → (outsOf pe es).length = pe.length
  | [], _, _ => by simp [outsOf]
  | _ :: _, [], h => by simp at h
  | s :: ps, e :: es, h => by simp [outsOf, outsOf_len (pe := ps) (es := es) (by simpa using h)]
theorem outsOf_at : ∀ {pe es : List SV} {i : Nat} {t : SV}, (outsOf pe es)[i]? = some t → ∃ s e, pe[i]? = some s ∧ es[i]? = some e ∧ t = selO s e
  | [], _, _, _, h => by simp [outsOf] at h
  | _ :: _, [], _, _, h => by simp [outsOf] at h
  | s :: ps, e :: es, 0, t, h => by simp [outsOf] at h; exact ⟨s, e, by simp, by simp, h.symm⟩
  | s :: ps, e :: es, i + 1, t, h => by
    obtain ⟨s', e', h1, h2, h3⟩ := outsOf_at (pe := ps) (es := es) (i := i) (by simpa [outsOf] using h)
    exact ⟨s', e', by simpa using h1, by simpa using h2, h3⟩
/-- n parameters, m names in all -/
def fnF (m : Nat) (P : SF) : DF := fun pe => match P (pe ++ List.replicate (m - pe.length) .und) with
  | some (.rt (.dat d) env') => some (.dat d, outsOf pe env')
  | some (.rt (.own d) env') => some (.own d, outsOf pe env')
  | some (.nx env') => some (.dat .non, outsOf pe env')
  | _ => none
theorem append_und {pe : List SV} {k i : Nat} {s : SV} (h : (pe ++ List.replicate k SV.und)[i]? = some s) : pe[i]? = some s ∨ (s = .und ∧ pe.length ≤ i) := by
  rw [List.getElem?_append] at h
  split at h
  · exact .inl h
  · rename_i hi
    rw [List.getElem?_replicate] at h
    split at h
    · cases h; exact .inr ⟨rfl, by omega⟩
    · cases h
theorem Rel.start {N : List Str} {vs : List V} {pe : List SV} {H G : Hp} (r : Rel W (vs.map some) pe H G) : Rel W (L2.start N vs) (pe ++ List.replicate (N.length - pe.length) .und) H G := by
  have hl : vs.length = pe.length := by simpa using r.len
  have at_ : ∀ (i : Nat), i < pe.length → (L2.start N vs)[i]? = (vs.map some)[i]? := fun i hi => by
    unfold L2.start
    rw [List.getElem?_append_left (by simpa [hl] using hi)]
  refine ⟨by unfold L2.start; simp [hl], r.sub, fun i s h => ?_, fun i j d s a h1 h2 h3 h4 h5 => ?_⟩
  · rcases append_und h with q | ⟨rfl, _⟩
    · rw [at_ i (List.getElem?_eq_some_iff.mp q).1]; exact r.slot i s q
    · trivial
  · rcases append_und h1 with q1 | ⟨z, _⟩
    · rcases append_und h2 with q2 | ⟨rfl, _⟩
      · rw [at_ i (List.getElem?_eq_some_iff.mp q1).1] at h4
        rw [at_ j (List.getElem?_eq_some_iff.mp q2).1] at h5
        exact r.dist i j d s a q1 q2 h3 h4 h5
      · cases h3
    · cases z
/-- behind the body, seen from the call -/
theorem StepS.out {N : List Str} {vs : List V} {pe : List SV} {H G H' G' : Hp} {σ' : St} {env' : Env'} (r : Rel W (vs.map some) pe H G)
    (s : StepS W pe.length (L2.start N vs) (pe ++ List.replicate (N.length - pe.length) .und) H G σ' env' H' G') : Step W (vs.map some) pe H G (outsOf pe env') H' G' := by
  have hl : vs.length = pe.length := by simpa using r.len
  have at_ : ∀ (i : Nat), i < pe.length → (L2.start N vs)[i]? = (vs.map some)[i]? := fun i hi => by
    unfold L2.start
    rw [List.getElem?_append_left (by simpa [hl] using hi)]
  have ow : ∀ b, IsOwn (L2.start N vs) (pe ++ List.replicate (N.length - pe.length) .und) b → IsOwn (vs.map some) pe b := fun b ⟨i, d, h1, h2⟩ => by
    rcases append_und h1 with q | ⟨z, _⟩
    · rw [at_ i (List.getElem?_eq_some_iff.mp q).1] at h2; exact ⟨i, d, q, h2⟩
    · cases z
  have kp : ∀ b o, H b = some o → ¬ IsOwn (vs.map some) pe b → H' b = some o := fun b o h n => s.keep b o h fun z => n (ow b z)
  -- an own parameter
  have pinA : ∀ (i : Nat) (d : D), pe[i]? = some (.own d) → σ'[i]? = (vs.map some)[i]? ∧ ∃ d', env'[i]? = some (.own d') := fun i d h => by
    have hi := (List.getElem?_eq_some_iff.mp h).1
    obtain ⟨h1, h2⟩ := s.pin i d hi (by rw [List.getElem?_append_left hi]; exact h)
    rw [at_ i hi] at h1
    exact ⟨h1, h2⟩
  have hen : pe.length ≤ env'.length := by rw [s.len]; simp
  have oat : ∀ (i : Nat) (t : SV), (outsOf pe env')[i]? = some t → (∃ d d', pe[i]? = some (.own d) ∧ t = .own d' ∧ env'[i]? = some (.own d') ∧ σ'[i]? = (vs.map some)[i]?) ∨ (pe[i]? = some t ∧ t.isOwn = false) := fun i t h => by
    obtain ⟨u, e, h1, h2, rfl⟩ := outsOf_at h
    cases u with
    | own d =>
      obtain ⟨q1, d', q2⟩ := pinA i d h1
      rw [q2] at h2; cases h2
      exact .inl ⟨d, d', h1, rfl, q2, q1⟩
    | und => exact .inr ⟨h1, rfl⟩
    | dat d => exact .inr ⟨h1, rfl⟩
    | bor d => exact .inr ⟨h1, rfl⟩
  refine ⟨⟨(outsOf_len hen).symm, fun i t t' h h' => ?_⟩, ⟨by rw [outsOf_len hen]; exact r.len, s.rel.sub, fun i t h => ?_, fun i j d t a h1 h2 h3 h4 h5 => ?_⟩, s.ext, kp⟩
  · rcases oat i t' h' with ⟨d, d', h1, rfl, _, _⟩ | ⟨h1, _⟩
    · rw [h1] at h; cases h; rfl
    · rw [h1] at h; cases h; exact LeS.refl _
  · rcases oat i t h with ⟨d, d', h1, rfl, h2, h3⟩ | ⟨h1, h2⟩
    · rw [← h3]; exact s.rel.slot i _ h2
    · have q := r.slot i t h1
      cases t with
      | own d => cases h2
      | und => trivial
      | dat d => obtain ⟨v, q1, q2⟩ := q; exact ⟨v, q1, Rp.mono s.ext.same q2⟩
      | bor d =>
        obtain ⟨a, o, q1, q2, q3⟩ := q
        refine ⟨a, o, q1, kp a o q2 fun z => ?_, q3.mono s.ext.same⟩
        obtain ⟨k, d', z1, z2⟩ := z
        have := r.dist k i d' (.bor d) a z1 h1 rfl z2 q1
        subst this
        rw [h1] at z1; cases z1
  · have un : ∀ (i : Nat) (t : SV), (outsOf pe env')[i]? = some t → t.isObj = true → ∃ t', pe[i]? = some t' ∧ t'.isObj = true ∧ (t.isOwn = true → ∃ d, t' = .own d) := fun i t h ho => by
      rcases oat i t h with ⟨d, d', h1, rfl, _, _⟩ | ⟨h1, h2⟩
      · exact ⟨_, h1, rfl, fun _ => ⟨d, rfl⟩⟩
      · exact ⟨t, h1, ho, fun z => by rw [h2] at z; cases z⟩
    obtain ⟨t1, q1, _, q2⟩ := un i _ h1 rfl
    obtain ⟨d1, rfl⟩ := q2 rfl
    obtain ⟨t2, q3, q4, _⟩ := un j t h2 h3
    exact r.dist i j d1 t2 a q1 q3 q4 h4 h5

open PySem.Spec PyProof.Rows in
/-- THE RULE of a def: what its body makes of data -/
theorem fng_den {P : Program} {w : World} {mg : Str → Option Value} {base : Heap} {k : Nat} {f : Addr} {name qual : Str} {params : Arguments} {body : List Stmt} {scope : Scope}
    {dV kV doc pm cdv ct oc : Value} {an od : Option Addr} {osl : Array (Option Value)} {N ps : List Str} {Pb : SF}
    (lk : W.K.lookup f = some ⟨oc, od, .func (PySem.W.fnOf name qual params body scope dV kV doc pm an cdv ct), osl⟩)
    (hcd : PySem.W.codeIn W.K cdv qual = true) (S : FnScope N ps scope)
    (hb : ∀ (A : Around) (outer : List Env) (s : Shared) (H : Hp) (E : XK) (Ent : Entry), (A.deeper (envOfC qual scope s.heap.objs.size f cdv)).guards = some [] →
      Room k (A.deeper (envOfC qual scope s.heap.objs.size f cdv)) → Ent.Good → Ent.np = ps.length →
      PSsD (cxOf CX0 P w W.K mg base N qual scope f cdv A outer s H E).nox W Ent Pb body) :
    FnG P w W.K mg base (k + 1) f (PySem.W.fnOf name qual params body scope dV kV doc pm an cdv ct) ps (spF W ps.length (fnF N.length Pb)) := by
  refine fng_of lk hcd S (fun vs H Q E h => h.1) fun A outer s H vs Q E hg hr hsp => ?_
  obtain ⟨hlen, pe, G, rv, outs, r, p, kk⟩ := hsp
  have hpl : vs.length = pe.length := by simpa using r.len
  let Ent : Entry := ⟨ps.length, L2.start N vs, pe ++ List.replicate (N.length - pe.length) .und, H, G⟩
  have good : Ent.Good := fun i d h => by
    rcases append_und h with q | ⟨z, _⟩
    · have := (List.getElem?_eq_some_iff.mp q).1
      show i < ps.length
      omega
    · cases z
  refine ⟨_, (hb A outer s H E Ent hg hr good rfl).nox, pe ++ List.replicate (N.length - pe.length) .und, G, ?_⟩
  have r0 : Ent.To W (L2.start N vs) (pe ++ List.replicate (N.length - pe.length) .und) H G := StepS.refl r.start
  have outw : ∀ {σ' : L2.St} {env' : Env'} {H' G' : Hp}, Ent.To W σ' env' H' G' → Step W (vs.map some) pe H G (outsOf pe env') H' G' := fun {σ' env' H' G'} t => by
    have t' : StepS W ps.length (L2.start N vs) (pe ++ List.replicate (N.length - pe.length) .und) H G σ' env' H' G' := t
    rw [← hlen, hpl] at t'
    exact t'.out r
  unfold fnF at p
  split at p
  · rename_i d env' hP
    cases p
    exact ⟨_, r0, hP, fun v σ' H' G' t _ ok => kk v H' G' (outw t) ok⟩
  · rename_i d env' hP
    cases p
    exact ⟨_, r0, hP, fun v σ' H' G' t _ ok => kk v H' G' (outw t) ok⟩
  · rename_i env' hP
    cases p
    exact ⟨_, r0, hP, fun σ' H' G' t _ => kk .non H' G' (outw t) .non⟩
  · cases p
end
end Den
end

section
set_option Elab.async false
set_option linter.all false
set_option maxRecDepth 100000
set_option maxHeartbeats 4000000
/-! DenM: what the text itself makes of data. -/
namespace Den
open PySem L2

/-- a def of the program: its name, which of its parameters it changes, what it makes, its parameters, their defaults, the shapes of its calls -/
structure Fi where
  nm : Str
  io : List Bool
  F : DF
  ps : List Str
  ds : List D
  shs : List Shp
def Fi.shape (fi : Fi) (n : Nat) (ks : List Str) : Option Shp := fi.shs.find? fun s => s.n == n && (s.ks == ks && s.good fi.ds.length)
/-- a built-in function or type that is called -/
inductive Bi where
  | len | abs | max | min | int | divmod | all | repr | any | sum | isi | sorted | list | tuple | str
  deriving DecidableEq
def Bi.f : Bi → List D → Option RV
  | .len => lenD
  | .abs => absD
  | .max => max2D
  | .min => min2D
  | .int => int1D
  | .divmod => divmodD
  | .all => allD
  | .repr => reprD
  | .any => anyD
  | .sum => sumD
  | .isi => isiD
  | .sorted => sortedD
  | .list => listD
  | .tuple => tupleD
  | .str => strD1
def Bi.nm : Bi → Str
  | .len => "len"
  | .abs => "abs"
  | .max => "max"
  | .min => "min"
  | .int => "int"
  | .divmod => "divmod"
  | .all => "all"
  | .repr => "repr"
  | .any => "any"
  | .sum => "sum"
  | .isi => "isinstance"
  | .sorted => "sorted"
  | .list => "list"
  | .tuple => "tuple"
  | .str => "str"
def bis : List (Str × Bi) := [("len", .len), ("abs", .abs), ("max", .max), ("min", .min), ("int", .int), ("divmod", .divmod), ("all", .all), ("repr", .repr), ("any", .any), ("sum", .sum), ("isinstance", .isi), ("sorted", .sorted), ("list", .list), ("tuple", .tuple), ("str", .str)]
/-- built-in types that are named -/
def tys : List Str := ["int", "str", "bool", "list", "tuple", "dict"]
def tyOfName (x : Str) : String := if x == ("int" : Str) then "int" else if x == ("str" : Str) then "str" else if x == ("bool" : Str) then "bool" else if x == ("list" : Str) then "list" else if x == ("tuple" : Str) then "tuple" else "dict"
/-- an own class: its name, its number, its fields, its __init__ (the parameters behind self), its constants, its methods, classmethods, properties, operators, reflected ones, one-place ones, == -/
structure Ci where
  nm : Str
  c : Nat
  flds : List Str
  ini : Fi
  cvals : List (Str × D)
  ms : List Fi
  cms : List Fi
  props : List (Str × DF)
  bins : List (String × DF)
  rbins : List (String × DF)
  uns : List (Str × DF)
  eq : Option DF
structure Tab where
  fns : List Fi
  cons : List (Str × D)
  cls : List Ci
  isi : IsiT
  gcds : List Str
def Tab.ci (T : Tab) (x : Str) : Option Ci := T.cls.find? fun f => f.nm == x
def Tab.cid (T : Tab) (c : Nat) : Option Ci := T.cls.find? fun f => f.c == c
/-- the method m of the class c -/
def Tab.ms (T : Tab) (m : Str) (c : Nat) : Option (List Bool × DF) := (T.cid c).bind fun ci => (ci.ms.find? fun fi => fi.nm == m).map fun fi => (fi.io, fi.F)
def Tab.msS (T : Tab) (m : Str) (n : Nat) (ks : List Str) (c : Nat) : Option Mi := (T.cid c).bind fun ci => (ci.ms.find? fun fi => fi.nm == m).bind fun fi => (fi.shape n ks).bind fun sh => if fi.ds.all dFlat then some ⟨fi.io, fi.F, fi.ds, sh⟩ else none
def Tab.prop (T : Tab) (m : Str) (c : Nat) : Option DF := (T.cid c).bind fun ci => ci.props.lookup m
def Tab.binL (T : Tab) (m : String) (c : Nat) : Option DF := (T.cid c).bind fun ci => ci.bins.lookup m
def Tab.binR (T : Tab) (m : String) (c : Nat) : Option DF := (T.cid c).bind fun ci => ci.rbins.lookup m
def Tab.unL (T : Tab) (m : Str) (c : Nat) : Option DF := (T.cid c).bind fun ci => ci.uns.lookup m
def Tab.eqL (T : Tab) (c : Nat) : Option DF := (T.cid c).bind fun ci => ci.eq
def Tab.bif (T : Tab) : Bi → List D → Option RV
  | .isi => isi2D T.isi
  | b => b.f
def Tab.okF (T : Tab) (c : Nat) (f : Str) : Bool := T.cls.any fun ci => ci.c == c && ci.flds.contains f
def Tab.fn (T : Tab) (x : Str) : Option Fi := T.fns.find? fun f => f.nm == x
/-- where the text stands: the names by slots, the scope's names, how many parameters, the slots of names that are changed in place -/
structure Sc where
  N : List Str
  names : List (Str × NameKind)
  np : Nat
  mu : List Nat
def seen : Option NameKind → Bool
  | some .local => true
  | some .cell => true
  | some .free => true
  | _ => false
def Sc.slot (sc : Sc) (x : Str) : Option Nat := if seen (sc.names.lookup x) && !(x == ("__debug__" : Str)) && !(x == ("__classdict__" : Str)) then sc.N.findIdx? (· == x) else none
def Sc.gl (sc : Sc) (x : Str) : Bool := sc.names.lookup x == some .globalImplicit && !(x == ("__debug__" : Str)) && !(x == ("__name__" : Str))
def binD : Operator → Option (D → D → Option RV)
  | .Add => some addD
  | .Sub => some subD
  | .Mult => some mul3D
  | .BitOr => some orD
  | .BitAnd => some andD
  | .BitXor => some xorD
  | .LShift => some shlD
  | .RShift => some shrD
  | .Mod => some modD
  | .FloorDiv => some fdiv3D
  | .Pow => some powD
  | _ => none
def cmpF : CmpOp → Option (D → D → Option RV)
  | .Eq => some eqD
  | .NotEq => some neD
  | .Lt => some (cmpD (fun i j => decide (i < j)) ltS)
  | .LtE => some (cmpD (fun i j => decide (i ≤ j)) fun i j => !ltS j i)
  | .Gt => some (cmpD (fun i j => decide (j < i)) fun i j => ltS j i)
  | .GtE => some (cmpD (fun i j => decide (j ≤ i)) fun i j => !ltS i j)
  | .In => some (in2B false)
  | .NotIn => some (in2B true)
  | .Is => some (isD false)
  | .IsNot => some (isD true)
/-- operators that own classes may have on either side -/
def ownOp : Operator → Bool
  | .Add => true
  | .Sub => true
  | .Mult => true
  | _ => false
/-- a class that is named -/
def clsOf (T : Tab) (sc : Sc) : Expr → Option Ci
  | .Name x _ => if sc.gl x then T.ci x else none
  | _ => none
/-- two values compared -/
def cmpP (T : Tab) (op : CmpOp) (f : D → D → Option RV) (P P' : PF) : PF := match op with
  | .Eq => pCmpV false T.eqL f P P'
  | .NotEq => pCmpV true T.eqL f P P'
  | _ => pBin f P P'
def nope {α β : Type} : α → Option β := fun _ => none
/-- a block's own names and their slots -/
def ownOf (N : List Str) (scope : Scope) : List (Str × Nat) := scope.names.filterMap fun y => match y.2 with
  | .local => (N.findIdx? (· == y.1)).map fun i => (y.1, i)
  | .cell => (N.findIdx? (· == y.1)).map fun i => (y.1, i)
  | _ => none
def blkB (sc : Sc) (scope : Scope) : Bool := (match scope.kind with
    | .function => true
    | _ => false) && (scope.names.all fun y => decide (scope.names.lookup y.1 = some y.2)) && scope.names.all fun y => match y.2 with
    | .free => (match sc.names.lookup y.1 with
      | some .cell => true
      | some .free => true
      | _ => false)
    | _ => true
def Sc.blk (sc : Sc) (scope : Scope) : Sc := ⟨sc.N, scope.names, 0, sc.mu⟩
/-- targets in a block -/
def denGc (sc : Sc) (vs : List Nat) : Expr → GF
  | .Name x _ => match sc.slot x with
    | some i => if vs.contains i && (sc.names.lookup x == some .local || sc.names.lookup x == some .cell) then gSet 0 i else fun _ _ => none
    | none => fun _ _ => none
  | .Tuple [.Name x _, .Name y _] _ _ => match sc.slot x, sc.slot y with
    | some i, some j => if (vs.contains i && (sc.names.lookup x == some .local || sc.names.lookup x == some .cell)) && (vs.contains j && (sc.names.lookup y == some .local || sc.names.lookup y == some .cell)) then gTupF 2 (gsCons (gSet 0 i) (gsCons (gSet 0 j) gsNil)) else fun _ _ => none
    | _, _ => fun _ _ => none
  | _ => fun _ _ => none
def tgNames : Expr → List Str
  | .Name x _ => [x]
  | .Tuple [.Name x _, .Name y _] _ _ => [x, y]
  | _ => []
/-- the slots of an inner for's targets -/
def inSlots (sc : Sc) (vs : List Nat) (tg : Expr) : List Nat := ((tgNames tg).filterMap sc.slot).filter (vs.contains ·)
def isComp : Expr → Bool
  | .ListComp .. => true
  | .SetComp .. => true
  | .DictComp .. => true
  | _ => false

mutual
def denE (T : Tab) (sc : Sc) : Nat → Expr → PF
  | 0, _ => nope
  | n + 1, e => match e with
    | .Constant (.int i) _ _ => pC (.int i)
    | .Constant (.bool b) _ _ => pC (.bl b)
    | .Constant .none _ _ => pC .non
    | .Constant (.str x) _ _ => pC (.str x)
    | .Name x _ => (match sc.slot x with
      | some i => pVar i
      | none => if sc.gl x then (match T.cons.lookup x with
        | some d => pC d
        | none => (match T.ci x with
          | some ci => pC (.kls ci.c)
          | none => if (T.fn x).isNone && tys.contains x then pC (.typ (tyOfName x)) else nope)) else nope)
    | .BinOp a op b _ => (match binD op with
      | some f => if ownOp op then pBinV (T.binL op.info.2) (T.binR op.info.2) f (denE T sc n a) (denE T sc n b) else pBin f (denE T sc n a) (denE T sc n b)
      | none => nope)
    | .UnaryOp .Not a _ => pNot (denE T sc n a)
    | .UnaryOp .USub a _ => pUnV (T.unL "__neg__") (fun d => match d with
      | .int i => some (.dat (.int (-i)))
      | _ => none) (denE T sc n a)
    | .BoolOp op vs _ => denBE T sc n op vs
    | .IfExp c a b _ => pIf (denT T sc n c) (denE T sc n a) (denE T sc n b)
    | .Compare a [op] [b] _ => (match cmpF op with
      | some f => if notSet b then cmpP T op f (denE T sc n a) (denE T sc n b) else nope
      | none => nope)
    | .Compare a [op, op'] [b, c] _ => (match cmpF op, cmpF op' with
      | some f, some f' => if notSet c then pChain f f' (denE T sc n a) (denE T sc n b) (denE T sc n c) else nope
      | _, _ => nope)
    | .Call (.Attribute o "join" ap) [e] [] cp => if isStrC o && notStar e && ap.endLine == cp.line then pM1 joinD (denE T sc n o) (denE T sc n e) else nope
    | .Call (.Attribute o mt ap) es kws cp => if (baseB o && es.all notStar) && (decide (es.length + kws.length < 29) && ap.endLine == cp.line) then (match clsOf T sc o with
      | some ci => (match es, kws with
        | e :: r, [] => (match ci.cms.find? (fun fi => fi.nm == mt) with
          | some fi => pCm fi.io fi.F ci.c (denA T sc n (e :: r))
          | none => nope)
        | _, _ => nope)
      | none => (match kws? kws with
        | some ks => pMethS (T.msS mt es.length ks) mt (denE T sc n o) (denA T sc n es) (denA T sc n (kws.map (·.value)))
        | none => nope)) else nope
    | .List es _ => pLst (denA T sc n es)
    | .Dict [] [] _ => pDnew
    | .Tuple es _ _ => pTup (denA T sc n es)
    | .Subscript a (.Slice lo hi none _) _ => pSl (denE T sc n a) (denO T sc n lo) (denO T sc n hi)
    | .Subscript a b _ => if notSlice b then pBin ixD (denE T sc n a) (denE T sc n b) else nope
    | .JoinedStr (v1 :: v2 :: r) _ => pJs ((v1 :: v2 :: r).map fun e => denE T sc n e) Str.empty
    | .FormattedValue e (-1) none _ => pFmt (denE T sc n e)
    | .Call (.Name x _) es kws _ => if es.all notStar then (match kws? kws with
      | some ks => if sc.gl x then (match T.fn x with
        | some fi => (match fi.shape es.length ks with
          | some sh => pFnS fi.io fi.F sh fi.ds (denA T sc n es) (denA T sc n (kws.map (·.value)))
          | none => nope)
        | none => (match T.ci x with
          | some ci => (match ci.ini.shape es.length ks with
            | some sh => pMkS ci.c ci.ini.io ci.ini.F sh ci.ini.ds (denA T sc n es) (denA T sc n (kws.map (·.value)))
            | none => nope)
          | none => (match es, kws with
            | e :: r, [] => if T.gcds.contains x then pCall gcdD (denA T sc n (e :: r)) else (match bis.lookup x with
              | some .repr => pReprV (T.unL "__repr__") (denA T sc n (e :: r))
              | some b => pCall (T.bif b) (denA T sc n (e :: r))
              | none => nope)
            | _, _ => nope))) else (match sc.slot x with
          | some i => pMkL i fun c => (T.cid c).bind fun ci => (ci.ini.shape es.length ks).map fun sh => pMkS ci.c ci.ini.io ci.ini.F sh ci.ini.ds (denA T sc n es) (denA T sc n (kws.map (·.value)))
          | none => nope)
      | none => nope) else nope
    | .Attribute (.Name x xp) f _ => if sc.gl x then (match T.ci x with
        | some ci => (match ci.cvals.lookup f with
          | some d => pC d
          | none => nope)
        | none => nope) else pAttrV (T.prop f) T.okF f (denE T sc n (.Name x xp))
    | .Attribute e f _ => if baseB e then pAttrV (T.prop f) T.okF f (denE T sc n e) else nope
    | .ListComp elt [⟨tg, iter, [], 0⟩] scope _ => if blkB sc scope then
        let own := ownOf sc.N scope
        pLc (own.map (·.2)) (denI T sc n tg iter) (denGc (sc.blk scope) (own.map (·.2)) tg) (fun env => some (true, env)) (denE T (sc.blk scope) n elt) else nope
    | .ListComp elt [⟨tg, iter, [c], 0⟩] scope _ => if blkB sc scope then
        let own := ownOf sc.N scope
        pLc (own.map (·.2)) (denI T sc n tg iter) (denGc (sc.blk scope) (own.map (·.2)) tg) (denT T (sc.blk scope) n c) (denE T (sc.blk scope) n elt) else nope
    | .ListComp elt [⟨tg, iter, ifs, 0⟩, ⟨tg1, iter1, ifs1, 0⟩] scope _ => if blkB sc scope && (notSet iter && notSet iter1) then
        let vs := (ownOf sc.N scope).map (fun p : Str × Nat => p.2)
        let vs1 := inSlots (sc.blk scope) vs tg1
        pLc2 vs vs1 (denI T sc n tg iter) (denGc (sc.blk scope) vs tg) (denC T (sc.blk scope) n ifs) (denI T (sc.blk scope) n tg1 iter1) (denGc (sc.blk scope) vs1 tg1) (denC T (sc.blk scope) n ifs1) (denE T (sc.blk scope) n elt) else nope
    | _ => nope
def denBE (T : Tab) (sc : Sc) : Nat → BoolOp → List Expr → PF
  | 0, _, _ => nope
  | n + 1, op, vs => match op, vs with
    | _, [a] => denE T sc n a
    | .And, a :: b :: r => pAnd (denE T sc n a) (denBE T sc n .And (b :: r))
    | .Or, a :: b :: r => pOr (denE T sc n a) (denBE T sc n .Or (b :: r))
    | _, [] => nope
def denT (T : Tab) (sc : Sc) : Nat → Expr → BF
  | 0, _ => nope
  | n + 1, e => match e with
    | .UnaryOp .Not a _ => bNot (denT T sc n a)
    | .BoolOp op vs _ => denBT T sc n op vs
    | .Compare a [op] [b] _ => (match cmpF op with
      | some f => if notSet b then bVal (cmpP T op f (denE T sc n a) (denE T sc n b)) else nope
      | none => nope)
    | .Compare a [op, op'] [b, c] _ => (match cmpF op, cmpF op' with
      | some f, some f' => if notSet c then bVal (pChain f f' (denE T sc n a) (denE T sc n b) (denE T sc n c)) else nope
      | _, _ => nope)
    | .Call .. => bTruth (denE T sc n e)
    | .Name .. => bTruth (denE T sc n e)
    | .Attribute .. => bTruth (denE T sc n e)
    | .Subscript .. => bTruth (denE T sc n e)
    | .Constant .. => bTruth (denE T sc n e)
    | _ => nope
def denBT (T : Tab) (sc : Sc) : Nat → BoolOp → List Expr → BF
  | 0, _, _ => nope
  | n + 1, op, vs => match op, vs with
    | _, [a] => denT T sc n a
    | .And, a :: b :: r => bAnd (denT T sc n a) (denBT T sc n .And (b :: r))
    | .Or, a :: b :: r => bOr (denT T sc n a) (denBT T sc n .Or (b :: r))
    | _, [] => nope
/-- a for's conditions -/
def denC (T : Tab) (sc : Sc) : Nat → List Expr → BF
  | 0, _ => nope
  | n + 1, ifs => match ifs with
    | [] => fun env => some (true, env)
    | [c] => denT T sc n c
    | _ => nope
def denO (T : Tab) (sc : Sc) : Nat → Option Expr → OF
  | 0, _ => nope
  | n + 1, e => match e with
    | none => oNone
    | some e => oSome (denE T sc n e)
def denA (T : Tab) (sc : Sc) : Nat → List Expr → PAF
  | 0, _ => nope
  | n + 1, es => match es with
    | [] => aNil
    | e :: es => if notStar e then aCons (denE T sc n e) (denA T sc n es) else nope
/-- what is walked -/
def denI (T : Tab) (sc : Sc) : Nat → Expr → Expr → IF
  | 0, _, _ => nope
  | n + 1, tg, e => match e with
    | .Call (.Name x _) [a] [] _ =>
      if x == ("range" : Str) then (if sc.gl x && (T.fn x).isNone && notStar a then iRange1 (denA T sc n [a]) else nope)
      else if x == ("enumerate" : Str) then (match tg with
        | .Tuple .. => if sc.gl x && (T.fn x).isNone && notStar a then iEnumF (denA T sc n [a]) else nope
        | _ => nope)
      else iWalk (denE T sc n e)
    | .Call (.Name x _) [a, b] [] _ =>
      if x == ("range" : Str) then (if sc.gl x && (T.fn x).isNone && (notStar a && notStar b) then iRange2 (denA T sc n [a, b]) else nope)
      else if x == ("zip" : Str) then (match tg with
        | .Tuple .. => if sc.gl x && (T.fn x).isNone && (notStar a && notStar b) then iZipF (denA T sc n [a, b]) else nope
        | _ => nope)
      else iWalk (denE T sc n e)
    | .Set .. => nope
    | _ => iWalk (denE T sc n e)
end
end Den
end

section
set_option Elab.async false
set_option linter.all false
set_option maxRecDepth 100000
set_option maxHeartbeats 8000000
/-! DenN: what the text makes of data is what it does. -/
namespace Den
open PySem L2

/-- what holds of an own class -/
structure ClsOk (X : Cx) (W : Pw) (ci : Ci) : Prop where
  mg : X.mg ci.nm = some (.ref (W.cl ci.c))
  cls : Cls X.K (W.cl ci.c)
  fld : ∀ f ∈ ci.flds, NoAttr X.K (W.cl ci.c) f
  ini : ∃ f k fd ps its dv, Mk X.K (W.cl ci.c) f ∧ FnG X.prog X.w X.K X.mg X.base k f fd ps (spF W (ci.ini.io.length + 1) ci.ini.F) ∧ Room (k + 1) X.A ∧ Vals dv its ∧ (∀ G, RpAll W G dv ci.ini.ds) ∧ ∀ sh ∈ ci.ini.shs, ShOk1 X.K fd ps its sh
  ms : ∀ fi ∈ ci.ms, ∃ f k fd ps its, Meth X.K (W.cl ci.c) fi.nm f ∧ FnG X.prog X.w X.K X.mg X.base k f fd ps (spF W (fi.io.length + 1) fi.F) ∧ Room (k + 1) X.A ∧ Vals (fi.ds.map dV) its ∧ ∀ sh ∈ fi.shs, ShOk1 X.K fd ps its sh
  cms : ∀ fi ∈ ci.cms, ∃ mc p g, ClX.CRead X.K (W.cl ci.c) mc ∧ ClX.CMet X.K (W.cl ci.c) mc fi.nm p g ∧ OwnAt X W (fi.io.length + 1) g fi.F
  props : ∀ f F, ci.props.lookup f = some F → ∃ p g, PropOf X.K (W.cl ci.c) f p g ∧ OwnAt X W 1 g F
  bins : ∀ nm F, ci.bins.lookup nm = some F → ∃ f, OwnBin X.K (W.cl ci.c) f nm ∧ OwnAt X W 2 f F
  rbins : ∀ nm F, ci.rbins.lookup nm = some F → ∃ f, OwnRBin X.K (W.cl ci.c) f nm ∧ OwnAt X W 2 f F
  uns : ∀ nm F, ci.uns.lookup nm = some F → ∃ f, OwnUn X.K (W.cl ci.c) f nm ∧ OwnAt X W 1 f F
  eq : ∀ F, ci.eq = some F → (∃ f, OwnEq X.K (W.cl ci.c) f ∧ OwnAt X W 2 f F) ∧ ∀ T ∈ eqTys, PySem.W.notFirst X.K (W.cl ci.c) (.type T) = true
  cvals : ∀ f d, ci.cvals.lookup f = some d → (∃ mc v u, ClX.CRead X.K (W.cl ci.c) mc ∧ ClX.CVal X.K (W.cl ci.c) mc f v u ∧ ∀ G, Rp W G v d)
/-- what holds where the text stands -/
structure SX (X : Cx) (W : Pw) (T : Tab) (sc : Sc) : Prop where
  N : X.N = sc.N
  nd : sc.N.Nodup
  K : X.K = W.K
  calm : X.calm = true
  vis : ∀ x kd, sc.names.lookup x = some kd → X.env.scope.names.lookup x = some kd ∨ (kd = .free ∧ X.env.scope.names.lookup x = some .cell)
  fn : ∀ x, sc.names.lookup x = some .cell → X.fn x = true
  gu : X.A.guards = some []
  hu : X.A.units + 200 < cLine
  fns : ∀ fi ∈ T.fns, ∃ a k fd its dv, FnG X.prog X.w X.K X.mg X.base k a fd fi.ps (spF W fi.io.length fi.F) ∧ Room k X.A ∧ Vals dv its ∧ (∀ G, RpAll W G dv fi.ds) ∧ (∀ sh ∈ fi.shs, ShOk X.K fd fi.ps its sh) ∧ X.mg fi.nm = some (.ref a) ∧ PySem.W.keepIn X.K (.ref a) = true
  cons : ∀ x d, T.cons.lookup x = some d → ∃ u v, X.mg x = some u ∧ RelV v u ∧ ∀ G, Rp W G v d
  blt : ∀ x b, bis.lookup x = some b → T.fn x = none → T.ci x = none → X.mg x = none
  tyn : ∀ x, tys.contains x = true → T.fn x = none → T.cons.lookup x = none → X.mg x = none
  cls : ∀ ci ∈ T.cls, ClsOk X W ci
  isi : IsiOk W T.isi
  gcd : ∀ x, T.gcds.contains x = true → T.fn x = none → T.ci x = none → X.mg x = some (.builtin "math.gcd")
  rng : T.fn "range" = none → X.mg "range" = none
  enm : T.fn "enumerate" = none → X.mg "enumerate" = none
  zip : T.fn "zip" = none → X.mg "zip" = none

section
variable {X : Cx} {W : Pw} {T : Tab} {sc : Sc}
theorem findIdx_at {N : List Str} {x : Str} {i : Nat} (h : N.findIdx? (· == x) = some i) : N[i]? = some x := by
  rw [List.findIdx?_eq_some_iff_getElem] at h
  obtain ⟨hi, h1, _⟩ := h
  rw [List.getElem?_eq_getElem hi]
  simp only [beq_iff_eq] at h1
  rw [h1]
theorem SX.slot (S : SX X W T sc) {x : Str} {i : Nat} (h : sc.slot x = some i) : X.N[i]? = some x ∧ Vis X.env.scope x ∧ (x == ("__debug__" : Str)) = false ∧ (x == ("__classdict__" : Str)) = false := by
  unfold Sc.slot at h
  split at h
  · rename_i hc
    simp only [Bool.and_eq_true, Bool.not_eq_true'] at hc
    refine ⟨by rw [S.N]; exact findIdx_at h, ?_, hc.1.2, hc.2⟩
    cases q : sc.names.lookup x with
    | none => rw [q] at hc; simp [seen] at hc
    | some kd =>
      rw [q] at hc
      have v := S.vis x kd q
      cases kd with
      | «local» => rcases v with v | ⟨v, _⟩; exact .inl v; cases v
      | cell => rcases v with v | ⟨v, _⟩; exact .inr (.inl v); cases v
      | free => rcases v with v | ⟨_, v⟩; exact .inr (.inr v); exact .inr (.inl v)
      | _ => simp [seen] at hc
  · cases h
theorem SX.gl (S : SX X W T sc) {x : Str} (h : sc.gl x = true) : Gl X x ∧ (x == ("__debug__" : Str)) = false ∧ x ≠ "__name__" := by
  unfold Sc.gl at h
  simp only [Bool.and_eq_true, Bool.not_eq_true', beq_iff_eq] at h
  refine ⟨?_, h.1.2, fun z => ?_⟩
  · rcases S.vis x _ h.1.1 with v | ⟨v, _⟩
    · exact v
    · cases v
  · have := h.2
    rw [z] at this
    simp at this
theorem pd_nope {e : Expr} : PD X W nope e := ⟨fun pins s σ H Q I ⟨env, G, rv, env', r, p, k⟩ => by cases p⟩
theorem ptd_nope {e : Expr} : PTD X W nope e := ⟨fun pins s σ H Q I ⟨env, G, rv, env', r, p, k⟩ => by cases p⟩
theorem pwd_nope {e : Expr} : PWD X W nope e := ⟨fun wh pins s σ H Q I ⟨env, G, rv, env', r, p, k⟩ => by cases p⟩
theorem pad_nope {e : List Expr} : PAD X W nope e := ⟨fun pos pins s σ H Q I ⟨env, G, rv, env', r, p, k⟩ => by cases p⟩
theorem pod_nope {e : Option Expr} : POD X W nope e := ⟨fun pins s σ H Q I ⟨env, G, rv, env', r, p, k⟩ => by cases p⟩
theorem pid_nope {tg e : Expr} : PID X W tg nope e := ⟨fun pins s σ H Q I ⟨env, G, rv, env', r, p, k⟩ => by cases p⟩
theorem binD_ok {op : Operator} {f : D → D → Option RV} (h : binD op = some f) : ∃ r, OpR X (binaryOp op) r ∧ OpD W r f := by
  cases op <;> simp only [binD] at h <;> cases h
  · exact ⟨_, opr_add, opd_add⟩
  · exact ⟨_, op_sub, opd_sub⟩
  · exact ⟨_, opr_mul3, opd_mul3⟩
  · exact ⟨_, op_mod, opd_mod⟩
  · exact ⟨_, op_pow, opd_pow⟩
  · exact ⟨_, op_shlW, opd_shl⟩
  · exact ⟨_, op_shr, opd_shr⟩
  · exact ⟨_, op_or, opd_or⟩
  · exact ⟨_, op_xor, opd_xor⟩
  · exact ⟨_, op_and, opd_and⟩
  · exact ⟨_, opr_fdiv3, opd_fdiv3⟩
/- -/
theorem cmpF_ok (S : SX X W T sc) {op : CmpOp} {f : D → D → Option RV} (h : cmpF op = some f) : ∃ r, OpR X (compareOp op) r ∧ OpD W r f := by
  have hu : X.A.units + 64 < cLine := by have := S.hu; omega
  cases op <;> simp only [cmpF] at h <;> cases h
  · exact ⟨_, opr_eq hu, by rw [S.K]; exact opd_eq⟩
  · exact ⟨_, opr_ne hu, by rw [S.K]; exact opd_ne⟩
  · exact ⟨_, opr_lt, opd_cmp⟩
  · exact ⟨_, opr_le, opd_cmp⟩
  · exact ⟨_, opr_gt, opd_cmp⟩
  · exact ⟨_, opr_ge, opd_cmp⟩
  · exact ⟨_, opr_is, opd_is⟩
  · exact ⟨_, opr_isn, opd_is⟩
  · exact ⟨_, opr_in2 (by omega), by rw [S.K]; exact opd_in2⟩
  · exact ⟨_, opr_nin2 (by omega), by rw [S.K]; exact opd_in2⟩
/-- a block's context -/
theorem SX.blk (S : SX X W T sc) {scope : Scope} (h : blkB sc scope = true) (s : Shared) (H : Hp) (C : Addr) (cl : List (Str × Addr)) (fp : List Addr) : SX (X.blk s H scope (compEnvC scope cl C X.env) fp) W T (sc.blk scope) := by
  refine ⟨S.N, S.nd, S.K, S.calm, fun x kd q => ?_, fun x q => ?_, S.gu, S.hu, S.fns, S.cons, S.blt, S.tyn, fun ci hc => ⟨(S.cls ci hc).mg, (S.cls ci hc).cls, (S.cls ci hc).fld, (S.cls ci hc).ini, (S.cls ci hc).ms, (S.cls ci hc).cms, (S.cls ci hc).props, (S.cls ci hc).bins, (S.cls ci hc).rbins, (S.cls ci hc).uns, (S.cls ci hc).eq, (S.cls ci hc).cvals⟩, S.isi, S.gcd, S.rng, S.enm, S.zip⟩
  · have q' : scope.names.lookup x = some kd := q
    show (relabel scope X.env).names.lookup x = some kd ∨ _
    by_cases hf : kd = .free
    · subst hf
      -- a free name stays, or is a cell of the def
      have e : (relabel scope X.env).names = scope.names.map fun (n, k) => if (k == NameKind.free && X.env.scope.kind == .function && X.env.scope.names.lookup n == some .cell) then (n, NameKind.cell) else (n, k) := rfl
      have key : ∀ (l : List (Str × NameKind)), l.lookup x = some .free → (l.map fun (n, k) => if (k == NameKind.free && X.env.scope.kind == .function && X.env.scope.names.lookup n == some .cell) then (n, NameKind.cell) else (n, k)).lookup x = some .free ∨
          (l.map fun (n, k) => if (k == NameKind.free && X.env.scope.kind == .function && X.env.scope.names.lookup n == some .cell) then (n, NameKind.cell) else (n, k)).lookup x = some .cell := fun l => by
        induction l with
        | nil => intro h; simp at h
        | cons p l ih =>
          obtain ⟨n, k0⟩ := p
          intro h
          rw [List.map_cons]
          by_cases hx : x == n
          · simp only [List.lookup_cons, hx] at h
            cases h
            by_cases hc : (NameKind.free == NameKind.free && X.env.scope.kind == .function && X.env.scope.names.lookup n == some .cell) = true
            · right; simp only [hc, if_true, List.lookup_cons, hx]
            · left; simp only [hc, if_false, List.lookup_cons, hx, Bool.false_eq_true]
          · have hx' : (x == n) = false := by simpa using hx
            simp only [List.lookup_cons, hx'] at h
            by_cases hc : (k0 == NameKind.free && X.env.scope.kind == .function && X.env.scope.names.lookup n == some .cell) = true
            · simp only [hc, if_true, List.lookup_cons, hx']; exact ih h
            · simp only [hc, if_false, List.lookup_cons, hx', Bool.false_eq_true]; exact ih h
      rw [e]
      rcases key scope.names q' with z | z
      · exact .inl z
      · exact .inr ⟨rfl, z⟩
    · exact .inl (lookup_relS_keep (sc := X.env.scope) hf q')
  · show (scope.names.lookup x == some .cell) = true
    have q' : scope.names.lookup x = some .cell := q
    rw [q']; rfl
theorem SX.blkOk (S : SX X W T sc) {scope : Scope} (h : blkB sc scope = true) : BlkOk X.N X.env.scope scope (ownOf sc.N scope) := by
  unfold blkB at h
  simp only [Bool.and_eq_true, List.all_eq_true, decide_eq_true_eq] at h
  obtain ⟨⟨h1, h2⟩, h3⟩ := h
  refine ⟨?_, h2, fun p hp => ?_, fun y hy e => ?_, fun y hy e => ?_⟩
  · split at h1
    · assumption
    · cases h1
  · unfold ownOf at hp
    simp only [List.mem_filterMap] at hp
    obtain ⟨y, _, hy⟩ := hp
    have fin : (sc.N.findIdx? (· == y.1)).map (fun i => (y.1, i)) = some p → X.N[p.2]? = some p.1 := fun q => by
      simp only [Option.map_eq_some_iff] at q
      obtain ⟨i, q1, rfl⟩ := q
      rw [S.N]; exact findIdx_at q1
    split at hy
    · exact fin hy
    · exact fin hy
    · cases hy
  · have q := h3 y hy
    simp only [e] at q
    split at q
    · rename_i w
      rcases S.vis _ _ w with v | ⟨v, _⟩
      · exact .inl v
      · cases v
    · rename_i w
      rcases S.vis _ _ w with v | ⟨_, v⟩
      · exact .inr v
      · exact .inl v
    · cases q
  · by_cases m : y.1 ∈ X.N
    · left
      rw [S.N] at m
      obtain ⟨i, hi⟩ : ∃ i, sc.N.findIdx? (· == y.1) = some i := by
        cases q : sc.N.findIdx? (· == y.1) with
        | some i => exact ⟨i, rfl⟩
        | none =>
          rw [List.findIdx?_eq_none_iff] at q
          have := q _ m
          simp at this
      simp only [ownOf, List.mem_map, List.mem_filterMap]
      refine ⟨(y.1, i), ⟨y, hy, ?_⟩, rfl⟩
      rcases e with e | e <;> simp [e, hi]
    · exact .inr m
theorem pg_blk (S : SX X W T sc) {vs : List Nat} {x : Str} {i : Nat} {pos : Pos} (h : sc.slot x = some i) (hv : vs.contains i = true) (hl : (sc.names.lookup x == some .local || sc.names.lookup x == some .cell) = true) : PG X (.Name x pos) (tGc W vs (gSet 0 i)) := by
  obtain ⟨h1, _, _⟩ := S.slot h
  have hi : i ∈ vs := by simpa using hv
  simp only [Bool.or_eq_true, beq_iff_eq] at hl
  refine pgc_name (pg_name (by rw [S.N]; exact S.nd) h1 ?_ ?_) hi
  · rcases hl with hl | hl
    · rcases S.vis _ _ hl with v | ⟨v, _⟩
      · exact .inl v
      · cases v
    · rcases S.vis _ _ hl with v | ⟨v, _⟩
      · exact .inr v
      · cases v
  · rcases hl with hl | hl
    · rcases S.vis _ _ hl with v | ⟨v, _⟩
      · exact .inr v
      · cases v
    · exact .inl (S.fn _ hl)
theorem pg_nope {vs : List Nat} {e : Expr} : PG X e (tGc W vs fun _ _ => none) := ⟨fun pins s σ H v u Q I r ⟨env, G, d, env', _, _, p, _⟩ => by cases p⟩
theorem denGc_ok (S : SX X W T sc) {vs : List Nat} : ∀ e : Expr, PG X e (tGc W vs (denGc sc vs e)) := by
  intro e
  unfold denGc
  split
  · split
    · split
      · rename_i i hi hc
        simp only [Bool.and_eq_true] at hc
        exact pg_blk S hi hc.1 hc.2
      · exact pg_nope
    · exact pg_nope
  · split
    · split
      · rename_i i j hi hj hc
        simp only [Bool.and_eq_true] at hc
        refine pgc_tup (pg_tup S.calm ?_ rfl rfl)
        exact pgcs_cons (pgs_cons (pg_blk S hi hc.1.1 hc.1.2) (pgcs_cons (pgs_cons (pg_blk S hj hc.2.1 hc.2.2) pgcs_nil rfl)) rfl)
      · exact pg_nope
    · exact pg_nope
  · exact pg_nope
end
end Den
end

section
set_option Elab.async false
set_option linter.all false
set_option maxRecDepth 100000
set_option maxHeartbeats 8000000
/-! DenO: expressions. -/
namespace Den
open PySem L2
section
variable {W : Pw} {T : Tab}

theorem bis_ok {X : Cx} {sc : Sc} (S : SX X W T sc) {x : Str} {b : Bi} {p pos : Pos} {e : Expr} {es : List Expr} {P : PAF} (hb : bis.lookup x = some b) (hg : Gl X x) (hm : X.mg x = none) (hn : x ≠ "__name__") (hd : (x == ("__debug__" : Str)) = false)
    (ha : PAD X W P (e :: es)) (hs : (e :: es).all notStar = true) : PD X W (pCall (T.bif b) P) (.Call (.Name x p) (e :: es) [] pos) := by
  have hx : x = b.nm := by
    unfold bis at hb
    simp only [List.lookup_cons] at hb
    repeat' (split at hb)
    all_goals first
      | (rename_i q; simp only [beq_iff_eq] at q; cases hb; exact q)
      | cases hb
  subst hx
  have hu := S.hu
  cases b with
  | len => exact pd_callB call_len (by rw [S.K]; exact callD_len) hg hm PySem.boot_len ha hs hn hd
  | abs => exact pd_callB call_abs callD_abs hg hm PyProof.Rows.boot_abs ha hs hn hd
  | max => exact pd_callB (call_max2 S.calm) callD_max2 hg hm (by decide +kernel) ha hs hn hd
  | min => exact pd_callB (call_min2 S.calm) callD_min2 hg hm (by decide +kernel) ha hs hn hd
  | int => exact pd_callTy call_int1 callD_int1 hg hm PyProof.Rows.boot_int ha hs hn hd
  | divmod => exact pd_callB call_divmod callD_divmod hg hm PyProof.Rows.boot_divmod ha hs hn hd
  | all => exact pd_callB (cr_all S.calm) (by rw [S.K]; exact callD_all) hg hm (by decide +kernel) ha hs hn hd
  | any => exact pd_callB (cr_any S.calm) (by rw [S.K]; exact callD_any) hg hm (by decide +kernel) ha hs hn hd
  | sum => exact pd_callB (cr_sum S.calm) (by rw [S.K]; exact callD_sum) hg hm PyProof.Rows.boot_sum ha hs hn hd
  | str => exact pd_callTy call_str_int callD_str hg hm PyProof.Rows.boot_str ha hs hn hd
  | isi => exact pd_callB cr_isi (by rw [S.K]; exact callD_isi2 S.isi) hg hm PyProof.Rows.boot_isinstance ha hs hn hd
  | sorted => exact pd_callB (cr_sortedW S.K (by omega)) callD_sorted hg hm PyProof.Rows.boot_sorted ha hs hn hd
  | list => exact pd_callTy call_list_of (by rw [S.K]; exact callD_list) hg hm PyProof.Rows.boot_list ha hs hn hd
  | tuple => exact pd_callTy call_tuple_of (by rw [S.K]; exact callD_tuple) hg hm PyProof.Rows.boot_tuple ha hs hn hd
  | repr => exact pd_callB (cr_repr S.gu (by omega)) (by rw [S.K]; exact callD_repr) hg hm PyProof.Rows.boot_repr ha hs hn hd
theorem unI_ok {X : Cx} : ∃ r, UnR X (unaryOp .USub) r ∧ UnD W r (fun d => match d with
    | .int i => some (.dat (.int (-i)))
    | _ => none) := by
  refine ⟨rU fun i => .int (-i), un_neg, fun x d G H Q z s v h k => ?_⟩
  dsimp only at h
  split at h
  · cases h; cases v.int; exact ⟨_, rfl, k _ _ _ (NR.dat s (.int _))⟩
  · cases h
theorem denA_len {sc : Sc} : ∀ {n : Nat} {es : List Expr}, LenP (denA T sc n es) es.length
  | 0, es => fun env rvs e h => by unfold denA at h; cases h
  | n + 1, [] => fun env rvs e h => by unfold denA at h; cases h; rfl
  | n + 1, e0 :: es => fun env rvs e h => by
    unfold denA at h
    dsimp only at h
    split at h
    · unfold aCons at h
      simp only [Option.bind_eq_bind, Option.bind_eq_some_iff, Prod.exists, Option.some.injEq, Prod.mk.injEq] at h
      obtain ⟨rv, e1, h1, rs, e2, h2, rfl, rfl⟩ := h
      simp [denA_len _ _ _ h2]
    · cases h
theorem denA_nil {sc : Sc} {n : Nat} {σ : L2.St} {H : Hp} {Q : List V → Hp → Prop} (h : tA W (denA T sc n []) σ H Q) : Q [] H := by
  cases n with
  | zero => obtain ⟨env, G, rvs, env', r, p, k⟩ := h; unfold denA at p; cases p
  | succ n => exact nil_tA (by unfold denA at h; exact h)
theorem shape_ok {fi : Fi} {n : Nat} {ks : List Str} {sh : Shp} (h : fi.shape n ks = some sh) : sh ∈ fi.shs ∧ sh.n = n ∧ sh.ks = ks ∧ sh.good fi.ds.length = true := by
  unfold Fi.shape at h
  have h1 := List.mem_of_find?_eq_some h
  have h2 := List.find?_some h
  simp only [Bool.and_eq_true, beq_iff_eq] at h2
  exact ⟨h1, h2.1, h2.2.1, h2.2.2⟩
theorem kws_len : ∀ {kws : List Keyword} {ks : List Str}, kws? kws = some ks → (kws.map (·.value)).length = ks.length
  | [], ks, h => by cases h; rfl
  | k :: r, ks, h => by
    unfold kws? at h
    split at h
    · rename_i x xs h1 h2
      cases h
      simp [← kws_len h2]
    · cases h
theorem kws_nil {kws : List Keyword} (h : kws = []) : kws.map (·.value) = [] := by rw [h]; rfl
theorem fnS_ok {X : Cx} {sc : Sc} (S : SX X W T sc) {n : Nat} {x : Str} {fi : Fi} {sh : Shp} {p pos : Pos} {es : List Expr} {kws : List Keyword} {ks : List Str} (hf : T.fn x = some fi) (hsh : fi.shape es.length ks = some sh) (hg : Gl X x) (hd : (x == ("__debug__" : Str)) = false)
    (ha : PAD X W (denA T sc n es) es) (hk : PKD X W (denA T sc n (kws.map (·.value))) kws) (hs : es.all notStar = true) (hks : kws? kws = some ks) :
    PD X W (pFnS fi.io fi.F sh fi.ds (denA T sc n es) (denA T sc n (kws.map (·.value)))) (.Call (.Name x p) es kws pos) := by
  unfold Tab.fn at hf
  have hm := List.mem_of_find?_eq_some hf
  have hx : fi.nm = x := by
    have := List.find?_some hf
    simpa using this
  obtain ⟨a, k, fd, its, dv, F, hr, hv, hdv, hsk, hmg, hkp⟩ := S.fns fi hm
  rw [hx] at hmg
  obtain ⟨s1, s2, s3, s4⟩ := shape_ok hsh
  have lk := kws_len hks
  rw [← s3] at hks
  refine PE.weak (pe_defS (F.callS S.gu hr (hsk sh s1) hv (fun _ _ _ => False)) hg hmg hkp ha hk hs hks (fun z σ H Q q => ?_) (fun z σ H Q q => ?_) hd) fun σ H Q h => fnS_tE (by rw [s2]; exact denA_len) (by rw [s3, ← lk]; exact denA_len) hdv s4 h
  · subst z; exact denA_nil q
  · rw [kws_nil z] at q; exact denA_nil q
theorem mkS_call {X : Cx} {sc : Sc} (S : SX X W T sc) {ci : Ci} (hm : ci ∈ T.cls) {sh : Shp} (h1 : sh ∈ ci.ini.shs) : ∃ dv, (∀ G, RpAll W G dv ci.ini.ds) ∧ PySem.W.keepIn X.K (.ref (W.cl ci.c)) = true ∧
    CallRK X (.ref (W.cl ci.c)) sh.ks (fun vs zs H Q => vs.length = sh.n ∧ zs.length = sh.ks.length ∧ ∀ x dx, H x = none → H dx = none → dx ≠ x → spF W (ci.ini.io.length + 1) ci.ini.F (.ref x :: pick sh.is (vs ++ zs ++ dv)) (upd (upd H dx (.own x)) x (.ins (W.cl ci.c) dx [])) (fun v H2 => v = .non ∧ Q (.ref x) H2) fun _ _ _ => False) := by
  obtain ⟨f, k, fd, ps, its, dv, M, F, hr, hv, hdv, hsk⟩ := (S.cls ci hm).ini
  exact ⟨dv, hdv, M.kp, F.makeS M S.gu hr (hsk sh h1) hv _⟩
theorem mkS_ok {X : Cx} {sc : Sc} (S : SX X W T sc) {n : Nat} {x : Str} {ci : Ci} {sh : Shp} {p pos : Pos} {es : List Expr} {kws : List Keyword} {ks : List Str} (hm : ci ∈ T.cls) (hx : ci.nm = x) (hsh : ci.ini.shape es.length ks = some sh) (hg : Gl X x) (hd : (x == ("__debug__" : Str)) = false)
    (ha : PAD X W (denA T sc n es) es) (hk : PKD X W (denA T sc n (kws.map (·.value))) kws) (hs : es.all notStar = true) (hks : kws? kws = some ks) :
    PD X W (pMkS ci.c ci.ini.io ci.ini.F sh ci.ini.ds (denA T sc n es) (denA T sc n (kws.map (·.value)))) (.Call (.Name x p) es kws pos) := by
  subst hx
  obtain ⟨s1, s2, s3, s4⟩ := shape_ok hsh
  obtain ⟨dv, hdv, kp, hc⟩ := mkS_call S hm s1
  have lk := kws_len hks
  rw [← s3] at hks
  refine PE.weak (pe_defS hc hg (S.cls ci hm).mg kp ha hk hs hks (fun z σ H Q q => ?_) (fun z σ H Q q => ?_) hd) fun σ H Q h => mkS_tE (by rw [s2]; exact denA_len) (by rw [s3, ← lk]; exact denA_len) hdv s4 h
  · subst z; exact denA_nil q
  · rw [kws_nil z] at q; exact denA_nil q
theorem cid_mem {c : Nat} {ci : Ci} (h : T.cid c = some ci) : ci ∈ T.cls ∧ ci.c = c := by
  unfold Tab.cid at h
  refine ⟨List.mem_of_find?_eq_some h, ?_⟩
  have := List.find?_some h
  simpa using this
/-- a class in a local name -/
theorem mkL_ok {X : Cx} {sc : Sc} (S : SX X W T sc) {n : Nat} {x : Str} {i : Nat} {p pos : Pos} {es : List Expr} {kws : List Keyword} {ks : List Str} (hi : sc.slot x = some i)
    (ha : PAD X W (denA T sc n es) es) (hk : PKD X W (denA T sc n (kws.map (·.value))) kws) (hs : es.all notStar = true) (hks : kws? kws = some ks) :
    PD X W (pMkL i fun c => (T.cid c).bind fun ci => (ci.ini.shape es.length ks).map fun sh => pMkS ci.c ci.ini.io ci.ini.F sh ci.ini.ds (denA T sc n es) (denA T sc n (kws.map (·.value)))) (.Call (.Name x p) es kws pos) := by
  obtain ⟨h1, h2, h3, h4⟩ := S.slot hi
  have lk := kws_len hks
  refine ⟨fun pins s σ H Q I h => ?_⟩
  obtain ⟨env, G, rv, env', r, q, k⟩ := h
  unfold pMkL at q
  split at q
  · rename_i c hc
    split at q
    · rename_i P hP
      simp only [Option.bind_eq_some_iff, Option.map_eq_some_iff] at hP
      obtain ⟨ci, hci, sh, hsh, rfl⟩ := hP
      obtain ⟨hm, rfl⟩ := cid_mem hci
      obtain ⟨s1, s2, s3, s4⟩ := shape_ok hsh
      obtain ⟨dv, hdv, kp, hc'⟩ := mkS_call S hm s1
      have hks' := hks
      rw [← s3] at hks'
      have sl : σ[i]? = some (some (.ref (W.cl ci.c))) := by
        obtain ⟨v, z1, z2⟩ := r.slot i _ hc
        cases z2
        exact z1
      refine (pe_locS hc' h1 h2 kp ha hk hs hks' (fun z σ H Q q => ?_) (fun z σ H Q q => ?_) h3 h4).run pins s σ H Q I ⟨sl, mkS_tE (by rw [s2]; exact denA_len) (by rw [s3, ← lk]; exact denA_len) hdv s4 ⟨env, G, rv, env', r, q, k⟩⟩
      · subst z; exact denA_nil q
      · rw [kws_nil z] at q; exact denA_nil q
    · cases q
  · cases q
theorem foldSet {e : Expr} {env : Env} (h : notSet e = true) : ∀ x, foldedSetIterable e env x = pure x := by
  intro x
  cases e <;> first | rfl | cases h
theorem denI_set {sc : Sc} {n : Nat} {tg e : Expr} {env : Env'} {r : List D × Env'} (h : denI T sc n tg e env = some r) : notSet e = true := by
  cases e <;> first | rfl | skip
  cases n <;> simp [denI, nope] at h
theorem lc_ok {X : Cx} {sc : Sc} (S : SX X W T sc) {elt tg iter : Expr} {ifs : List Expr} {scope : Scope} {pos : Pos} {w : IF} {c : BF} {e : PF} (hb : blkB sc scope = true) (hn : notSet iter = true) (hi : PID X W tg w iter)
    (ht : ∀ (s : Shared) (H : Hp) (C : Addr) (cl : List (Str × Addr)) (fp : List Addr), PTs (X.blk s H scope (compEnvC scope cl C X.env) fp) ifs (tT W c))
    (he : ∀ (s : Shared) (H : Hp) (C : Addr) (cl : List (Str × Addr)) (fp : List Addr), PD (X.blk s H scope (compEnvC scope cl C X.env) fp) W e elt) :
    PD X W (pLc ((ownOf sc.N scope).map (·.2)) w (denGc (sc.blk scope) ((ownOf sc.N scope).map (·.2)) tg) c e) (.ListComp elt [⟨tg, iter, ifs, 0⟩] scope pos) :=
  PE.weak (pe_lc S.calm (by rw [S.N]; exact S.nd) hi (S.blkOk hb) (fun s H C cl fp => denGc_ok (S.blk hb s H C cl fp) tg) ht he (foldSet hn)) fun σ H Q h => lc_tE h
theorem lc_set {X : Cx} {elt tg iter : Expr} {ifs : List Expr} {scope : Scope} {pos : Pos} {vs : List Nat} {w : IF} {g : GF} {c : BF} {e : PF} (h : notSet iter = false) (hw : ∀ env r, w env = some r → notSet iter = true) : PD X W (pLc vs w g c e) (.ListComp elt [⟨tg, iter, ifs, 0⟩] scope pos) :=
  ⟨fun pins s σ H Q I ⟨env, G, rv, env', r, p, k⟩ => by
    unfold pLc at p
    simp only [Option.bind_eq_bind, Option.bind_eq_some_iff, Prod.exists] at p
    obtain ⟨ds, e1, h1, _⟩ := p
    rw [hw _ _ h1] at h
    cases h⟩
theorem pts_yes {X : Cx} : PTs X [] (tT W fun env => some (true, env)) := by
  refine ⟨fun pins s σ H Q I ⟨env, G, b, env', r, p, k⟩ => ?_⟩
  cases p
  exact pts_nil.run pins s σ H Q I (k H G (Step.refl r))

theorem pts_nope {X : Cx} {ifs : List Expr} : PTs X ifs (tT W nope) := ⟨fun pins s σ H Q I ⟨env, G, b, env', r, p, k⟩ => by cases p⟩
structure DenOk (T : Tab) (W : Pw) (n : Nat) : Prop where
  e : ∀ (X : Cx) (sc : Sc), SX X W T sc → ∀ e, PD X W (denE T sc n e) e
  be : ∀ (X : Cx) (sc : Sc), SX X W T sc → ∀ op vs pos, PD X W (denBE T sc n op vs) (.BoolOp op vs pos)
  t : ∀ (X : Cx) (sc : Sc), SX X W T sc → ∀ e, PTD X W (denT T sc n e) e
  bt : ∀ (X : Cx) (sc : Sc), SX X W T sc → ∀ op vs pos, PWD X W (denBT T sc n op vs) (.BoolOp op vs pos)
  c : ∀ (X : Cx) (sc : Sc), SX X W T sc → ∀ ifs, PTs X ifs (tT W (denC T sc n ifs))
  o : ∀ (X : Cx) (sc : Sc), SX X W T sc → ∀ e, POD X W (denO T sc n e) e
  a : ∀ (X : Cx) (sc : Sc), SX X W T sc → ∀ es, PAD X W (denA T sc n es) es
  k : ∀ (X : Cx) (sc : Sc), SX X W T sc → ∀ kws : List Keyword, PKD X W (denA T sc n (kws.map (·.value))) kws
  i : ∀ (X : Cx) (sc : Sc), SX X W T sc → ∀ tg e, PID X W tg (denI T sc n tg e) e
theorem denOk_zero : DenOk T W 0 := ⟨fun _ _ _ _ => by unfold denE; exact pd_nope, fun _ _ _ _ _ _ => by unfold denBE; exact pd_nope, fun _ _ _ _ => by unfold denT; exact ptd_nope, fun _ _ _ _ _ _ => by unfold denBT; exact pwd_nope,
  fun _ _ _ _ => by unfold denC; exact pts_nope, fun _ _ _ _ => by unfold denO; exact pod_nope, fun _ _ _ _ => by unfold denA; exact pad_nope, fun _ _ _ _ => by unfold denA; exact pkd_nope, fun _ _ _ _ _ => by unfold denI; exact pid_nope⟩
theorem okF_ok {X : Cx} {sc : Sc} (S : SX X W T sc) {f : Str} : ∀ c, T.okF c f = true → Cls W.K (W.cl c) ∧ NoAttr W.K (W.cl c) f := fun c h => by
  unfold Tab.okF at h
  rw [List.any_eq_true] at h
  obtain ⟨ci, h1, h2⟩ := h
  simp only [Bool.and_eq_true, beq_iff_eq] at h2
  have q2 := (S.cls ci h1).cls
  have q3 := (S.cls ci h1).fld
  rw [S.K] at q2 q3
  rw [← h2.1]
  exact ⟨q2, q3 f (by simpa using h2.2)⟩
theorem ci_mem {x : Str} {ci : Ci} (h : T.ci x = some ci) : ci ∈ T.cls ∧ ci.nm = x := by
  unfold Tab.ci at h
  refine ⟨List.mem_of_find?_eq_some h, ?_⟩
  have := List.find?_some h
  simpa using this
theorem cval_ok {X : Cx} {sc : Sc} (S : SX X W T sc) {x f : Str} {ci : Ci} {p pos : Pos} {d : D} (hc : T.ci x = some ci) (hv : ci.cvals.lookup f = some d) (hg : Gl X x) (hd : (x == ("__debug__" : Str)) = false) : PD X W (pC d) (.Attribute (.Name x p) f pos) := by
  obtain ⟨hm, rfl⟩ := ci_mem hc
  obtain ⟨mc, v, u, c1, c2, c3⟩ := (S.cls ci hm).cvals f d hv
  refine PE.weak (ClX.pe_cval (pe_glob hg (S.cls ci hm).mg (v := .ref (W.cl ci.c)) rfl hd)) fun σ H Q ⟨env, G, rv, env', r, p, k⟩ => ?_
  cases p
  exact ⟨_, mc, v, u, rfl, c1, c2, k v H G (Step.refl r) (c3 G)⟩
theorem msS_ok {X : Cx} {sc : Sc} (S : SX X W T sc) {m : Str} {n : Nat} {ks : List Str} : ∀ c q, T.msS m n ks c = some q → MethAt X W c m q ∧ q.sh.ks = ks ∧ q.sh.n = n ∧ q.sh.good q.ds.length = true ∧ q.ds.all dFlat = true := fun c q h => by
  unfold Tab.msS at h
  simp only [Option.bind_eq_some_iff] at h
  obtain ⟨ci, h1, fi, h2, sh, h3, h⟩ := h
  split at h
  · rename_i hfl
    cases h
    obtain ⟨hm, rfl⟩ := cid_mem h1
    have hn : fi.nm = m := by
      have := List.find?_some h2
      simpa using this
    subst hn
    obtain ⟨s1, s2, s3, s4⟩ := shape_ok h3
    obtain ⟨f, k, fd, ps, its, q1, q2, q3, q4, q5⟩ := (S.cls ci hm).ms fi (List.mem_of_find?_eq_some h2)
    exact ⟨⟨f, k, fd, ps, its, (S.cls ci hm).cls, q1, q2, q3, q4, q5 sh s1⟩, s3, s2, s4, hfl⟩
  · cases h
theorem methS_ok {X : Cx} {sc : Sc} (S : SX X W T sc) {n : Nat} {o : Expr} {m : Str} {ap pos : Pos} {es : List Expr} {kws : List Keyword} {ks : List Str} {P : PF} (ho : PD X W P o) (ha : PAD X W (denA T sc n es) es) (hk : PKD X W (denA T sc n (kws.map (·.value))) kws) (hb : baseB o = true) (hs : es.all notStar = true) (hks : kws? kws = some ks)
    (hn : es.length + kws.length < 29) (hl : (ap.endLine == pos.line) = true) : PD X W (pMethS (T.msS m es.length ks) m P (denA T sc n es) (denA T sc n (kws.map (·.value)))) (.Call (.Attribute o m ap) es kws pos) := by
  have lk := kws_len hks
  refine PE.weak (pe_methS (ms := T.msS m es.length ks) S.gu ho (fun c q h => ⟨(msS_ok S c q h).1, (msS_ok S c q h).2.1⟩) ha hk hb hs hks hn hl (fun z σ H Q q => ?_) fun z σ H Q q => ?_) fun σ H Q h =>
    methS_tE (fun c q h => by rw [(msS_ok S c q h).2.2.1]; exact denA_len) (fun c q h => by rw [(msS_ok S c q h).2.1, ← lk]; exact denA_len) (fun c q h => (msS_ok S c q h).2.2.2.1) (fun c q h => (msS_ok S c q h).2.2.2.2) h
  · subst z; exact denA_nil q
  · rw [kws_nil z] at q; exact denA_nil q
theorem cls_of {X : Cx} {sc : Sc} (S : SX X W T sc) {o : Expr} {ci : Ci} (h : clsOf T sc o = some ci) : ∃ x p, o = .Name x p ∧ Gl X x ∧ (x == ("__debug__" : Str)) = false ∧ ci ∈ T.cls ∧ ci.nm = x := by
  unfold clsOf at h
  split at h
  · rename_i x p
    split at h
    · rename_i hg
      obtain ⟨g1, g2, _⟩ := S.gl hg
      obtain ⟨c1, c2⟩ := ci_mem h
      exact ⟨x, p, rfl, g1, g2, c1, c2⟩
    · cases h
  · cases h
theorem cm_ok {X : Cx} {sc : Sc} (S : SX X W T sc) {o e : Expr} {m : Str} {ap pos : Pos} {es : List Expr} {P : PAF} {ci : Ci} {fi : Fi} (hc : clsOf T sc o = some ci) (hf : ci.cms.find? (fun fi => fi.nm == m) = some fi) (ha : PAD X W P (e :: es)) (hs : (e :: es).all notStar = true) (hn : (e :: es).length < 30) (hl : (ap.endLine == pos.line) = true) :
    PD X W (pCm fi.io fi.F ci.c P) (.Call (.Attribute o m ap) (e :: es) [] pos) := by
  obtain ⟨x, p, rfl, g1, g2, c1, c2⟩ := cls_of S hc
  have hnm : fi.nm = m := by
    have := List.find?_some hf
    simpa using this
  subst c2
  obtain ⟨mc, p', g, r1, r2, r3⟩ := (S.cls ci c1).cms fi (List.mem_of_find?_eq_some hf)
  rw [hnm] at r2
  exact PE.weak (pe_cmethG g1 (S.cls ci c1).mg S.gu r1 r2 r3 ha g2 hs hn hl) fun σ H Q h => cm_tE h
theorem binL_ok {X : Cx} {sc : Sc} (S : SX X W T sc) {nm : String} : ∀ c F, T.binL nm c = some F → ∃ f, OwnBin X.K (W.cl c) f nm ∧ OwnFn X W 2 f F := fun c F h => by
  unfold Tab.binL at h
  simp only [Option.bind_eq_some_iff] at h
  obtain ⟨ci, h1, h2⟩ := h
  obtain ⟨hm, rfl⟩ := cid_mem h1
  obtain ⟨f, q1, q2⟩ := (S.cls ci hm).bins nm F h2
  exact ⟨f, q1, q2.callR S.gu⟩
theorem binR_ok {X : Cx} {sc : Sc} (S : SX X W T sc) {nm : String} : ∀ c F, T.binR nm c = some F → ∃ f, OwnRBin X.K (W.cl c) f nm ∧ OwnFn X W 2 f F := fun c F h => by
  unfold Tab.binR at h
  simp only [Option.bind_eq_some_iff] at h
  obtain ⟨ci, h1, h2⟩ := h
  obtain ⟨hm, rfl⟩ := cid_mem h1
  obtain ⟨f, q1, q2⟩ := (S.cls ci hm).rbins nm F h2
  exact ⟨f, q1, q2.callR S.gu⟩
theorem unL_ok {X : Cx} {sc : Sc} (S : SX X W T sc) {nm : Str} : ∀ c F, T.unL nm c = some F → ∃ f, OwnUn X.K (W.cl c) f nm ∧ OwnAt X W 1 f F := fun c F h => by
  unfold Tab.unL at h
  simp only [Option.bind_eq_some_iff] at h
  obtain ⟨ci, h1, h2⟩ := h
  obtain ⟨hm, rfl⟩ := cid_mem h1
  exact (S.cls ci hm).uns nm F h2
theorem prop_ok {X : Cx} {sc : Sc} (S : SX X W T sc) {nm : Str} : ∀ c F, T.prop nm c = some F → Cls X.K (W.cl c) ∧ ∃ p g, PropOf X.K (W.cl c) nm p g ∧ OwnAt X W 1 g F := fun c F h => by
  unfold Tab.prop at h
  simp only [Option.bind_eq_some_iff] at h
  obtain ⟨ci, h1, h2⟩ := h
  obtain ⟨hm, rfl⟩ := cid_mem h1
  exact ⟨(S.cls ci hm).cls, (S.cls ci hm).props nm F h2⟩
theorem eqL_ok {X : Cx} {sc : Sc} (S : SX X W T sc) : ∀ c F, T.eqL c = some F → (∃ f, OwnEq X.K (W.cl c) f ∧ OwnAt X W 2 f F) ∧ ∀ T ∈ eqTys, PySem.W.notFirst X.K (W.cl c) (.type T) = true := fun c F h => by
  unfold Tab.eqL at h
  simp only [Option.bind_eq_some_iff] at h
  obtain ⟨ci, h1, h2⟩ := h
  obtain ⟨hm, rfl⟩ := cid_mem h1
  exact (S.cls ci hm).eq F h2
theorem binV_ok {X : Cx} {sc : Sc} (S : SX X W T sc) {op : Operator} {f : D → D → Option RV} {a b : Expr} {P P' : PF} {pos : Pos} (hf : binD op = some f) (ho : ownOp op = true) (ha : PD X W P a) (hb : PD X W P' b) : PD X W (pBinV (T.binL op.info.2) (T.binR op.info.2) f P P') (.BinOp a op b pos) := by
  obtain ⟨r, h1, h2⟩ := binD_ok (X := X) (W := W) hf
  have dc : ∃ id, IntDecl op id := by
    cases op <;> first | (cases ho; done) | exact ⟨_, declAdd⟩ | exact ⟨_, declSub⟩ | exact ⟨_, declMul⟩
  obtain ⟨id, dc⟩ := dc
  exact pd_binV (opr_ownL (binL_ok S)) (opr_ownR dc (binR_ok S)) h1 h2 ha hb
theorem cmpP_ok {X : Cx} {sc : Sc} (S : SX X W T sc) {op : CmpOp} {f : D → D → Option RV} {a b : Expr} {P P' : PF} {pos : Pos} (hf : cmpF op = some f) (ha : PD X W P a) (hb : PD X W P' b) (hs : notSet b = true) :
    PD X W (cmpP T op f P P') (.Compare a [op] [b] pos) ∧ PTD X W (bVal (cmpP T op f P P')) (.Compare a [op] [b] pos) := by
  obtain ⟨r, h1, h2⟩ := cmpF_ok S hf
  have hu := S.hu
  have e1 : OpR X (compareOp .Eq) (rOwnEq W W.K false T.eqL) := by
    rw [← S.K]
    exact opr_ownEq (by omega) fun c F h => by
      obtain ⟨⟨f, q1, q2⟩, _⟩ := eqL_ok S c F h
      exact ⟨f, q1, q2.callR S.gu⟩
  have e2 : OpR X (compareOp .NotEq) (rOwnEq W W.K true T.eqL) := by
    rw [← S.K]
    exact opr_ownNe S.gu (by omega) fun c F h => (eqL_ok S c F h).1
  have e3 : ∀ c F, T.eqL c = some F → ∀ T ∈ eqTys, PySem.W.notFirst W.K (W.cl c) (.type T) = true := by
    rw [← S.K]
    exact fun c F h => (eqL_ok S c F h).2
  unfold cmpP
  cases op with
  | Eq => exact ⟨pd_cmpV e1 h1 h2 e3 ha hb hs, ptd_cmpV e1 h1 h2 e3 ha hb hs⟩
  | NotEq => exact ⟨pd_cmpV e2 h1 h2 e3 ha hb hs, ptd_cmpV e2 h1 h2 e3 ha hb hs⟩
  | _ => exact ⟨pd_cmp h1 h2 ha hb hs, ptd_cmp h1 h2 ha hb hs⟩
theorem gcd_ok {X : Cx} {x : Str} {p pos : Pos} {e : Expr} {es : List Expr} {P : PAF} (hg : Gl X x) (hd : (x == ("__debug__" : Str)) = false) (hm : X.mg x = some (.builtin "math.gcd")) (ha : PAD X W P (e :: es)) (hs : (e :: es).all notStar = true) : PD X W (pCall gcdD P) (.Call (.Name x p) (e :: es) [] pos) := by
  have h2 := hs
  rw [List.all_cons, Bool.and_eq_true] at h2
  exact PE.weak (pe_callBfun cr_gcd hg hm ha hd (star_plain h2.1) (noStars h2.2)) fun _ _ _ h => call_tE callD_gcd h
theorem js_ok {X : Cx} {sc : Sc} (S : SX X W T sc) {n : Nat} (ih : ∀ e, PD X W (denE T sc n e) e) : ∀ es : List Expr, PJD X W es (es.map fun e => denE T sc n e)
  | [] => .nil
  | e :: es => .cons (ih e) (js_ok S ih es)
theorem ty_ok {X : Cx} {sc : Sc} (S : SX X W T sc) {x : Str} {pos : Pos} (hx : tys.contains x = true) (hg : Gl X x) (hm : X.mg x = none) (hn : x ≠ "__name__") (hd : (x == ("__debug__" : Str)) = false) : PD X W (pC (.typ (tyOfName x))) (.Name x pos) := by
  have go : ∀ (T : String), bootBuiltins x = some (.type T) → PD X W (pC (.typ T)) (.Name x pos) := fun T hb => pd_flat (pe_bltn (v := .ty T) hg hm hb rfl hn hd) fun _ => .typ T
  have hx' : x = "int" ∨ x = "str" ∨ x = "bool" ∨ x = "list" ∨ x = "tuple" ∨ x = "dict" := by
    simpa [tys] using hx
  rcases hx' with rfl | rfl | rfl | rfl | rfl | rfl
  · exact go "int" (by decide +kernel)
  · exact go "str" (by decide +kernel)
  · exact go "bool" (by decide +kernel)
  · exact go "list" (by decide +kernel)
  · exact go "tuple" (by decide +kernel)
  · exact go "dict" (by decide +kernel)
theorem denE_ok {n : Nat} (ih : DenOk T W n) (X : Cx) (sc : Sc) (S : SX X W T sc) (e : Expr) : PD X W (denE T sc (n + 1) e) e := by
  unfold denE
  split
  · exact pd_int
  · exact pd_bl
  · exact pd_non
  · exact pd_str
  · rename_i x pos
    split
    · rename_i i hi
      obtain ⟨h1, h2, h3, h4⟩ := S.slot hi
      exact pd_var (pe_var h1 h2 h3 h4)
    · split
      · rename_i hg
        obtain ⟨g1, g2, g3⟩ := S.gl hg
        split
        · rename_i d hd
          obtain ⟨u, v, h1, h2, h3⟩ := S.cons _ _ hd
          exact pd_flat (pe_glob g1 h1 h2 g2) h3
        · rename_i hd
          split
          · rename_i ci hci
            obtain ⟨hm, rfl⟩ := ci_mem hci
            exact pd_flat (pe_glob g1 (S.cls ci hm).mg (v := .ref (W.cl ci.c)) rfl g2) fun _ => .kls _
          · split
            · rename_i hc
              simp only [Bool.and_eq_true, Option.isNone_iff_eq_none] at hc
              exact ty_ok S hc.2 g1 (S.tyn _ hc.2 hc.1 hd) g3 g2
            · exact pd_nope
      · exact pd_nope
  · split
    · rename_i f hf
      split
      · rename_i ho
        exact binV_ok S hf ho (ih.e X sc S _) (ih.e X sc S _)
      · obtain ⟨r, h1, h2⟩ := binD_ok (X := X) (W := W) hf
        exact pd_bin h1 h2 (ih.e X sc S _) (ih.e X sc S _)
    · exact pd_nope
  · exact pd_not S.K (ih.e X sc S _)
  · obtain ⟨r, h1, h2⟩ := unI_ok (W := W) (X := X)
    exact pd_unV (unr_neg fun c F h => by
      obtain ⟨f, q1, q2⟩ := unL_ok S c F h
      exact ⟨f, q1, q2.callR S.gu⟩) h1 h2 (ih.e X sc S _)
  · exact ih.be X sc S _ _ _
  · exact pd_if (ih.t X sc S _) (ih.e X sc S _) (ih.e X sc S _)
  · split
    · rename_i f hf
      split
      · rename_i hn
        exact (cmpP_ok S hf (ih.e X sc S _) (ih.e X sc S _) hn).1
      · exact pd_nope
    · exact pd_nope
  · split
    · rename_i f f' hf hf'
      split
      · rename_i hn
        obtain ⟨r, h1, h2⟩ := cmpF_ok S hf
        obtain ⟨r', h1', h2'⟩ := cmpF_ok S hf'
        exact pd_chain h1 h2 h1' h2' (ih.e X sc S _) (ih.e X sc S _) (ih.e X sc S _) hn
      · exact pd_nope
    · exact pd_nope
  · split
    · rename_i hc
      simp only [Bool.and_eq_true] at hc
      exact pd_join S.K (ih.e X sc S _) (ih.e X sc S _) hc.1.1 hc.1.2 hc.2
    · exact pd_nope
  · split
    · rename_i hc
      simp only [Bool.and_eq_true, decide_eq_true_eq] at hc
      split
      · rename_i ci hci
        split
        · split
          · rename_i fi hfi
            exact cm_ok S hci hfi (ih.a X sc S _) hc.1.2 (by have := hc.2.1; simp only [List.length_cons, List.length_nil] at this ⊢; omega) hc.2.2
          · exact pd_nope
        · exact pd_nope
      · split
        · rename_i ks hks
          exact methS_ok S (ih.e X sc S _) (ih.a X sc S _) (ih.k X sc S _) hc.1.1 hc.1.2 hks hc.2.1 hc.2.2
        · exact pd_nope
    · exact pd_nope
  · exact pd_lst (ih.a X sc S _)
  · exact pd_dnew
  · exact pd_tup (ih.a X sc S _)
  · exact pd_slice S.K (ih.e X sc S _) (ih.o X sc S _) (ih.o X sc S _)
  · split
    · rename_i hn
      exact pd_ix S.K (ih.e X sc S _) (ih.e X sc S _) hn
    · exact pd_nope
  · exact pd_joined (js_ok S (ih.e X sc S) _)
  · exact pd_fmt (ih.e X sc S _)
  · rename_i x p es kws pos
    split
    · rename_i hs
      split
      · rename_i ks hks
        split
        · rename_i hg
          obtain ⟨g1, g2, g3⟩ := S.gl hg
          split
          · rename_i fi hf
            split
            · rename_i sh hsh
              exact fnS_ok S hf hsh g1 g2 (ih.a X sc S _) (ih.k X sc S _) hs hks
            · exact pd_nope
          · rename_i hf
            split
            · rename_i ci hci
              split
              · rename_i sh hsh
                obtain ⟨hm, hx⟩ := ci_mem hci
                exact mkS_ok S hm hx hsh g1 g2 (ih.a X sc S _) (ih.k X sc S _) hs hks
              · exact pd_nope
            · rename_i hci
              split
              · split
                · rename_i hgc
                  exact gcd_ok g1 g2 (S.gcd _ hgc hf hci) (ih.a X sc S _) hs
                · split
                  · rename_i hb
                    have hu := S.hu
                    have hx : x = "repr" := by
                      unfold bis at hb
                      simp only [List.lookup_cons] at hb
                      repeat' (split at hb)
                      all_goals first
                        | (rename_i q; simp only [beq_iff_eq] at q; cases hb; exact q)
                        | cases hb
                    subst hx
                    exact pd_reprV S.K S.gu (by omega) (unL_ok S) g1 (S.blt _ _ hb hf hci) (ih.a X sc S _) hs
                  · rename_i b _ hb
                    exact bis_ok S hb g1 (S.blt _ _ hb hf hci) g3 g2 (ih.a X sc S _) hs
                  · exact pd_nope
              · exact pd_nope
        · split
          · rename_i i hi
            exact mkL_ok S hi (ih.a X sc S _) (ih.k X sc S _) hs hks
          · exact pd_nope
      · exact pd_nope
    · exact pd_nope
  · split
    · rename_i hg
      obtain ⟨g1, g2, g3⟩ := S.gl hg
      split
      · rename_i ci hci
        split
        · rename_i d hd
          exact cval_ok S hci hd g1 g2
        · exact pd_nope
      · exact pd_nope
    · exact pd_attrV S.gu S.K (okF_ok S) (prop_ok S) (ih.e X sc S _) rfl
  · split
    · rename_i hb
      exact pd_attrV S.gu S.K (okF_ok S) (prop_ok S) (ih.e X sc S _) hb
    · exact pd_nope
  · rename_i elt tg iter scope pos
    split
    · rename_i hb
      by_cases hn : notSet iter = true
      · exact lc_ok S hb hn (ih.i X sc S _ _) (fun _ _ _ _ _ => pts_yes) fun s H C cl fp => ih.e _ _ (S.blk hb s H C cl fp) _
      · exact lc_set (by simpa using hn) fun env r h => denI_set h
    · exact pd_nope
  · rename_i elt tg iter c scope pos
    split
    · rename_i hb
      by_cases hn : notSet iter = true
      · exact lc_ok S hb hn (ih.i X sc S _ _) (fun s H C cl fp => pts_one (ih.t _ _ (S.blk hb s H C cl fp) _)) fun s H C cl fp => ih.e _ _ (S.blk hb s H C cl fp) _
      · exact lc_set (by simpa using hn) fun env r h => denI_set h
    · exact pd_nope
  · rename_i elt tg iter ifs tg1 iter1 ifs1 scope pos
    split
    · rename_i hc
      simp only [Bool.and_eq_true] at hc
      obtain ⟨hb, hn, hn1⟩ := hc
      refine PE.weak (pe_lc2 S.calm (by rw [S.N]; exact S.nd) (ih.i X sc S tg iter) (S.blkOk hb) (vs1 := inSlots (sc.blk scope) ((ownOf sc.N scope).map (fun p : Str × Nat => p.2)) tg1) (fun i hi => ?_) (fun s H C cl fp => denGc_ok (S.blk hb s H C cl fp) tg) (fun s H C cl fp => ih.c _ _ (S.blk hb s H C cl fp) ifs)
        (fun s H C cl fp => ih.i _ _ (S.blk hb s H C cl fp) tg1 iter1) (fun s H C cl fp => denGc_ok (S.blk hb s H C cl fp) tg1) (fun s H C cl fp => ih.c _ _ (S.blk hb s H C cl fp) ifs1) (fun s H C cl fp => ih.e _ _ (S.blk hb s H C cl fp) elt) (foldSet hn) (fun env => foldSet hn1)) fun σ H Q h => lc2_tE h
      unfold inSlots at hi
      have := (List.mem_filter.mp hi).2
      simpa using this
    · exact pd_nope
  · exact pd_nope
theorem denOk_succ {n : Nat} (ih : DenOk T W n) : DenOk T W (n + 1) := by
  refine ⟨denE_ok ih, fun X sc S op vs pos => ?_, fun X sc S e => ?_, fun X sc S op vs pos => ?_, fun X sc S ifs => ?_, fun X sc S e => ?_, fun X sc S es => ?_, fun X sc S kws => ?_, fun X sc S tg e => ?_⟩
  · unfold denBE
    split
    · exact pd_one (ih.e X sc S _)
    · exact pd_and S.K (ih.e X sc S _) (ih.be X sc S _ _ _)
    · exact pd_or S.K (ih.e X sc S _) (ih.be X sc S _ _ _)
    · exact pd_nope
  · unfold denT
    split
    · exact ptd_not (ih.t X sc S _)
    · exact (ih.bt X sc S _ _ _).pt
    · split
      · rename_i f hf
        split
        · rename_i hn
          exact (cmpP_ok S hf (ih.e X sc S _) (ih.e X sc S _) hn).2
        · exact ptd_nope
      · exact ptd_nope
    · split
      · rename_i f f' hf hf'
        split
        · rename_i hn
          obtain ⟨r, h1, h2⟩ := cmpF_ok S hf
          obtain ⟨r', h1', h2'⟩ := cmpF_ok S hf'
          exact ptd_chain h1 h2 h1' h2' (ih.e X sc S _) (ih.e X sc S _) (ih.e X sc S _) hn
        · exact ptd_nope
      · exact ptd_nope
    · exact ptd_truth S.K (ih.e X sc S _) fun _ => rfl
    · exact ptd_truth S.K (ih.e X sc S _) fun _ => rfl
    · exact ptd_truth S.K (ih.e X sc S _) fun _ => rfl
    · exact ptd_truth S.K (ih.e X sc S _) fun _ => rfl
    · exact ptd_truth S.K (ih.e X sc S _) fun _ => rfl
    · exact ptd_nope
  · unfold denBT
    split
    · cases op with
      | And => exact pwd_and1 (ih.t X sc S _)
      | Or => exact pwd_or1 (ih.t X sc S _)
    · exact pwd_and (ih.t X sc S _) (ih.bt X sc S _ _ _)
    · exact pwd_or (ih.t X sc S _) (ih.bt X sc S _ _ _)
    · exact pwd_nope
  · unfold denC
    split
    · exact pts_yes
    · exact pts_one (ih.t X sc S _)
    · exact pts_nope
  · unfold denO
    split
    · exact pod_none
    · exact pod_some (ih.e X sc S _)
  · unfold denA
    split
    · exact pad_nil
    · split
      · rename_i hs
        exact pad_cons (ih.e X sc S _) (ih.a X sc S _) (star_plain hs)
      · exact pad_nope
  · unfold denA
    cases kws with
    | nil => exact pkd_nil
    | cons k r =>
      obtain ⟨nm, e, kp⟩ := k
      show PKD X W (if notStar e = true then aCons (denE T sc n e) (denA T sc n (r.map (·.value))) else nope) _
      split
      · exact pkd_cons (ih.e X sc S _) (ih.k X sc S _)
      · exact pkd_nope
  · have rn : ∀ x : Str, (x == ("range" : Str)) = true → (T.fn x).isNone = true → x = "range" ∧ X.mg "range" = none := fun x h1 h2 => by
      simp only [beq_iff_eq] at h1
      subst h1
      exact ⟨rfl, S.rng (by simpa using h2)⟩
    have en : ∀ x : Str, (x == ("enumerate" : Str)) = true → (T.fn x).isNone = true → x = "enumerate" ∧ X.mg "enumerate" = none := fun x h1 h2 => by
      simp only [beq_iff_eq] at h1
      subst h1
      exact ⟨rfl, S.enm (by simpa using h2)⟩
    have zn : ∀ x : Str, (x == ("zip" : Str)) = true → (T.fn x).isNone = true → x = "zip" ∧ X.mg "zip" = none := fun x h1 h2 => by
      simp only [beq_iff_eq] at h1
      subst h1
      exact ⟨rfl, S.zip (by simpa using h2)⟩
    unfold denI
    split
    · split
      · rename_i hx
        split
        · rename_i hc
          simp only [Bool.and_eq_true] at hc
          obtain ⟨rfl, hm⟩ := rn _ hx hc.1.2
          exact pid_range1 (S.gl hc.1.1).1 hm (ih.a X sc S _) hc.2
        · exact pid_nope
      · split
        · rename_i hx
          split
          · split
            · rename_i hc
              simp only [Bool.and_eq_true] at hc
              obtain ⟨rfl, hm⟩ := en _ hx hc.1.2
              exact pid_enum S.K (S.gl hc.1.1).1 hm (ih.a X sc S _) hc.2
            · exact pid_nope
          · exact pid_nope
        · exact pid_walk S.K (ih.e X sc S _)
    · split
      · rename_i hx
        split
        · rename_i hc
          simp only [Bool.and_eq_true] at hc
          obtain ⟨rfl, hm⟩ := rn _ hx hc.1.2
          exact pid_range2 (S.gl hc.1.1).1 hm (ih.a X sc S _) hc.2.1 hc.2.2
        · exact pid_nope
      · split
        · rename_i hx
          split
          · split
            · rename_i hc
              simp only [Bool.and_eq_true] at hc
              obtain ⟨rfl, hm⟩ := zn _ hx hc.1.2
              exact pid_zip S.K (S.gl hc.1.1).1 hm (ih.a X sc S _) hc.2.1 hc.2.2
            · exact pid_nope
          · exact pid_nope
        · exact pid_walk S.K (ih.e X sc S _)
    · exact pid_nope
    · exact pid_walk S.K (ih.e X sc S _)
theorem denOk : ∀ n, DenOk T W n
  | 0 => denOk_zero
  | n + 1 => denOk_succ (denOk n)
end
end Den
end

section
set_option Elab.async false
set_option linter.all false
set_option maxRecDepth 100000
set_option maxHeartbeats 4000000
/-! DenO2: a, b = x, y and a, b, c = x, y, z. -/
namespace Den
open PySem L2
section
variable {W : Pw} {T : Tab} {X : Cx} {sc : Sc} {E : Entry}
def sPar2 (np i j : Nat) (P : PAF) : SF := fun env => do
  let (rvs, e1) ← P env
  if ownB np env e1 then
    match dts rvs with
    | some [d1, d2] => if !pinned np e1 i && !pinned np (e1.set i (.dat d1)) j then some (.nx ((e1.set i (.dat d1)).set j (.dat d2))) else none
    | _ => none
  else none
theorem par2_tS {i j : Nat} {P : PAF} {D : Ends} {σ : St} {H : Hp} (h : tS W E (sPar2 E.np i j P) D σ H) : tPar i j (tA W P) D σ H := by
  obtain ⟨env, G, o, r0, p, k⟩ := h
  have r := r0.rel
  unfold sPar2 at p
  simp only [Option.bind_eq_bind, Option.bind_eq_some_iff, Prod.exists] at p
  obtain ⟨rvs, e1, h1, p⟩ := p
  split at p
  · rename_i hb
    split at p
    · rename_i d1 d2 hd
      split at p
      · rename_i hp
        simp only [Bool.and_eq_true, Bool.not_eq_true'] at hp
        cases p
        refine ⟨env, G, rvs, e1, r, h1, fun vs H1 G1 s q => ?_⟩
        obtain ⟨G2, s2, rp⟩ := Step.frozen r s q hd
        cases rp with
        | cons q1 t => cases t with
          | cons q2 t =>
            cases t
            have a1 := StepS.setDat (np := E.np) s2.rel q1 hp.1
            exact ⟨_, _, rfl, k _ _ _ (r0.trans ((s2.toS (ownB_ok hb)).trans (a1.trans (StepS.setDat a1.rel q2 hp.2)))) s2.ext.same⟩
      · cases p
    · cases p
  · cases p
def sPar3 (np i j l : Nat) (P : PAF) : SF := fun env => do
  let (rvs, e1) ← P env
  if ownB np env e1 then
    match dts rvs with
    | some [d1, d2, d3] => if !pinned np e1 i && (!pinned np (e1.set i (.dat d1)) j && !pinned np ((e1.set i (.dat d1)).set j (.dat d2)) l) then some (.nx (((e1.set i (.dat d1)).set j (.dat d2)).set l (.dat d3))) else none
    | _ => none
  else none
theorem par3_tS {i j l : Nat} {P : PAF} {D : Ends} {σ : St} {H : Hp} (h : tS W E (sPar3 E.np i j l P) D σ H) : tPar3 i j l (tA W P) D σ H := by
  obtain ⟨env, G, o, r0, p, k⟩ := h
  have r := r0.rel
  unfold sPar3 at p
  simp only [Option.bind_eq_bind, Option.bind_eq_some_iff, Prod.exists] at p
  obtain ⟨rvs, e1, h1, p⟩ := p
  split at p
  · rename_i hb
    split at p
    · rename_i d1 d2 d3 hd
      split at p
      · rename_i hp
        simp only [Bool.and_eq_true, Bool.not_eq_true'] at hp
        cases p
        refine ⟨env, G, rvs, e1, r, h1, fun vs H1 G1 s q => ?_⟩
        obtain ⟨G2, s2, rp⟩ := Step.frozen r s q hd
        cases rp with
        | cons q1 t => cases t with
          | cons q2 t => cases t with
            | cons q3 t =>
              cases t
              have a1 := StepS.setDat (np := E.np) s2.rel q1 hp.1
              have a2 := StepS.setDat (np := E.np) a1.rel q2 hp.2.1
              exact ⟨_, _, _, rfl, k _ _ _ (r0.trans ((s2.toS (ownB_ok hb)).trans (a1.trans (a2.trans (StepS.setDat a2.rel q3 hp.2.2))))) s2.ext.same⟩
      · cases p
    · cases p
  · cases p
/-- the stores that Python swaps: plain local names of one row, values not all constants -/
def parB (sc : Sc) (xs : List (Str × Pos)) (vs : List Expr) : Bool :=
  xs.all (fun x => sc.names.lookup x.1 == some .local && x.2.line == ((xs.head?.map (·.2.line)).getD 0)) && ((xs.map (·.1)).eraseDups.length == xs.length && (vs.all notStar && (!vs.all (foldedForSure 8) && !vs.all (constantsAlone 8))))
theorem blk_fn {env : Env} (h : env.scope.kind = .function) : env.blockKind = .function := by unfold Env.blockKind; rw [h]; rfl
theorem swapped2 {x y : Str} {px py pt p2 : Pos} {kt k2 : Nat} {a b : Expr} (S : SX X W T sc) (hk : X.env.scope.kind = .function) (h : parB sc [(x, px), (y, py)] [a, b] = true) :
    swappedStores [.Tuple [.Name x px, .Name y py] kt pt] (.Tuple [a, b] k2 p2) X.env = pure (some [x, y]) := by
  unfold parB at h
  simp only [Bool.and_eq_true, List.all_cons, List.all_nil, Bool.and_true, beq_iff_eq, Bool.not_eq_true'] at h
  obtain ⟨⟨⟨h1, h2⟩, h3, h4⟩, h5, ⟨h6, h7⟩, h8, h9⟩ := h
  have lc : ∀ z : Str, sc.names.lookup z = some .local → X.env.kindOf z = some .local := fun z hz => by
    rcases S.vis _ _ hz with v | ⟨v, _⟩
    · exact v
    · cases v
  have l4 : py.line = px.line := h4
  have e5 : ([x, y] : List Str).eraseDups.length = 2 := h5
  unfold swappedStores
  simp only [blk_fn hk, List.any_cons, List.any_nil, List.filterMap_cons, List.filterMap_nil, lc x h1, lc y h3, l4, List.head?_cons, Option.map_some, Option.getD_some, Expr.pos, beq_self_eq_true, Bool.and_self, if_true, List.length_cons, List.length_nil, e5, List.all_cons, List.all_nil, Bool.and_true, h8, h9, Bool.or_false]
  rw [if_neg (by decide), if_neg]
  · rfl
  · simp only [Bool.or_eq_true, not_or]
    exact ⟨by cases a <;> first | (cases h6; done) | simp, by cases b <;> first | (cases h7; done) | simp⟩
theorem swapped3 {x y z : Str} {px py pz pt p2 : Pos} {kt k2 : Nat} {a b c : Expr} (S : SX X W T sc) (hk : X.env.scope.kind = .function) (h : parB sc [(x, px), (y, py), (z, pz)] [a, b, c] = true) :
    swappedStores [.Tuple [.Name x px, .Name y py, .Name z pz] kt pt] (.Tuple [a, b, c] k2 p2) X.env = pure (some [x, y, z]) := by
  unfold parB at h
  simp only [Bool.and_eq_true, List.all_cons, List.all_nil, Bool.and_true, beq_iff_eq, Bool.not_eq_true'] at h
  obtain ⟨⟨⟨h1, h2⟩, ⟨h3, h4⟩, h3', h4'⟩, h5, ⟨h6, h7, h7'⟩, h8, h9⟩ := h
  have lc : ∀ z : Str, sc.names.lookup z = some .local → X.env.kindOf z = some .local := fun z hz => by
    rcases S.vis _ _ hz with v | ⟨v, _⟩
    · exact v
    · cases v
  have l4 : py.line = px.line := h4
  have l5 : pz.line = px.line := h4'
  have e5 : ([x, y, z] : List Str).eraseDups.length = 3 := h5
  unfold swappedStores
  simp only [blk_fn hk, List.any_cons, List.any_nil, List.filterMap_cons, List.filterMap_nil, lc x h1, lc y h3, lc z h3', l4, l5, List.head?_cons, Option.map_some, Option.getD_some, Expr.pos, beq_self_eq_true, Bool.and_self, if_true, List.length_cons, List.length_nil, e5, List.all_cons, List.all_nil, Bool.and_true, h8, h9, Bool.or_false]
  rw [if_neg (by decide), if_neg]
  · rfl
  · simp only [Bool.or_eq_true, not_or]
    exact ⟨by cases a <;> first | (cases h6; done) | simp, by cases b <;> first | (cases h7; done) | simp, by cases c <;> first | (cases h7'; done) | simp⟩
theorem psd_par2 (S : SX X W T sc) {x y : Str} {i j : Nat} {px py pt p2 pos : Pos} {kt k2 : Nat} {a b : Expr} {P : PAF} (h : parB sc [(x, px), (y, py)] [a, b] = true) (hi : sc.slot x = some i) (hj : sc.slot y = some j) (hij : i ≠ j) (ha : PAD X W P [a, b]) :
    PSD X W E (sPar2 E.np i j P) (.Assign [.Tuple [.Name x px, .Name y py] kt pt] (.Tuple [a, b] k2 p2) pos) := by
  have h0 := h
  unfold parB at h0
  simp only [Bool.and_eq_true, List.all_cons, List.all_nil, Bool.and_true, beq_iff_eq] at h0
  have lc : ∀ z : Str, sc.names.lookup z = some .local → X.env.scope.names.lookup z = some .local := fun z hz => by
    rcases S.vis _ _ hz with v | ⟨v, _⟩
    · exact v
    · cases v
  refine PS.weak ⟨fun pins s σ H D I q => ?_⟩ fun _ _ _ q => par2_tS q
  exact (ps_par S.calm (by rw [S.N]; exact S.nd) (S.slot hi).1 (S.slot hj).1 hij (lc x h0.1.1.1) (lc y h0.1.2.1) ha (swapped2 S I.ok.kind h) rfl).run pins s σ H D I q
theorem psd_par3 (S : SX X W T sc) {x y z : Str} {i j l : Nat} {px py pz pt p2 pos : Pos} {kt k2 : Nat} {a b c : Expr} {P : PAF} (h : parB sc [(x, px), (y, py), (z, pz)] [a, b, c] = true) (hi : sc.slot x = some i) (hj : sc.slot y = some j) (hl : sc.slot z = some l) (hij : i ≠ j) (hil : i ≠ l) (hjl : j ≠ l) (ha : PAD X W P [a, b, c]) :
    PSD X W E (sPar3 E.np i j l P) (.Assign [.Tuple [.Name x px, .Name y py, .Name z pz] kt pt] (.Tuple [a, b, c] k2 p2) pos) := by
  have h0 := h
  unfold parB at h0
  simp only [Bool.and_eq_true, List.all_cons, List.all_nil, Bool.and_true, beq_iff_eq] at h0
  have lc : ∀ z : Str, sc.names.lookup z = some .local → X.env.scope.names.lookup z = some .local := fun z hz => by
    rcases S.vis _ _ hz with v | ⟨v, _⟩
    · exact v
    · cases v
  refine PS.weak ⟨fun pins s σ H D I q => ?_⟩ fun _ _ _ q => par3_tS q
  exact (ps_par3 S.calm (by rw [S.N]; exact S.nd) (S.slot hi).1 (S.slot hj).1 (S.slot hl).1 hij hil hjl (lc x h0.1.1.1) (lc y h0.1.2.1.1) (lc z h0.1.2.2.1) ha (swapped3 S I.ok.kind h) rfl).run pins s σ H D I q
end
end Den
end

section
set_option Elab.async false
set_option linter.all false
set_option maxRecDepth 100000
set_option maxHeartbeats 8000000
/-! DenP: statements, and the def whole. -/
namespace Den
open PySem L2

/-- methods that change a list of one's own -/
inductive Mt where
  | append | extend | clear | reverse
  deriving DecidableEq
def Mt.f : Mt → D → List D → Option (D × D)
  | .append => appendD
  | .extend => extendD
  | .clear => clearD
  | .reverse => reverseD
/-- name.m(..) as a statement -/
def denM (T : Tab) (sc : Sc) (n : Nat) (x m : Str) (args : List Expr) (al cl : Nat) : PF := match sc.slot x with
  | none => nope
  | some i => if al == cl then (match args with
    | [] => if m == ("clear" : Str) then pMut0 i clearD else if m == ("reverse" : Str) then pMut0 i reverseD else nope
    | [a] => if notStar a then (if m == ("append" : Str) then pMut i appendD (denA T sc n [a]) else if m == ("extend" : Str) then pMut i extendD (denA T sc n [a]) else nope) else nope
    | _ => nope) else nope
def locB (sc : Sc) (x : Str) : Bool := sc.names.lookup x == some .local || sc.names.lookup x == some .cell
/-- one target -/
def denG1 (T : Tab) (sc : Sc) (n : Nat) : Expr → GF
  | .Name x _ => match sc.slot x with
    | some i => if locB sc x then gSet sc.np i else fun _ _ => none
    | none => fun _ _ => none
  | .Subscript (.Name x _) e _ => match sc.slot x with
    | some i => if notSlice e then gIx2 i (denE T sc n e) else fun _ _ => none
    | none => fun _ _ => none
  | _ => fun _ _ => none
def denGs (T : Tab) (sc : Sc) (n : Nat) : List Expr → List D → Env' → Option Env'
  | [] => gsNil
  | e :: es => if notStar e then gsCons (denG1 T sc n e) (denGs T sc n es) else fun _ _ => none
def denG (T : Tab) (sc : Sc) (n : Nat) : Expr → GF
  | .Tuple es _ _ => if es.all notStar then gTupF es.length (denGs T sc n es) else fun _ _ => none
  | e => denG1 T sc n e
/-- a comprehension that is stored into a name -/
def lcB (sc : Sc) (x : Str) (px : Pos) : Expr → Bool
  | .ListComp _ [⟨_, iter, _, _⟩] scope cp => sc.names.lookup x == some .local && px.line == cp.line && !(scope.names.any fun (n, k) => n == x && (k == .local || k == .cell)) && notSet iter
  | _ => false
def isTup : Expr → Bool
  | .Tuple .. => true
  | _ => false
mutual
def denS (T : Tab) (sc : Sc) : Nat → Stmt → SF
  | 0, _ => nope
  | n + 1, st => match st with
    | .Assign [.Name x px] e pos => (match sc.slot x with
      | some i => if locB sc x then (if isComp e then (if lcB sc x px e then sSet sc.np i (sc.mu.contains i) (denE T sc n e) else nope) else sSet sc.np i (sc.mu.contains i) (denE T sc n e)) else nope
      | none => nope)
    | .Assign [.Tuple [.Name x px, .Name y py] _ _] (.Tuple [a, b] _ _) _ => (match sc.slot x, sc.slot y with
      | some i, some j => if parB sc [(x, px), (y, py)] [a, b] && decide (i ≠ j) then sPar2 sc.np i j (denA T sc n [a, b]) else nope
      | _, _ => nope)
    | .Assign [.Tuple [.Name x px, .Name y py, .Name z pz] _ _] (.Tuple [a, b, c] _ _) _ => (match sc.slot x, sc.slot y, sc.slot z with
      | some i, some j, some l => if parB sc [(x, px), (y, py), (z, pz)] [a, b, c] && (decide (i ≠ j) && (decide (i ≠ l) && decide (j ≠ l))) then sPar3 sc.np i j l (denA T sc n [a, b, c]) else nope
      | _, _, _ => nope)
    | .Assign [.Tuple ts k tp] e pos => if isComp e || isTup e then nope else sAsg sc.np (denE T sc n e) (denG T sc n (.Tuple ts k tp))
    | .Assign [.Subscript a b sp] e pos => if isComp e then nope else sAsg sc.np (denE T sc n e) (denG T sc n (.Subscript a b sp))
    | .Assign [.Attribute (.Name x xp) f ap] e pos => (match sc.slot x with
      | some i => if isComp e then nope else sFldF sc.np i T.okF f (denE T sc n e)
      | none => nope)
    | .Expr (.Call (.Attribute (.Name x _) m ap) args [] cp) _ => sExp sc.np (denM T sc n x m args ap.endLine cp.line)
    | .Expr e _ => if isComp e then nope else sExp sc.np (denE T sc n e)
    | .If c a b _ => sIf (denT T sc n c) sc.np (denSs T sc n a) (denSs T sc n b)
    | .For tg iter body [] _ => if notSet iter then sFor sc.np (denI T sc n tg iter) (denG T sc n tg) (denSs T sc n body) else nope
    | .While c body [] _ => sWhile sc.np (denT T sc n c) (denSs T sc n body) 4096
    | .Return (some e) _ => sRet sc.np (denE T sc n e)
    | .Return none _ => fun env => some (.rt (.dat .non) env)
    | .Pass _ => fun env => some (.nx env)
    | .Break _ => fun env => some (.bk env)
    | .Continue _ => fun env => some (.ct env)
    | _ => nope
def denSs (T : Tab) (sc : Sc) : Nat → List Stmt → SF
  | 0, _ => nope
  | n + 1, sts => match sts with
    | [] => sNil
    | st :: r => sSeq (denS T sc n st) (denSs T sc n r)
end

/-- a def's rows: ahead of each the lists that are let go of -/
def denTop (T : Tab) (sc : Sc) (n : Nat) : List (List Nat) → List Stmt → SF
  | _, [] => sNil
  | [], st :: r => sSeq (denS T sc n st) (denTop T sc n [] r)
  | is :: fz, st :: r => sFz sc.np is (sSeq (denS T sc n st) (denTop T sc n fz r))
section
variable {W : Pw} {T : Tab} {X : Cx} {sc : Sc} {E : Entry}
theorem psd_nope {st : Stmt} : PSD X W E nope st := ⟨fun pins s σ H D I ⟨env, G, o, _, p, _⟩ => by cases p⟩
theorem pssd_nope {st : List Stmt} : PSsD X W E nope st := ⟨fun pins s σ H D I ⟨env, G, o, _, p, _⟩ => by cases p⟩
theorem gt_nope {np : Nat} {e : Expr} : PGD X W np (fun _ _ => none) e := ⟨fun pins s σ H v u Q I r ⟨env, G, d, env', _, _, p, _⟩ => by cases p⟩
theorem loc_ok (S : SX X W T sc) {x : Str} (h : locB sc x = true) : Loc X.env.scope x ∧ (X.fn x = true ∨ X.env.scope.names.lookup x = some .local) := by
  unfold locB at h
  simp only [Bool.or_eq_true, beq_iff_eq] at h
  rcases h with h | h
  · rcases S.vis _ _ h with v | ⟨v, _⟩
    · exact ⟨.inl v, .inr v⟩
    · cases v
  · rcases S.vis _ _ h with v | ⟨v, _⟩
    · exact ⟨.inr v, .inl (S.fn _ h)⟩
    · cases v
theorem sub_plain {o i : Expr} {pos : Pos} {env : Env} (h : notSlice i = true) (v : Value) : assign (.Subscript o i pos) env v = (do
      let ov ← holding [v] (eval o env)
      let iv ← holding [v, ov] (eval i env)
      standAt pos
      holding [v, ov, iv] (setItem ov iv v)
      release [v, ov, iv] []) := by
  cases i <;> first | (cases h; done) | rfl
theorem denG1_ok (S : SX X W T sc) {n : Nat} : ∀ e, PGD X W sc.np (denG1 T sc n e) e := by
  intro e
  unfold denG1
  split
  · split
    · rename_i i hi
      split
      · rename_i hl
        obtain ⟨h1, _⟩ := S.slot hi
        obtain ⟨l1, l2⟩ := loc_ok S hl
        exact pgd_name (pg_name (by rw [S.N]; exact S.nd) h1 l1 l2)
      · exact gt_nope
    · exact gt_nope
  · split
    · rename_i i hi
      obtain ⟨h1, h2, h3, h4⟩ := S.slot hi
      split
      · rename_i hs
        refine PG.weak (pg_sub (pe_var h1 h2 h3 h4) ((denOk (T := T) (W := W) n).e X sc S _) (PSet.or set_list (set_dict (by have := S.hu; omega))) (sub_plain hs)) fun v σ H Q h => ix2_tG h
      · exact gt_nope
    · exact gt_nope
  · exact gt_nope
theorem gtup_ok (S : SX X W T sc) {np : Nat} {es : List Expr} {k n : Nat} {pos : Pos} {P : List D → Env' → Option Env'} (hp : PG X (.Tuple es k pos) (gTup X.K n (tGs W np P))) : PGD X W np (gTupF n P) (.Tuple es k pos) := PG.weak hp fun v σ H Q ⟨env, G, d, env', r, q, p, kk⟩ => by
  unfold gTupF at p
  split at p
  · split at p
    · rename_i hn
      cases q with
      | tup ha ra => exact ⟨_, _, rfl, SqT.of (r.sub _ _ ha), by rw [ra.length]; exact hn, env, G, _, env', r, ra, p, kk⟩
    · cases p
  · cases p
theorem asg_plain {e : Expr} {es : List Expr} {env : Env} (h : notStar e = true) : assignEach (e :: es) env = (false, assign e env) :: assignEach es env := by
  cases e <;> first | rfl | cases h
theorem gts_nope {np : Nat} {es : List Expr} : PGsD X W np (fun _ _ => none) es := ⟨fun pins s σ H v u Q I r ⟨env, G, d, env', _, _, p, _⟩ => by cases p⟩
theorem denGs_ok (S : SX X W T sc) {n : Nat} : ∀ es, PGsD X W sc.np (denGs T sc n es) es
  | [] => pgsd_nil
  | e :: es => by
    unfold denGs
    split
    · rename_i hs
      exact pgsd_cons (g := tG W sc.np (denG1 T sc n e)) (gs := tGs W sc.np (denGs T sc n es)) (pgs_cons (denG1_ok S e) (denGs_ok S es) (by rw [asg_plain hs]; rfl))
    · exact gts_nope
theorem stars_no {env : Env} : ∀ {es : List Expr}, es.all notStar = true → (assignEach es env).any (·.1) = false
  | [], _ => rfl
  | e :: es, h => by
    rw [List.all_cons, Bool.and_eq_true] at h
    rw [asg_plain h.1, List.any_cons, stars_no h.2]
    rfl
theorem stars_all {env : Env} : ∀ {es : List Expr}, es.all notStar = true → (assignEach es env).length = es.length
  | [], _ => rfl
  | e :: es, h => by
    rw [List.all_cons, Bool.and_eq_true] at h
    rw [asg_plain h.1, List.length_cons, List.length_cons, stars_all h.2]
theorem denG_ok (S : SX X W T sc) {n : Nat} : ∀ e, PGD X W sc.np (denG T sc n e) e := by
  intro e
  unfold denG
  split
  · rename_i es k pos
    split
    · rename_i hs
      refine gtup_ok S (pg_tup S.calm (denGs_ok S es) (stars_all hs) ?_)
      rw [List.findIdx?_eq_none_iff]
      intro x hx
      have := stars_no (env := X.env) hs
      rw [List.any_eq_false] at this
      simpa using this x hx
    · exact gt_nope
  · exact denG1_ok S e
theorem swaps_no {e : Expr} {t : Option Expr} {l : Nat} {env : Env} (h : isComp e = false) : swapsWith e t l env = pure false := by
  cases e <;> first | rfl | cases h
theorem mut_ok (S : SX X W T sc) {n : Nat} {x m : Str} {args : List Expr} {ap xp cp : Pos} : PD X W (denM T sc n x m args ap.endLine cp.line) (.Call (.Attribute (.Name x xp) m ap) args [] cp) := by
  unfold denM
  split
  · exact pd_nope
  · rename_i i hi
    obtain ⟨h1, h2, h3, h4⟩ := S.slot hi
    have hv := pe_var (pos := xp) h1 h2 h3 h4
    split
    · rename_i hl
      split
      · split
        · rename_i hm
          simp only [beq_iff_eq] at hm
          subst hm
          exact PE.weak (pe_bm0 PySem.F.plainAttrs_list PySem.F.slot_list_clear PySem.F.type_list_clear mt_clear hv rfl hl) fun σ H Q h => mut0_tE mutd_clear h S.K
        · split
          · rename_i hm
            simp only [beq_iff_eq] at hm
            subst hm
            exact PE.weak (pe_bm0 PySem.F.plainAttrs_list PySem.F.slot_list_reverse PySem.F.type_list_reverse mt_reverse hv rfl hl) fun σ H Q h => mut0_tE mutd_reverse h S.K
          · exact pd_nope
      · rename_i a
        split
        · rename_i hs
          have hss : [a].all notStar = true := by simp [hs]
          have ha := (denOk (T := T) (W := W) n).a X sc S [a]
          split
          · rename_i hm
            simp only [beq_iff_eq] at hm
            subst hm
            exact PE.weak (pe_bm PySem.F.plainAttrs_list PySem.F.slot_list_append PySem.F.type_list_append mt_append hv ha rfl (bm_few hss (by simp)) hl (star_plain hs) rfl) fun σ H Q h => mut_tE mutd_append h S.K
          · split
            · rename_i hm
              simp only [beq_iff_eq] at hm
              subst hm
              exact PE.weak (pe_bm PySem.F.plainAttrs_list PySem.F.slot_list_extend PySem.F.type_list_extend mt_extend hv ha rfl (bm_few hss (by simp)) hl (star_plain hs) rfl) fun σ H Q h => mut_tE mutd_extend h S.K
            · exact pd_nope
        · exact pd_nope
      · exact pd_nope
    · exact pd_nope
theorem psd_exp {e : Expr} {P : PF} {pos : Pos} (h : PD X W P e) (hc : isComp e = false) : PSD X W E (sExp E.np P) (.Expr e pos) := PS.weak (ps_expr h (swaps_no hc)) fun _ _ _ q => exp_tS q
theorem psd_set (S : SX X W T sc) {x : Str} {i : Nat} {e : Expr} {mu : Bool} {P : PF} {px pos : Pos} (h : PD X W P e) (hi : sc.slot x = some i) (hl : locB sc x = true) (hc : isComp e = false) : PSD X W E (sSet E.np i mu P) (.Assign [.Name x px] e pos) := by
  obtain ⟨h1, _⟩ := S.slot hi
  obtain ⟨l1, l2⟩ := loc_ok S hl
  exact PS.weak (ps_set (by rw [S.N]; exact S.nd) h1 l1 h (swaps_no hc) l2) fun _ _ _ q => set_tS q
end
end Den
end

section
set_option Elab.async false
set_option linter.all false
set_option maxRecDepth 100000
set_option maxHeartbeats 8000000
/-! DenQ: statements are sound. -/
namespace Den
open PySem L2
section
variable {W : Pw} {T : Tab} {X : Cx} {sc : Sc} {E : Entry}
theorem psd_rtn {pos : Pos} : PSD X W E (fun env => some (.rt (.dat .non) env)) (.Return none pos) := PS.weak ps_retN fun D σ H ⟨env, G, o, r, p, k⟩ => by
  cases p
  exact k _ _ _ _ r (Same.refl _) .non
theorem psd_pass {pos : Pos} : PSD X W E (fun env => some (.nx env)) (.Pass pos) := PS.weak ps_pass fun D σ H ⟨env, G, o, r, p, k⟩ => by
  cases p
  exact k _ _ _ r (Same.refl _)
theorem psd_break {pos : Pos} : PSD X W E (fun env => some (.bk env)) (.Break pos) := PS.weak ps_break fun D σ H ⟨env, G, o, r, p, k⟩ => by
  cases p
  exact k _ _ _ r (Same.refl _)
theorem psd_cont {pos : Pos} : PSD X W E (fun env => some (.ct env)) (.Continue pos) := PS.weak ps_continue fun D σ H ⟨env, G, o, r, p, k⟩ => by
  cases p
  exact k _ _ _ r (Same.refl _)
theorem psd_setLc (S : SX X W T sc) {x : Str} {i : Nat} {elt tg iter : Expr} {ifs : List Expr} {scope : Scope} {px pos cp : Pos} {mu : Bool} {w : IF} {c : BF} {e : PF} (hi : sc.slot x = some i) (hl : lcB sc x px (.ListComp elt [⟨tg, iter, ifs, 0⟩] scope cp) = true)
    (hb : blkB sc scope = true) (hw : PID X W tg w iter)
    (ht : ∀ (s : Shared) (H : Hp) (C : Addr) (cl : List (Str × Addr)) (fp : List Addr), PTs (X.blk s H scope (compEnvC scope cl C X.env) fp) ifs (tT W c))
    (he : ∀ (s : Shared) (H : Hp) (C : Addr) (cl : List (Str × Addr)) (fp : List Addr), PD (X.blk s H scope (compEnvC scope cl C X.env) fp) W e elt) :
    PSD X W E (sSet E.np i mu (pLc ((ownOf sc.N scope).map (fun p : Str × Nat => p.2)) w (denGc (sc.blk scope) ((ownOf sc.N scope).map (fun p : Str × Nat => p.2)) tg) c e)) (.Assign [.Name x px] (.ListComp elt [⟨tg, iter, ifs, 0⟩] scope cp) pos) := by
  obtain ⟨h1, _⟩ := S.slot hi
  unfold lcB at hl
  simp only [Bool.and_eq_true, beq_iff_eq, Bool.not_eq_true'] at hl
  obtain ⟨⟨⟨l1, l2⟩, l3⟩, l4⟩ := hl
  have ly : X.env.scope.names.lookup x = some .local := by
    rcases S.vis _ _ l1 with v | ⟨v, _⟩
    · exact v
    · cases v
  refine PS.weak (t := tAsg (tLc (tI W w) (tGc W ((ownOf sc.N scope).map (fun p : Str × Nat => p.2)) (denGc (sc.blk scope) ((ownOf sc.N scope).map (fun p : Str × Nat => p.2)) tg)) (tT W c) (tE W e) ((ownOf sc.N scope).map (fun p : Str × Nat => p.2))) (gName i)) ⟨fun pins s σ H D I h => ?_⟩ fun D σ H q => lc_tE (set_tS (i := i) (mu := mu) q)
  exact (ps_setLc S.calm (by rw [S.N]; exact S.nd) h1 ly (sw_true I.ok.kind ly (by simp [l2]) l3) hw (S.blkOk hb) (fun s H C cl fp => denGc_ok (S.blk hb s H C cl fp) tg) ht he (foldSet l4)).run pins s σ H D I h
theorem setLc_ok (S : SX X W T sc) (hnp : E.np = sc.np) {n : Nat} {x : Str} {i : Nat} {e : Expr} {px pos : Pos} {mu : Bool} (hi : sc.slot x = some i) (hl : lcB sc x px e = true) : PSD X W E (sSet sc.np i mu (denE T sc n e)) (.Assign [.Name x px] e pos) := by
  rw [← hnp]
  have no : PSD X W E (sSet E.np i mu nope) (.Assign [.Name x px] e pos) := ⟨fun pins s σ H D I ⟨env, G, o, _, p, _⟩ => by cases p⟩
  cases n with
  | zero => unfold denE; exact no
  | succ n =>
    have D := denOk (T := T) (W := W) n
    cases e <;> first | (cases hl; done) | skip
    rename_i elt gs scope cp
    unfold denE
    split <;> rename_i h0 <;> first | (cases h0; done) | skip
    · cases h0
      rename_i tg iter
      split
      · rename_i hb
        exact psd_setLc S hi hl hb (D.i X sc S tg iter) (fun s H C cl fp => pts_yes) fun s H C cl fp => D.e _ _ (S.blk hb s H C cl fp) elt
      · exact no
    · cases h0
      rename_i tg iter c
      split
      · rename_i hb
        exact psd_setLc S hi hl hb (D.i X sc S tg iter) (fun s H C cl fp => pts_one (D.t _ _ (S.blk hb s H C cl fp) c)) fun s H C cl fp => D.e _ _ (S.blk hb s H C cl fp) elt
      · exact no
    · cases h0
      cases hl
    · exact no
theorem swst_no {t : Expr} {e : Expr} {env : Env} (h : isTup e = false) : swappedStores [t] e env = pure none := by
  cases e <;> first | (cases h; done) | (cases t <;> rfl)
theorem swst_sub {a b e : Expr} {sp : Pos} {env : Env} : swappedStores [.Subscript a b sp] e env = pure none := by
  cases e <;> rfl
structure DsOk (T : Tab) (W : Pw) (E : Entry) (X : Cx) (sc : Sc) (n : Nat) : Prop where
  s : ∀ st, PSD X W E (denS T sc n st) st
  ss : ∀ sts, PSsD X W E (denSs T sc n sts) sts
theorem dsOk_zero : DsOk T W E X sc 0 := ⟨fun _ => by unfold denS; exact psd_nope, fun _ => by unfold denSs; exact pssd_nope⟩
theorem denS_ok (S : SX X W T sc) (hp : PassesOwn (model X.prog X.w) X.A X.env X.xe) (hnp : E.np = sc.np) (hE : E.Good) {n : Nat} (ih : DsOk T W E X sc n) (st : Stmt) : PSD X W E (denS T sc (n + 1) st) st := by
  have D := denOk (T := T) (W := W) n
  unfold denS
  split
  · rename_i x px e pos
    split
    · rename_i i hi
      split
      · rename_i hl
        split
        · split
          · rename_i hc
            exact setLc_ok S hnp hi hc
          · exact psd_nope
        · rename_i hc
          rw [← hnp]
          exact psd_set S (D.e X sc S e) hi hl (by simpa using hc)
      · exact psd_nope
    · exact psd_nope
  · rename_i x px y py kt pt a b k2 p2 pos
    split
    · rename_i i j hi hj
      split
      · rename_i hc
        simp only [Bool.and_eq_true, decide_eq_true_eq] at hc
        rw [← hnp]
        exact psd_par2 S hc.1 hi hj hc.2 (D.a X sc S _)
      · exact psd_nope
    · exact psd_nope
  · rename_i x px y py z pz kt pt a b c k2 p2 pos
    split
    · rename_i i j l hi hj hl
      split
      · rename_i hc
        simp only [Bool.and_eq_true, decide_eq_true_eq] at hc
        rw [← hnp]
        exact psd_par3 S hc.1 hi hj hl hc.2.1 hc.2.2.1 hc.2.2.2 (D.a X sc S _)
      · exact psd_nope
    · exact psd_nope
  · rename_i ts k tp e pos _ _
    split
    · exact psd_nope
    · rename_i hc
      simp only [Bool.or_eq_true, not_or, Bool.not_eq_true] at hc
      rw [← hnp]
      have hg := denG_ok (T := T) (W := W) S (n := n) (.Tuple ts k tp)
      rw [← hnp] at hg
      exact PS.weak (ps_asg (D.e X sc S e) hg (by unfold swapsWithSole; exact swaps_no hc.1) (swst_no hc.2)) fun _ _ _ q => asg_tS q
  · rename_i a b sp e pos
    split
    · exact psd_nope
    · rename_i hc
      rw [← hnp]
      have hg := denG_ok (T := T) (W := W) S (n := n) (.Subscript a b sp)
      rw [← hnp] at hg
      exact PS.weak (ps_asg (D.e X sc S e) hg (by unfold swapsWithSole; exact swaps_no (by simpa using hc)) swst_sub) fun _ _ _ q => asg_tS q
  · rename_i x xp f ap e pos
    split
    · rename_i i hi
      split
      · exact psd_nope
      · rename_i hc
        rw [← hnp]
        obtain ⟨h1, h2, h3, h4⟩ := S.slot hi
        refine PS.weak (ps_fld (pe_var (pos := xp) h1 h2 h3 h4) (D.e X sc S e) (swaps_no (by simpa using hc))) fun _ _ _ q => ?_
        rw [S.K]
        exact fldS_tS (okF_ok S) q
    · exact psd_nope
  · rw [← hnp]
    exact psd_exp (mut_ok S) rfl
  · rename_i e _ _
    split
    · exact psd_nope
    · rename_i hc
      rw [← hnp]
      exact psd_exp (D.e X sc S e) (by simpa using hc)
  · rename_i c a b pos
    rw [← hnp]
    exact PS.weak (ps_if (D.t X sc S c) (ih.ss a) (ih.ss b)) fun _ _ _ q => if_tS q
  · rename_i tg iter body pos
    split
    · rename_i hn
      rw [← hnp]
      have hg := denG_ok (T := T) (W := W) S (n := n) tg
      rw [← hnp] at hg
      exact PS.weak (ps_for hp S.calm (D.i X sc S tg iter) hg (ih.ss body) (foldSet hn)) fun _ _ _ q => for_tS q
    · exact psd_nope
  · rename_i c body pos
    rw [← hnp]
    exact PS.weak (ps_while hp (D.t X sc S c) (ih.ss body)) fun _ _ _ q => while_tS q
  · rename_i e pos
    rw [← hnp]
    exact PS.weak (ps_ret (D.e X sc S e)) fun _ _ _ q => ret_tS hE q
  · exact psd_rtn
  · exact psd_pass
  · exact psd_break
  · exact psd_cont
  · exact psd_nope
theorem denSs_ok {n : Nat} (ih : DsOk T W E X sc n) (sts : List Stmt) : PSsD X W E (denSs T sc (n + 1) sts) sts := by
  unfold denSs
  split
  · exact pssd_nil
  · rename_i st r
    exact pssd_cons (ih.s st) (ih.ss r)
theorem dsOk (S : SX X W T sc) (hp : PassesOwn (model X.prog X.w) X.A X.env X.xe) (hnp : E.np = sc.np) (hE : E.Good) : ∀ n, DsOk T W E X sc n
  | 0 => dsOk_zero
  | n + 1 => ⟨denS_ok S hp hnp hE (dsOk S hp hnp hE n), denSs_ok (dsOk S hp hnp hE n)⟩
theorem denTop_ok (S : SX X W T sc) (hp : PassesOwn (model X.prog X.w) X.A X.env X.xe) (hnp : E.np = sc.np) (hE : E.Good) {n : Nat} : ∀ (fz : List (List Nat)) (sts : List Stmt), PSsD X W E (denTop T sc n fz sts) sts
  | fz, [] => by cases fz <;> exact pssd_nil
  | [], st :: r => pssd_cons ((dsOk S hp hnp hE n).s st) (denTop_ok S hp hnp hE [] r)
  | is :: fz, st :: r => by
    unfold denTop
    rw [← hnp]
    exact PSs.weak (pssd_cons ((dsOk S hp hnp hE n).s st) (denTop_ok S hp hnp hE fz r)) fun _ _ _ q => fz_tS hE q
end
end Den
end

section
set_option Elab.async false
set_option linter.all false
set_option maxRecDepth 100000
set_option maxHeartbeats 2000000
/-! DenR: a def's promise by its text. -/
namespace Den
open PySem L2
/-- a def of the program -/
structure Df where
  nm : Str
  ps : List Str
  N : List Str
  names : List (Str × NameKind)
  mu : List Nat
  io : List Bool
  ds : List D
  shs : List Shp
  fz : List (List Nat)
  body : List Stmt
def Df.sc (d : Df) : Sc := ⟨d.N, d.names, d.ps.length, d.mu⟩
def Df.F (T : Tab) (n : Nat) (d : Df) : DF := fnF d.N.length (denTop T d.sc n d.fz d.body)
def Df.fi (T : Tab) (n : Nat) (d : Df) : Fi := ⟨d.nm, d.io, d.F T n, d.ps, d.ds, d.shs⟩
end Den
end

section
set_option Elab.async false
set_option linter.all false
set_option maxRecDepth 100000
set_option maxHeartbeats 4000000
/-! DenS: a def's promise by its text, the table that grows by it. -/
namespace Den
open PySem L2 PyProof.Rows
section
variable (P : Program) (w : World) (K : PySem.W.Frag) (mg : Str → Option Value) (base : Heap) (W : Pw)
/-- an own def at f, for calls that have Room k -/
def OwnK (k n : Nat) (f : Addr) (F : DF) : Prop := ∃ j fd ps, FnG P w K mg base j f fd ps (spF W n F) ∧ j + 1 ≤ k ∧ Binds K fd ps []
structure ClsK (k : Nat) (ci : Ci) : Prop where
  here : mg ci.nm = some (.ref (W.cl ci.c))
  cls : Cls K (W.cl ci.c)
  fld : ∀ f ∈ ci.flds, NoAttr K (W.cl ci.c) f
  ini : ∃ f j fd ps its dv, Mk K (W.cl ci.c) f ∧ FnG P w K mg base j f fd ps (spF W (ci.ini.io.length + 1) ci.ini.F) ∧ j + 1 ≤ k ∧ Vals dv its ∧ (∀ G, RpAll W G dv ci.ini.ds) ∧ ∀ sh ∈ ci.ini.shs, ShOk1 K fd ps its sh
  ms : ∀ fi ∈ ci.ms, ∃ f j fd ps its, Meth K (W.cl ci.c) fi.nm f ∧ FnG P w K mg base j f fd ps (spF W (fi.io.length + 1) fi.F) ∧ j + 1 ≤ k ∧ Vals (fi.ds.map dV) its ∧ ∀ sh ∈ fi.shs, ShOk1 K fd ps its sh
  cms : ∀ fi ∈ ci.cms, ∃ mc p g, ClX.CRead K (W.cl ci.c) mc ∧ ClX.CMet K (W.cl ci.c) mc fi.nm p g ∧ OwnK P w K mg base W k (fi.io.length + 1) g fi.F
  props : ∀ f F, ci.props.lookup f = some F → ∃ p g, PropOf K (W.cl ci.c) f p g ∧ OwnK P w K mg base W k 1 g F
  bins : ∀ nm F, ci.bins.lookup nm = some F → ∃ f, OwnBin K (W.cl ci.c) f nm ∧ OwnK P w K mg base W k 2 f F
  rbins : ∀ nm F, ci.rbins.lookup nm = some F → ∃ f, OwnRBin K (W.cl ci.c) f nm ∧ OwnK P w K mg base W k 2 f F
  uns : ∀ nm F, ci.uns.lookup nm = some F → ∃ f, OwnUn K (W.cl ci.c) f nm ∧ OwnK P w K mg base W k 1 f F
  eq : ∀ F, ci.eq = some F → (∃ f, OwnEq K (W.cl ci.c) f ∧ OwnK P w K mg base W k 2 f F) ∧ ∀ T ∈ eqTys, PySem.W.notFirst K (W.cl ci.c) (.type T) = true
  cvals : ∀ f d, ci.cvals.lookup f = some d → (∃ mc v u, ClX.CRead K (W.cl ci.c) mc ∧ ClX.CVal K (W.cl ci.c) mc f v u ∧ ∀ G, Rp W G v d)
/-- a def of the module -/
def FnK (k : Nat) (fi : Fi) : Prop := ∃ a j fd its dv, FnG P w K mg base j a fd fi.ps (spF W fi.io.length fi.F) ∧ j ≤ k ∧ Vals dv its ∧ (∀ G, RpAll W G dv fi.ds) ∧ (∀ sh ∈ fi.shs, ShOk K fd fi.ps its sh) ∧ mg fi.nm = some (.ref a) ∧ PySem.W.keepIn K (.ref a) = true
/-- what is known of the program's globals, for calls that have Room k -/
structure TF (T : Tab) (k : Nat) : Prop where
  fns : ∀ fi ∈ T.fns, FnK P w K mg base W k fi
  cons : ∀ x d, T.cons.lookup x = some d → ∃ u v, mg x = some u ∧ RelV v u ∧ ∀ G, Rp W G v d
  blt : ∀ x b, bis.lookup x = some b → T.fn x = none → T.ci x = none → mg x = none
  tyn : ∀ x, tys.contains x = true → T.fn x = none → T.cons.lookup x = none → mg x = none
  cls : ∀ ci ∈ T.cls, ClsK P w K mg base W k ci
  isi : IsiOk W T.isi
  gcd : ∀ x, T.gcds.contains x = true → T.fn x = none → T.ci x = none → mg x = some (.builtin "math.gcd")
  rng : T.fn "range" = none → mg "range" = none
  enm : T.fn "enumerate" = none → mg "enumerate" = none
  zip : T.fn "zip" = none → mg "zip" = none
end
section
variable {P : Program} {w : World} {mg : Str → Option Value} {base : Heap} {W : Pw} {T : Tab} {j k : Nat}
theorem OwnK.mono {n : Nat} {f : Addr} {F : DF} (h : OwnK P w W.K mg base W j n f F) (hk : j ≤ k) : OwnK P w W.K mg base W k n f F := by
  obtain ⟨i, fd, ps, h1, h2, h3⟩ := h
  exact ⟨i, fd, ps, h1, by omega, h3⟩
theorem FnK.mono {fi : Fi} (h : FnK P w W.K mg base W j fi) (hk : j ≤ k) : FnK P w W.K mg base W k fi := by
  obtain ⟨a, i, fd, its, dv, h1, h2, h3⟩ := h
  exact ⟨a, i, fd, its, dv, h1, by omega, h3⟩
theorem ClsK.mono {ci : Ci} (h : ClsK P w W.K mg base W j ci) (hk : j ≤ k) : ClsK P w W.K mg base W k ci := by
  refine ⟨h.here, h.cls, h.fld, ?_, fun fi hf => ?_, fun fi hf => ?_, fun f F hf => ?_, fun f F hf => ?_, fun f F hf => ?_, fun f F hf => ?_, fun F hf => ?_, h.cvals⟩
  · obtain ⟨f, i, fd, ps, its, dv, h4, h5, h6, h7⟩ := h.ini
    exact ⟨f, i, fd, ps, its, dv, h4, h5, by omega, h7⟩
  · obtain ⟨f, i, fd, ps, its, q1, q2, q3, q4⟩ := h.ms fi hf; exact ⟨f, i, fd, ps, its, q1, q2, by omega, q4⟩
  · obtain ⟨mc, p, g, q1, q2, q3⟩ := h.cms fi hf; exact ⟨mc, p, g, q1, q2, q3.mono hk⟩
  · obtain ⟨p, g, q1, q2⟩ := h.props f F hf; exact ⟨p, g, q1, q2.mono hk⟩
  · obtain ⟨g, q1, q2⟩ := h.bins f F hf; exact ⟨g, q1, q2.mono hk⟩
  · obtain ⟨g, q1, q2⟩ := h.rbins f F hf; exact ⟨g, q1, q2.mono hk⟩
  · obtain ⟨g, q1, q2⟩ := h.uns f F hf; exact ⟨g, q1, q2.mono hk⟩
  · obtain ⟨⟨g, q1, q2⟩, q3⟩ := h.eq F hf; exact ⟨⟨g, q1, q2.mono hk⟩, q3⟩
theorem TF.mono (h : TF P w W.K mg base W T j) (hk : j ≤ k) : TF P w W.K mg base W T k :=
  ⟨fun fi hf => (h.fns fi hf).mono hk, h.cons, h.blt, h.tyn, fun ci hc => (h.cls ci hc).mono hk, h.isi, h.gcd, h.rng, h.enm, h.zip⟩
theorem OwnK.at_ {X : Cx} {n : Nat} {f : Addr} {F : DF} (h : OwnK X.prog X.w X.K X.mg X.base W k n f F) (hr : Room k X.A) : OwnAt X W n f F := by
  obtain ⟨i, fd, ps, h1, h2, h3⟩ := h
  exact ⟨i, fd, ps, h1, hr.mono h2, h3⟩
theorem ClsK.ok {X : Cx} {ci : Ci} (h : ClsK X.prog X.w X.K X.mg X.base W k ci) (hr : Room k X.A) : ClsOk X W ci := by
  refine ⟨h.here, h.cls, h.fld, ?_, fun fi hf => ?_, fun fi hf => ?_, fun f F hf => ?_, fun f F hf => ?_, fun f F hf => ?_, fun f F hf => ?_, fun F hf => ?_, h.cvals⟩
  · obtain ⟨f, i, fd, ps, its, dv, h4, h5, h6, h7⟩ := h.ini
    exact ⟨f, i, fd, ps, its, dv, h4, h5, hr.mono h6, h7⟩
  · obtain ⟨f, i, fd, ps, its, q1, q2, q3, q4⟩ := h.ms fi hf; exact ⟨f, i, fd, ps, its, q1, q2, hr.mono q3, q4⟩
  · obtain ⟨mc, p, g, q1, q2, q3⟩ := h.cms fi hf; exact ⟨mc, p, g, q1, q2, q3.at_ hr⟩
  · obtain ⟨p, g, q1, q2⟩ := h.props f F hf; exact ⟨p, g, q1, q2.at_ hr⟩
  · obtain ⟨g, q1, q2⟩ := h.bins f F hf; exact ⟨g, q1, q2.at_ hr⟩
  · obtain ⟨g, q1, q2⟩ := h.rbins f F hf; exact ⟨g, q1, q2.at_ hr⟩
  · obtain ⟨g, q1, q2⟩ := h.uns f F hf; exact ⟨g, q1, q2.at_ hr⟩
  · obtain ⟨⟨g, q1, q2⟩, q3⟩ := h.eq F hf; exact ⟨⟨g, q1, q2.at_ hr⟩, q3⟩
/-- the place of a def's body -/
theorem TF.sx (h : TF P w W.K mg base W T k) {N ps : List Str} {scope : Scope} (S : FnScope N ps scope) {mu : List Nat} {qual : Str} {f : Addr} {cdv : Value} {A : Around} {outer : List Env} {s : Shared} {H : Hp} {E : XK}
    (hg : (A.deeper (envOfC qual scope s.heap.objs.size f cdv)).guards = some []) (hr : Room k (A.deeper (envOfC qual scope s.heap.objs.size f cdv))) :
    SX (cxOf CX0 P w W.K mg base N qual scope f cdv A outer s H E).nox W T ⟨N, scope.names, ps.length, mu⟩ := by
  refine ⟨rfl, S.nd, rfl, rfl, fun x kd q => .inl q, fun x q => rfl, hg, ?_, fun fi hf => ?_, h.cons, h.blt, h.tyn, fun ci hc => ?_, h.isi, h.gcd, h.rng, h.enm, h.zip⟩
  · have := hr.un
    show (A.deeper (envOfC qual scope s.heap.objs.size f cdv)).units + 200 < cLine
    omega
  · obtain ⟨a, j, fd, its, dv, h1, h2, h3⟩ := h.fns fi hf
    exact ⟨a, j, fd, its, dv, h1, hr.mono h2, h3⟩
  · exact (h.cls ci hc).ok hr
/-- THE RULE of a def by its text -/
theorem den_def (h : TF P w W.K mg base W T k) (d : Df) {f : Addr} {name qual : Str} {params : Arguments} {scope : Scope} {dV kV doc pm cdv ct oc : Value} {an od : Option Addr} {osl : Array (Option Value)}
    (lk : W.K.lookup f = some ⟨oc, od, .func (PySem.W.fnOf name qual params d.body scope dV kV doc pm an cdv ct), osl⟩) (hcd : PySem.W.codeIn W.K cdv qual = true) (S : FnScope d.N d.ps scope) (hn : scope.names = d.names) (n : Nat) :
    FnG P w W.K mg base (k + 1) f (PySem.W.fnOf name qual params d.body scope dV kV doc pm an cdv ct) d.ps (spF W d.ps.length (d.F T n)) := by
  unfold Df.F Df.sc
  rw [← hn]
  exact fng_den lk hcd S fun A outer s H E Ent hg hr good hnp => denTop_ok (h.sx S hg hr) PassesOwn.never hnp good d.fz d.body
end
end Den
end

section
set_option Elab.async false
set_option linter.all false
set_option maxRecDepth 100000
set_option maxHeartbeats 4000000
/-! DenU: the law is called with the script: by a promise that holds where nothing is just being shown. -/
namespace Den
open PySem L2 PySem.Spec PyProof.Rows
section
variable {P : Program} {w : World} {K : PySem.W.Frag} {mg mb : Str → Option Value} {s1 : Shared} {a : Addr} {us : List Value}
/-- at most the script is tracked -/
structure Alone (K : PySem.W.Frag) (H : Hp) (a : Addr) : Prop where
  one : ∀ b, H b ≠ none → b = a
  off : H a ≠ none → K.lookup a = none
theorem Alone.not_at {H : Hp} (al : Alone K H a) {b : Addr} (h : b ≠ a) : H b = none := by
  cases e : H b with
  | none => rfl
  | some u => exact (h (al.one b (by rw [e]; simp))).elim
/-- a dict of the heap isn't the script -/
theorem Alone.dict {H : Hp} (al : Alone K H a) {oa : Obj} (ha : s1.heap.get? a = some oa) (hd : ∀ es ep, oa.data ≠ .dict es ep) {b : Addr} {o : Obj} {es : Array DictEntry} {ep : Nat} (e : s1.heap.get? b = some o) (d : o.data = .dict es ep) : H b = none := by
  by_cases z : b = a
  · subst z
    have q : oa = o := Option.some.inj (ha.symm.trans e)
    exact (hd es ep (by rw [q]; exact d)).elim
  · exact al.not_at z
theorem Alone.env0 {H : Hp} (al : Alone K H a) {oa : Obj} (ha : s1.heap.get? a = some oa) (hd : ∀ es ep, oa.data ≠ .dict es ep) (KX : K.In s1.heap) (hns : s1.heap.Ns mainGlobals mg) (hb : s1.heap.Ns builtinsNs mb)
    (hbb : ∀ x : Str, x ≠ "__name__" → mb x = bootBuiltins x) (hlim : s1.heap.NoLimit) (hg : s1.gens = #[]) (hok : HOk P w H s1.heap) :
    K.In (hidT s1.heap H) ∧ (hidT s1.heap H).Ns mainGlobals mg ∧ Env0 P w K mg (hidT s1.heap H) callerA [] s1 H := by
  have nsOf : ∀ {b : Addr} {m : Str → Option Value}, s1.heap.Ns b m → (hidT s1.heap H).Ns b m := by
    intro b m h
    obtain ⟨o, es, ep, e, d, r⟩ := h
    exact ⟨o, es, ep, hidT_get e (al.dict ha hd e d), d, r⟩
  have kin : K.In (hidT s1.heap H) := by
    intro b o e
    apply hidT_get (KX b o e)
    by_cases z : b = a
    · cases q : H a with
      | none => rw [z]; exact q
      | some u =>
        have := al.off (by rw [q]; simp)
        rw [z, this] at e
        cases e
    · exact al.not_at z
  obtain ⟨mc, l1, l2⟩ := hlim
  refine ⟨kin, nsOf hns, ?_⟩
  constructor
  · rfl
  · exact ⟨kin, nsOf hns, ⟨mb, nsOf hb, hbb⟩, mc, nsOf l1, l2⟩
  · exact fun b o e => of_hidT e
  · exact Nat.le_of_eq (hidT_size _ _)
  · trivial
  · intro b h
    cases h
  · exact hok
  · exact .of_eq hg
/-- what a law's call must end in -/
abbrev LawEnd (s1 : Shared) (r : Result) (s' : Shared) : Prop := r = .ok (.ret (.bool true)) ∧ OldK s1.heap s'.heap ∧ s'.os = s1.os ∧ AllBare s'.gens
theorem lawG_core {k : Nat} {fa : Addr} {fd : FuncData} {x : Str} {sp : Sp} {H : Hp} {oa : Obj} (al : Alone K H a) (ha : s1.heap.get? a = some oa) (hd : ∀ es ep, oa.data ≠ .dict es ep)
    (KX : K.In s1.heap) (hns : s1.heap.Ns mainGlobals mg) (hb : s1.heap.Ns builtinsNs mb) (hbb : ∀ x : Str, x ≠ "__name__" → mb x = bootBuiltins x) (hlim : s1.heap.NoLimit) (hg : s1.gens = #[]) (hr : Room k callerA)
    (F : ∀ base : Heap, K.In base → base.Ns mainGlobals mg → FnG P w K mg base k fa fd [x] sp) (hbind : ∀ (s : Shared) (u : Value), BindsTo s fd ⟨[u], []⟩ [(x, u)])
    (hO : Only H) (hok : HOk P w H s1.heap) (hsp : sp [.ref a] H (fun v _ => v = .bl true) fun _ _ _ => False) :
    codeAny (model P w) callerA (.call (.ref fa) ⟨[.ref a], []⟩) (LawEnd s1) s1 := by
  obtain ⟨kin, nsG, e0⟩ := al.env0 (P := P) (w := w) ha hd KX hns hb hbb hlim hg hok
  apply codeAny_mono ((F _ kin nsG).run callerA [] s1 H ⟨[.ref a], []⟩ [.ref a] [.ref a] _ _ rfl hr e0 (hbind s1 (.ref a)) (.cons rfl .nil) hsp)
  intro r s' h
  cases r with
  | error e => exact h.elim
  | ok fl =>
    cases fl with
    | ret u =>
      obtain ⟨v, H', os, bare, un, hok', rv, q⟩ := h
      have qv : v = .bl true := q
      subst qv
      cases (show u = Value.bool true from rv)
      refine ⟨rfl, OldK.of_keep ?_, os, bare⟩
      intro b o e
      cases qb : H b with
      | none => exact un.keep b o e qb (fun z => nomatch z) (fun z => nomatch z)
      | some t =>
        rcases hO b with z | ⟨ob, xs, z⟩
        · rw [qb] at z; cases z
        · have h1 := (hok b _ z).1
          have h2 := (hok' b _ (un.frzs b ob _ z)).1
          have h3 : o = ob := Option.some.inj (e.symm.trans h1)
          rw [h3]
          exact h2
    | next => exact h.elim
    | brk => exact h.elim
    | cont => exact h.elim

theorem lawG {k : Nat} {fa : Addr} {fd : FuncData} {x : Str} {sp : Sp} {ns : List Int} (ha : s1.heap.get? a = some { cls := .type "list", data := .seq us.toArray }) (hi : IntsAre us ns) (hl : ns.length ≤ sizeLine)
    (KX : K.In s1.heap) (hns : s1.heap.Ns mainGlobals mg) (hb : s1.heap.Ns builtinsNs mb) (hbb : ∀ x : Str, x ≠ "__name__" → mb x = bootBuiltins x) (hlim : s1.heap.NoLimit) (hg : s1.gens = #[]) (hr : Room k callerA)
    (F : ∀ base : Heap, K.In base → base.Ns mainGlobals mg → FnG P w K mg base k fa fd [x] sp) (hbind : ∀ (s : Shared) (u : Value), BindsTo s fd ⟨[u], []⟩ [(x, u)])
    (hsp : ∀ H : Hp, Only H → SqL K H a (ns.map V.int) → sp [.ref a] H (fun v _ => v = .bl true) fun _ _ _ => False) :
    codeAny (model P w) callerA (.call (.ref fa) ⟨[.ref a], []⟩) (LawEnd s1) s1 := by
  have rv : Vals (ns.map V.int) us := vals_ints hi
  have nd : ∀ es ep, (Data.seq us.toArray 0) ≠ .dict es ep := fun _ _ z => nomatch z
  have ln : us.length = ns.length := hi.length
  cases hk : K.lookup a with
  | some o =>
    have eo : o = { cls := .type "list", data := .seq us.toArray } := Option.some.inj ((KX a o hk).symm.trans ha)
    subst eo
    have al : Alone K (fun _ => none) a := ⟨fun b z => (z rfl).elim, fun z => (z rfl).elim⟩
    refine lawG_core al ha nd KX hns hb hbb hlim hg hr F hbind (fun _ => .inl rfl) (fun b u z => nomatch z) (hsp _ (fun _ => .inl rfl) (.inr ?_))
    exact ⟨_, us.toArray, _, hk, rfl, rfl, rfl, by rw [List.size_toArray, ln]; exact hl, by simpa using rv⟩
  | none =>
    let S : HO := .frz { cls := .type "list", data := .seq us.toArray } (.lst (ns.map V.int))
    let H : Hp := fun b => if b = a then some S else none
    have hA : H a = some S := if_pos rfl
    have hN : ∀ b, b ≠ a → H b = none := fun b z => if_neg z
    have al : Alone K H a := ⟨fun b z => Classical.byContradiction fun q => z (hN b q), fun _ => hk⟩
    have hO : Only H := fun b => by
      by_cases z : b = a
      · exact .inr ⟨_, _, by rw [z]; exact hA⟩
      · exact .inl (hN b z)
    refine lawG_core al ha nd KX hns hb hbb hlim hg hr F hbind hO (fun b u z => ?_) (hsp H hO (.inl (.inr ⟨_, hA⟩)))
    by_cases q : b = a
    · subst q
      have eu : u = S := Option.some.inj (z.symm.trans hA)
      subst eu
      exact ⟨ha, by rw [List.length_map]; exact hl, us, _, rv, ha⟩
    · rw [hN b q] at z; cases z
end
/-- the walk that a law's head leaves, by what the text makes of a script -/
theorem walkG {l : PySem.W.OpenLaw} {n k : Nat} {q : Program} {loose : List Str} {XP : (Str → Option Value) → Heap → Prop} {YP : World → Heap → Prop} {d : DefRec} {x : Str} {F : DF}
    (hn : l.most = some n) (hn2 : n ≤ sizeLine) (hdf : d.params.defaults = []) (hr : Room k callerA)
    (hF : ∀ (w : World) (mg : Str → Option Value) (fa : Addr) (h : Heap), YP w h → h.Ns mainGlobals mg → mg d.name = some (.ref fa) →
      ∃ (W : Pw) (fd : FuncData), W.K.In h ∧ (∀ (s : Shared) (u : Value), BindsTo s fd ⟨[u], []⟩ [(x, u)]) ∧ ∀ base : Heap, W.K.In base → base.Ns mainGlobals mg → FnG l.prog w W.K mg base k fa fd [x] (spF W 1 F))
    (tr : ∀ ns : List Int, ns.length ≤ n → (∀ i ∈ ns, Builtin.Int.intBits i ≤ 1048576) → ∃ e, F [.dat (.scr ns)] = some (.dat (.bl true), e)) :
    PySem.W.WalkO q loose XP YP l.row.toRowW d [] (fun f vs => PySem.call f vs) := by
  refine Att.attach_callB hn hdf ?_
  intro w s0 s1 mg mb fa o pm cd doc a vs ns G Y ho hd hcd hmg hobj hints hlen hbits hg
  obtain ⟨W, fd, KX, hb, hFF⟩ := hF w mg fa _ Y G.T.g hmg
  refine lawG hobj hints (Nat.le_trans hlen hn2) KX G.T.g G.T.b G.T.builtins G.T.nolimit hg hr hFF hb fun H hO hS => ⟨rfl, ?_⟩
  obtain ⟨e, he⟩ := tr ns hlen hbits
  have rel : Rel W [some (.ref a)] [.dat (.scr ns)] H H := by
    refine ⟨rfl, fun b u h => h, fun i s hs => ?_, fun i j dd s b h1 h2 h3 h4 h5 => ?_⟩
    · match i, hs with
      | 0, hs => cases hs; exact ⟨.ref a, rfl, .scr hS⟩
    · match i, h1 with
      | 0, h1 => cases h1
  refine ⟨[.dat (.scr ns)], H, .dat (.bl true), e, rel, he, fun v H' G' s o => ?_⟩
  have o' : Rp W G' v (.bl true) := o
  cases o'
  rfl
end Den
end

section
set_option Elab.async false
set_option linter.all false
set_option maxRecDepth 100000
set_option maxHeartbeats 4000000
/-! DenT: the program's table, made again and again by its own text. -/
namespace Den
open PySem L2 PyProof.Rows
structure Cdf where
  nm : Str
  c : Nat
  flds : List Str
  ini : Df
  cvals : List (Str × D)
  ms : List Df
  cms : List Df
  props : List (Str × Df)
  bins : List (String × Df)
  rbins : List (String × Df)
  uns : List (Str × Df)
  eq : Option Df
structure Prg where
  fuel : Nat
  dfs : List Df
  cons : List (Str × D)
  cls : List Cdf
  isi : IsiT
  gcds : List Str
/-- a method's def: its first parameter is self -/
def Df.mi (T : Tab) (n : Nat) (d : Df) : Fi := ⟨d.nm, d.io.tail, d.F T n, d.ps.tail, d.ds, d.shs⟩
def Cdf.ci (T : Tab) (n : Nat) (c : Cdf) : Ci := ⟨c.nm, c.c, c.flds, c.ini.mi T n, c.cvals, c.ms.map (·.mi T n), c.cms.map (·.mi T n), c.props.map fun p => (p.1, p.2.F T n), c.bins.map fun p => (p.1, p.2.F T n), c.rbins.map fun p => (p.1, p.2.F T n), c.uns.map fun p => (p.1, p.2.F T n), c.eq.map fun d => d.F T n⟩
def tabS (p : Prg) (T : Tab) : Tab := ⟨p.dfs.map (·.fi T p.fuel), p.cons, p.cls.map (·.ci T p.fuel), p.isi, p.gcds⟩
def tab (p : Prg) : Nat → Tab
  | 0 => ⟨[], p.cons, [], p.isi, p.gcds⟩
  | i + 1 => tabS p (tab p i)
/-! ### what K holds of them -/
/-- the def d stands at f -/
def DefAt (K : PySem.W.Frag) (d : Df) (f : Addr) (fd : FuncData) : Prop := ∃ name qual params scope dV kV doc pm cdv ct oc an od osl, fd = PySem.W.fnOf name qual params d.body scope dV kV doc pm an cdv ct ∧ K.lookup f = some ⟨oc, od, .func fd, osl⟩ ∧ PySem.W.codeIn K cdv qual = true ∧
  FnScope d.N d.ps scope ∧ scope.names = d.names
def IoB (d : Df) : Prop := d.io.length = d.ps.length ∧ d.ps ≠ []
section
variable {P : Program} {w : World} {mg : Str → Option Value} {base : Heap} {W : Pw} {p : Prg} {k : Nat}
theorem DefAt.fng {T : Tab} {d : Df} {f : Addr} {fd : FuncData} (D : DefAt W.K d f fd) (h : TF P w W.K mg base W T k) (n : Nat) : FnG P w W.K mg base (k + 1) f fd d.ps (spF W d.ps.length (d.F T n)) := by
  obtain ⟨name, qual, params, scope, dV, kV, doc, pm, cdv, ct, oc, an, od, osl, rfl, lk, hcd, S, hn⟩ := D
  exact den_def h d lk hcd S hn n
/-- a def by all its arguments by place -/
def OwnD (K : PySem.W.Frag) (n : Nat) (f : Addr) (d : Df) : Prop := ∃ fd, DefAt K d f fd ∧ d.ps.length = n ∧ Binds K fd d.ps []
theorem OwnD.own {T : Tab} {d : Df} {f : Addr} {n m : Nat} (D : OwnD W.K n f d) (h : TF P w W.K mg base W T k) : OwnK P w W.K mg base W (k + 2) n f (d.F T m) := by
  obtain ⟨fd, D, e, b⟩ := D
  subst e
  exact ⟨k + 1, fd, d.ps, D.fng h m, by omega, b⟩
structure ClsD (K : PySem.W.Frag) (mg : Str → Option Value) (W : Pw) (c : Cdf) : Prop where
  here : mg c.nm = some (.ref (W.cl c.c))
  cls : Cls K (W.cl c.c)
  fld : ∀ f ∈ c.flds, NoAttr K (W.cl c.c) f
  ini : IoB c.ini ∧ ∃ f fd its dv, Mk K (W.cl c.c) f ∧ DefAt K c.ini f fd ∧ Vals dv its ∧ (∀ G, RpAll W G dv c.ini.ds) ∧ ∀ sh ∈ c.ini.shs, ShOk1 K fd c.ini.ps its sh
  ms : ∀ d ∈ c.ms, IoB d ∧ ∃ f fd its, Meth K (W.cl c.c) d.nm f ∧ DefAt K d f fd ∧ Vals (d.ds.map dV) its ∧ ∀ sh ∈ d.shs, ShOk1 K fd d.ps its sh
  cms : ∀ d ∈ c.cms, IoB d ∧ ∃ mc p g, ClX.CRead K (W.cl c.c) mc ∧ ClX.CMet K (W.cl c.c) mc d.nm p g ∧ OwnD K d.ps.length g d
  props : ∀ q ∈ c.props, ∃ p g, PropOf K (W.cl c.c) q.1 p g ∧ OwnD K 1 g q.2
  bins : ∀ q ∈ c.bins, ∃ f, OwnBin K (W.cl c.c) f q.1 ∧ OwnD K 2 f q.2
  rbins : ∀ q ∈ c.rbins, ∃ f, OwnRBin K (W.cl c.c) f q.1 ∧ OwnD K 2 f q.2
  uns : ∀ q ∈ c.uns, ∃ f, OwnUn K (W.cl c.c) f q.1 ∧ OwnD K 1 f q.2
  eq : ∀ d, c.eq = some d → (∃ f, OwnEq K (W.cl c.c) f ∧ OwnD K 2 f d) ∧ ∀ T ∈ eqTys, PySem.W.notFirst K (W.cl c.c) (.type T) = true
  cvals : ∀ f d, c.cvals.lookup f = some d → (∃ mc v u, ClX.CRead K (W.cl c.c) mc ∧ ClX.CVal K (W.cl c.c) mc f v u ∧ ∀ G, Rp W G v d)
def FnD (K : PySem.W.Frag) (mg : Str → Option Value) (W : Pw) (d : Df) : Prop := IoB d ∧ ∃ f fd its dv, DefAt K d f fd ∧ Vals dv its ∧ (∀ G, RpAll W G dv d.ds) ∧ (∀ sh ∈ d.shs, ShOk K fd d.ps its sh) ∧ mg d.nm = some (.ref f) ∧ PySem.W.keepIn K (.ref f) = true
structure PrgOk (K : PySem.W.Frag) (mg : Str → Option Value) (W : Pw) (p : Prg) : Prop where
  fns : ∀ d ∈ p.dfs, FnD K mg W d
  cons : ∀ x d, p.cons.lookup x = some d → ∃ u v, mg x = some u ∧ RelV v u ∧ ∀ G, Rp W G v d
  blt : ∀ x b, bis.lookup x = some b → mg x = none
  tyn : ∀ x, tys.contains x = true → mg x = none
  cls : ∀ c ∈ p.cls, ClsD K mg W c
  isi : IsiOk W p.isi
  gcd : ∀ x, p.gcds.contains x = true → mg x = some (.builtin "math.gcd")
  rng : mg "range" = none
  enm : mg "enumerate" = none
  zip : mg "zip" = none
theorem lookup_map {α β γ : Type} [BEq α] [LawfulBEq α] {f : β → γ} {x : α} {z : γ} : ∀ {l : List (α × β)}, (l.map fun q => (q.1, f q.2)).lookup x = some z → ∃ y, (x, y) ∈ l ∧ z = f y
  | [], h => by cases h
  | (a, b) :: l, h => by
    rw [List.map_cons, List.lookup_cons] at h
    by_cases e : x == a
    · simp only [e] at h
      cases h
      exact ⟨b, by rw [beq_iff_eq] at e; rw [e]; exact List.mem_cons_self, rfl⟩
    · have e' : (x == a) = false := by simpa using e
      simp only [e'] at h
      obtain ⟨y, h1, h2⟩ := lookup_map h
      exact ⟨y, List.mem_cons_of_mem _ h1, h2⟩
theorem tail_len {d : Df} (h : IoB d) : d.io.tail.length + 1 = d.ps.length := by
  obtain ⟨h1, h2⟩ := h
  have : d.ps.length ≠ 0 := fun z => h2 (List.length_eq_zero_iff.mp z)
  rw [List.length_tail]
  omega
theorem clsK_of {T : Tab} {c : Cdf} {m : Nat} (C : ClsD W.K mg W c) (h : TF P w W.K mg base W T k) : ClsK P w W.K mg base W (k + 2) (c.ci T m) := by
  have own : ∀ {d : Df} {f : Addr}, OwnD W.K d.ps.length f d → IoB d → OwnK P w W.K mg base W (k + 2) ((d.mi T m).io.length + 1) f (d.mi T m).F := fun {d f} D hb => by
    have q := D.own (m := m) h
    rw [← tail_len hb] at q
    exact q
  refine ⟨C.here, C.cls, C.fld, ?_, fun fi hf => ?_, fun fi hf => ?_, fun f F hf => ?_, fun f F hf => ?_, fun f F hf => ?_, fun f F hf => ?_, fun F hf => ?_, C.cvals⟩
  · obtain ⟨hb, f, fd, its, dv, M, D, v1, v2, sh⟩ := C.ini
    have q := D.fng h m
    rw [← tail_len hb] at q
    exact ⟨f, k + 1, fd, c.ini.ps, its, dv, M, q, by omega, v1, v2, sh⟩
  · obtain ⟨d, hd, rfl⟩ := List.mem_map.mp hf
    obtain ⟨hb, f, fd, its, q1, D, v1, sh⟩ := C.ms d hd
    have q := D.fng h m
    rw [← tail_len hb] at q
    exact ⟨f, k + 1, fd, d.ps, its, q1, q, by omega, v1, sh⟩
  · obtain ⟨d, hd, rfl⟩ := List.mem_map.mp hf
    obtain ⟨hb, mc, p, g, q1, q2, q3⟩ := C.cms d hd
    exact ⟨mc, p, g, q1, q2, own q3 hb⟩
  · obtain ⟨d, hd, rfl⟩ := lookup_map (f := fun d : Df => d.F T m) hf
    obtain ⟨p, g, q1, q2⟩ := C.props _ hd
    exact ⟨p, g, q1, q2.own h⟩
  · obtain ⟨d, hd, rfl⟩ := lookup_map (f := fun d : Df => d.F T m) hf
    obtain ⟨g, q1, q2⟩ := C.bins _ hd
    exact ⟨g, q1, q2.own h⟩
  · obtain ⟨d, hd, rfl⟩ := lookup_map (f := fun d : Df => d.F T m) hf
    obtain ⟨g, q1, q2⟩ := C.rbins _ hd
    exact ⟨g, q1, q2.own h⟩
  · obtain ⟨d, hd, rfl⟩ := lookup_map (f := fun d : Df => d.F T m) hf
    obtain ⟨g, q1, q2⟩ := C.uns _ hd
    exact ⟨g, q1, q2.own h⟩
  · have hf' : (c.eq.map fun d => d.F T m) = some F := hf
    simp only [Option.map_eq_some_iff] at hf'
    obtain ⟨d, hd, rfl⟩ := hf'
    obtain ⟨⟨g, q1, q2⟩, q3⟩ := C.eq d hd
    exact ⟨⟨g, q1, q2.own h⟩, q3⟩
theorem tab_ok (h : PrgOk W.K mg W p) : ∀ i, TF P w W.K mg base W (tab p i) (2 * i)
  | 0 => ⟨fun fi hf => absurd (show fi ∈ ([] : List Fi) from hf) (List.not_mem_nil), h.cons, fun x b e _ _ => h.blt x b e, fun x e _ _ => h.tyn x e, fun ci hc => absurd (show ci ∈ ([] : List Ci) from hc) (List.not_mem_nil), h.isi, fun x e _ _ => h.gcd x e, fun _ => h.rng, fun _ => h.enm, fun _ => h.zip⟩
  | i + 1 => by
    have t := tab_ok h i
    refine ⟨fun fi hf => ?_, h.cons, fun x b e _ _ => h.blt x b e, fun x e _ _ => h.tyn x e, fun ci hc => ?_, h.isi, fun x e _ _ => h.gcd x e, fun _ => h.rng, fun _ => h.enm, fun _ => h.zip⟩
    · obtain ⟨d, hd, rfl⟩ := List.mem_map.mp hf
      obtain ⟨hb, f, fd, its, dv, D, v1, v2, sh, m1, kp⟩ := h.fns d hd
      have q := D.fng t p.fuel
      rw [← hb.1] at q
      exact ⟨f, 2 * i + 1, fd, its, dv, q, by omega, v1, v2, sh, m1, kp⟩
    · obtain ⟨c, hc2, rfl⟩ := List.mem_map.mp hc
      exact clsK_of (h.cls c hc2) t
end
end Den
end

section
set_option Elab.async false
set_option linter.all false
set_option maxRecDepth 100000
set_option maxHeartbeats 4000000
/-! DenV: from what the head knows to what the table asks. -/
namespace Den
open PySem L2 PyProof.Rows
def AllP {α : Type} (P : α → Prop) : List α → Prop
  | [] => True
  | a :: l => P a ∧ AllP P l
theorem allP {α : Type} {P : α → Prop} : ∀ {l : List α}, AllP P l → ∀ a ∈ l, P a
  | [], _, a, h => by cases h
  | b :: l, ⟨h1, h2⟩, a, h => by
    rcases List.mem_cons.mp h with e | e
    · rw [e]; exact h1
    · exact allP h2 a e
/-- the def at hand -/
abbrev fdOf (name qual : Str) (st : Stmt) (dV kV doc pm : Value) (an : Option Addr) (cdv ct : Value) : FuncData := PySem.W.fnOf name qual (defArgs st) (defBody st) (defScope st) dV kV doc pm an cdv ct
/-- what is decided of a def by its text alone -/
structure DfSt (d : Df) (st : Stmt) : Prop where
  body : d.body = defBody st
  S : FnScope d.N d.ps (defScope st)
  names : (defScope st).names = d.names
  io : IoB d
/-- its calls without defaults -/
def ShsN (d : Df) (st : Stmt) : Prop := ∀ (K : PySem.W.Frag) (name qual : Str) (kV doc pm : Value) (an : Option Addr) (cdv ct : Value), d.ds = [] ∧ AllP (ShOk K (fdOf name qual st .none kV doc pm an cdv ct) d.ps []) d.shs
def ShsM (d : Df) (st : Stmt) : Prop := ∀ (K : PySem.W.Frag) (name qual : Str) (kV doc pm : Value) (an : Option Addr) (cdv ct : Value), d.ds = [] ∧ AllP (ShOk1 K (fdOf name qual st .none kV doc pm an cdv ct) d.ps []) d.shs
/-- .. with defaults -/
def ShsD (d : Df) (st : Stmt) : Prop := ∀ (K : PySem.W.Frag) (name qual : Str) (kV doc pm : Value) (an : Option Addr) (cdv ct : Value) (T : Addr) (o : Obj) (its : List Value) (n : Nat), K.lookup T = some o → o.data = .seq its.toArray n → its.length = d.ds.length → AllP (ShOk K (fdOf name qual st (.ref T) kV doc pm an cdv ct) d.ps its) d.shs
def ShsE (d : Df) (st : Stmt) : Prop := ∀ (K : PySem.W.Frag) (name qual : Str) (kV doc pm : Value) (an : Option Addr) (cdv ct : Value) (T : Addr) (o : Obj) (its : List Value) (n : Nat), K.lookup T = some o → o.data = .seq its.toArray n → its.length = d.ds.length → AllP (ShOk1 K (fdOf name qual st (.ref T) kV doc pm an cdv ct) d.ps its) d.shs
def BndN (d : Df) (st : Stmt) : Prop := ∀ (K : PySem.W.Frag) (name qual : Str) (kV doc pm : Value) (an : Option Addr) (cdv ct : Value), Binds K (fdOf name qual st .none kV doc pm an cdv ct) d.ps []
section
variable {K : PySem.W.Frag} {h : Heap} {mg : Str → Option Value} {W : Pw} {d : Df} {st : Stmt} {f : Addr} {name qual : Str} {dw kV doc pm cdv ct oc : Value} {an od : Option Addr} {osl : Array (Option Value)}
theorem defAt_of (D : DfSt d st) (l : K.lookup f = some ⟨oc, od, .func (fdOf name qual st dw kV doc pm an cdv ct), osl⟩) (c : PySem.W.codeIn K cdv qual = true) : DefAt K d f (fdOf name qual st dw kV doc pm an cdv ct) := by
  refine ⟨name, qual, defArgs st, defScope st, dw, kV, doc, pm, cdv, ct, oc, an, od, osl, ?_, l, c, D.S, D.names⟩
  rw [D.body]
theorem fnD_of (D : DfSt d st) (B : ShsN d st) (X : K.In h) (G : h.Ns mainGlobals mg) (a : PySem.W.nsIn K mainGlobals d.nm = some (some (.ref f))) (l : K.lookup f = some ⟨oc, od, .func (fdOf name qual st .none kV doc pm an cdv ct), osl⟩) (c : PySem.W.codeIn K cdv qual = true) (k : PySem.W.keepIn K (.ref f) = true) : FnD K mg W d := by
  obtain ⟨e, b⟩ := B K name qual kV doc pm an cdv ct
  exact ⟨D.io, f, _, [], [], defAt_of D l c, .nil, fun G => by rw [e]; exact .nil, allP b, PySem.W.mg_of X G a, k⟩
theorem ownD_of {n : Nat} (D : DfSt d st) (B : BndN d st) (hn : d.ps.length = n) (l : K.lookup f = some ⟨oc, od, .func (fdOf name qual st .none kV doc pm an cdv ct), osl⟩) (c : PySem.W.codeIn K cdv qual = true) : OwnD K n f d := ⟨_, defAt_of D l c, hn, B K name qual kV doc pm an cdv ct⟩
/-- a method -/
theorem msD_of {C : Addr} (D : DfSt d st) (B : ShsM d st) (a : PySem.W.findIn K (.ref C) d.nm = some (some (.ref f))) (i : PySem.W.isFn K (.ref f) = true) (k : PySem.W.keepIn K (.ref f) = true) (l : K.lookup f = some ⟨oc, od, .func (fdOf name qual st .none kV doc pm an cdv ct), osl⟩) (c : PySem.W.codeIn K cdv qual = true) :
    IoB d ∧ ∃ f fd its, Meth K C d.nm f ∧ DefAt K d f fd ∧ Vals (d.ds.map dV) its ∧ ∀ sh ∈ d.shs, ShOk1 K fd d.ps its sh := by
  obtain ⟨e, b⟩ := B K name qual kV doc pm an cdv ct
  exact ⟨D.io, f, _, [], ⟨a, i, k⟩, defAt_of D l c, by rw [e]; exact .nil, allP b⟩
/-- __init__ without defaults -/
theorem iniN_of {C : Addr} (D : DfSt d st) (B : ShsM d st) (mk : PySem.W.makesIn K C = true) (a : PySem.W.findIn K (.ref C) "__init__" = some (some (.ref f))) (i : PySem.W.isFn K (.ref f) = true) (k : PySem.W.keepIn K (.ref C) = true) (l : K.lookup f = some ⟨oc, od, .func (fdOf name qual st .none kV doc pm an cdv ct), osl⟩) (c : PySem.W.codeIn K cdv qual = true) :
    IoB d ∧ ∃ f fd its dv, Mk K C f ∧ DefAt K d f fd ∧ Vals dv its ∧ (∀ W G, RpAll W G dv d.ds) ∧ ∀ sh ∈ d.shs, ShOk1 K fd d.ps its sh := by
  obtain ⟨e, b⟩ := B K name qual kV doc pm an cdv ct
  exact ⟨D.io, f, _, [], [], ⟨mk, a, i, k⟩, defAt_of D l c, .nil, fun W G => by rw [e]; exact .nil, allP b⟩
theorem iniD_of {C T : Addr} {o : Obj} {its : List Value} {n : Nat} (D : DfSt d st) (B : ShsE d st) (hfl : d.ds.all dFlat = true) (mk : PySem.W.makesIn K C = true) (a : PySem.W.findIn K (.ref C) "__init__" = some (some (.ref f))) (i : PySem.W.isFn K (.ref f) = true) (k : PySem.W.keepIn K (.ref C) = true)
    (l : K.lookup f = some ⟨oc, od, .func (fdOf name qual st (.ref T) kV doc pm an cdv ct), osl⟩) (c : PySem.W.codeIn K cdv qual = true) (lT : K.lookup T = some o) (oT : o.data = .seq its.toArray n) (v : Vals (d.ds.map dV) its) :
    IoB d ∧ ∃ f fd its dv, Mk K C f ∧ DefAt K d f fd ∧ Vals dv its ∧ (∀ W G, RpAll W G dv d.ds) ∧ ∀ sh ∈ d.shs, ShOk1 K fd d.ps its sh :=
  ⟨D.io, f, _, its, _, ⟨mk, a, i, k⟩, defAt_of D l c, v, fun W G => dV_rp hfl, allP (B K name qual kV doc pm an cdv ct T o its n lT oT (by have := v.length; simpa using this.symm))⟩
theorem cmsD_of {C p : Addr} {mc : Value} {rest : List Value} (D : DfSt d st) (B : BndN d st) (r : PySem.W.readsIn K C mc = true) (ga : PySem.W.specialIn K (.ref C) "__getattribute__" = some (some (.builtin "type.__getattribute__")))
    (a : PySem.W.findCls K (.ref C) mc d.nm = some (.get (.builtin "classmethod.__get__") (.ref p) .none (.ref C))) (rc : PySem.W.recIn K p "classmethod" = some (.ref f :: rest)) (fi : PySem.W.fnIn K f = true)
    (l : K.lookup f = some ⟨oc, od, .func (fdOf name qual st .none kV doc pm an cdv ct), osl⟩) (c : PySem.W.codeIn K cdv qual = true) : IoB d ∧ ∃ mc p g, ClX.CRead K C mc ∧ ClX.CMet K C mc d.nm p g ∧ OwnD K d.ps.length g d :=
  ⟨D.io, mc, p, f, ⟨r, ga⟩, ⟨a, ⟨rest, rc⟩, fi⟩, ownD_of D B rfl l c⟩
theorem propD_of {C p : Addr} {x : Str} {rest : List Value} (D : DfSt d st) (B : BndN d st) (h1 : d.ps.length = 1) (a : PySem.W.findIn K (.ref C) x = some (some (.ref p))) (g : PySem.W.specialIn K (.ref p) "__get__" = some (some (.builtin "property.__get__"))) (tk : PySem.W.takesIn K (.ref p) = some true)
    (rc : PySem.W.recIn K p "property" = some (.ref f :: rest)) (l : K.lookup f = some ⟨oc, od, .func (fdOf name qual st .none kV doc pm an cdv ct), osl⟩) (c : PySem.W.codeIn K cdv qual = true) : ∃ p g, PropOf K C x p g ∧ OwnD K 1 g d :=
  ⟨p, f, ⟨a, g, tk, ⟨rest, rc⟩⟩, ownD_of D B h1 l c⟩
theorem binD_of {C : Addr} {nm : String} {rc fo ro : Option Value} (D : DfSt d st) (B : BndN d st) (h2 : d.ps.length = 2) (a : PySem.W.findIn K (.ref C) (PySem.dunder nm) = some (some (.ref f))) (i : PySem.W.isFn K (.ref f) = true) (sf : PySem.W.selfFirst K C = true)
    (r : PySem.W.findIn K (.ref C) (dunderR nm) = some rc) (hr : rc = none ∨ ∃ g : Addr, rc = some (.ref g)) (i1 : PySem.W.findIn K (.type "int") (PySem.dunder nm) = some fo) (i2 : PySem.W.findIn K (.type "int") (dunderR nm) = some ro) (sb : PySem.W.subIn K (.type "int") (.ref C) = some false)
    (l : K.lookup f = some ⟨oc, od, .func (fdOf name qual st .none kV doc pm an cdv ct), osl⟩) (c : PySem.W.codeIn K cdv qual = true) : ∃ f, OwnBin K C f nm ∧ OwnD K 2 f d := ⟨f, ⟨a, i, sf, ⟨rc, r, hr⟩, ⟨fo, i1⟩, ⟨ro, i2⟩, sb⟩, ownD_of D B h2 l c⟩
theorem rbinD_of {C g : Addr} {nm : String} (D : DfSt d st) (B : BndN d st) (h2 : d.ps.length = 2) (a : PySem.W.findIn K (.ref C) (dunderR nm) = some (some (.ref f))) (i : PySem.W.isFn K (.ref f) = true) (sf : PySem.W.selfFirst K C = true)
    (r : PySem.W.findIn K (.ref C) (PySem.dunder nm) = some (some (.ref g))) (sb : PySem.W.subIn K (.ref C) (.type "int") = some false)
    (l : K.lookup f = some ⟨oc, od, .func (fdOf name qual st .none kV doc pm an cdv ct), osl⟩) (c : PySem.W.codeIn K cdv qual = true) : ∃ f, OwnRBin K C f nm ∧ OwnD K 2 f d := ⟨f, ⟨a, i, sf, ⟨g, r⟩, sb⟩, ownD_of D B h2 l c⟩
theorem unD_of {C : Addr} {nm : Str} (D : DfSt d st) (B : BndN d st) (h1 : d.ps.length = 1) (a : PySem.W.findIn K (.ref C) nm = some (some (.ref f))) (i : PySem.W.isFn K (.ref f) = true)
    (l : K.lookup f = some ⟨oc, od, .func (fdOf name qual st .none kV doc pm an cdv ct), osl⟩) (c : PySem.W.codeIn K cdv qual = true) : ∃ f, OwnUn K C f nm ∧ OwnD K 1 f d := ⟨f, ⟨a, i⟩, ownD_of D B h1 l c⟩
theorem eqD_of {C : Addr} (D : DfSt d st) (B : BndN d st) (h2 : d.ps.length = 2) (a : PySem.W.findIn K (.ref C) "__eq__" = some (some (.ref f))) (i : PySem.W.isFn K (.ref f) = true) (ne : PySem.W.findIn K (.ref C) "__ne__" = some (some (.builtin "object.__ne__"))) (ob : PySem.W.mroIn K C (.type "object") = some true)
    (l : K.lookup f = some ⟨oc, od, .func (fdOf name qual st .none kV doc pm an cdv ct), osl⟩) (c : PySem.W.codeIn K cdv qual = true) (nf : AllP (fun T => PySem.W.notFirst K C (.type T) = true) eqTys) : (∃ f, OwnEq K C f ∧ OwnD K 2 f d) ∧ ∀ T ∈ eqTys, PySem.W.notFirst K C (.type T) = true :=
  ⟨⟨f, ⟨a, i, ne, ob⟩, ownD_of D B h2 l c⟩, allP nf⟩
/-- the law itself -/
structure LawD (K : PySem.W.Frag) (mg : Str → Option Value) (d : Df) (x : Str) : Prop where
  ex : ∃ f fd, DefAt K d f fd ∧ mg d.nm = some (.ref f) ∧ d.ps = [x] ∧ ∀ (s : Shared) (u : Value), BindsTo s fd ⟨[u], []⟩ [(x, u)]
def LawB (st : Stmt) (x : Str) : Prop := ∀ (name qual : Str) (kV doc pm : Value) (an : Option Addr) (cdv ct : Value) (s : Shared) (u : Value), BindsTo s (fdOf name qual st .none kV doc pm an cdv ct) ⟨[u], []⟩ [(x, u)]
theorem lawD_of {x : Str} (D : DfSt d st) (B : LawB st x) (hp : d.ps = [x]) (X : K.In h) (G : h.Ns mainGlobals mg) (a : PySem.W.nsIn K mainGlobals d.nm = some (some (.ref f))) (l : K.lookup f = some ⟨oc, od, .func (fdOf name qual st .none kV doc pm an cdv ct), osl⟩) (c : PySem.W.codeIn K cdv qual = true) : LawD K mg d x :=
  ⟨f, _, defAt_of D l c, PySem.W.mg_of X G a, hp, B name qual kV doc pm an cdv ct⟩
end
/-- from the table to the law's promise -/
theorem end_of {P : Program} {w : World} {h : Heap} {mg : Str → Option Value} {W : Pw} {p : Prg} {dl : Df} {x : Str} {fa : Addr} {n : Nat} (X : W.K.In h) (hfa : mg dl.nm = some (.ref fa)) (L : LawD W.K mg dl x) (ok : PrgOk W.K mg W p) :
    ∃ (W : Pw) (fd : FuncData), W.K.In h ∧ (∀ (s : Shared) (u : Value), BindsTo s fd ⟨[u], []⟩ [(x, u)]) ∧ ∀ base : Heap, W.K.In base → base.Ns mainGlobals mg → FnG P w W.K mg base (2 * n + 1) fa fd [x] (spF W 1 (dl.F (tab p n) p.fuel)) := by
  obtain ⟨f, fd, D, m, hp, b⟩ := L.ex
  rw [hfa] at m
  cases m
  refine ⟨W, fd, X, b, fun base _ _ => ?_⟩
  have q := D.fng (tab_ok (base := base) (P := P) (w := w) ok n) p.fuel
  rw [hp] at q
  exact q
theorem mem_of_lookup {α β : Type} [BEq α] [LawfulBEq α] {x : α} {z : β} : ∀ {l : List (α × β)}, l.lookup x = some z → (x, z) ∈ l
  | [], h => by cases h
  | (a, b) :: l, h => by
    rw [List.lookup_cons] at h
    by_cases e : x == a
    · simp only [e] at h
      cases h
      rw [beq_iff_eq] at e
      rw [e]; exact List.mem_cons_self
    · have e' : (x == a) = false := by simpa using e
      simp only [e'] at h
      exact List.mem_cons_of_mem _ (mem_of_lookup h)
theorem ty_eq {a b : Ty} (h : (a == b) = true) : a = b := by
  cases a with
  | inl x => cases b with
    | inl y => have h2 : x = y := eq_of_beq (show (x == y) = true from h); rw [h2]
    | inr y => cases h
  | inr x => cases b with
    | inl y => cases h
    | inr y => have h2 : x = y := eq_of_beq (show (x == y) = true from h); rw [h2]
theorem ty_rfl (a : Ty) : (a == a) = true := by
  cases a with
  | inl x => exact beq_self_eq_true x
  | inr x => exact beq_self_eq_true x
theorem ty_lawful : LawfulBEq Ty := { eq_of_beq := ty_eq, rfl := ty_rfl _ }
theorem isi_mem {t u : Ty} {b : Bool} {tb : IsiT} (h : tb.lookup (t, u) = some b) : ((t, u), b) ∈ tb := by
  have := ty_lawful
  exact mem_of_lookup h
theorem isiOk_of {W : Pw} {tb : IsiT} {cs : List Nat} (a : AllP (fun e => PySem.W.kitOne W.K (tyVal W e.1.1) (tyVal W e.1.2) = some e.2) tb) (b : AllP (fun c => IsiC W.K (W.cl c)) cs) (hc : (tb.all fun e => match e.1.1 with
    | .inl _ => true
    | .inr c => cs.contains c) = true) : IsiOk W tb := by
  refine ⟨fun t u r h => allP a _ (isi_mem h), fun c u r h => ?_⟩
  have m := List.all_eq_true.mp hc _ (isi_mem h)
  exact allP b c (by simpa using m)
/-- an own class at C -/
structure ClsC (K : PySem.W.Frag) (mg : Str → Option Value) (C : Addr) (c : Cdf) : Prop where
  here : mg c.nm = some (.ref C)
  pg : PySem.W.plainGet K C Str.empty = true
  hd : PySem.W.hasDictIn K C = true
  po : PySem.W.plainOver K C = true
  sa : PySem.W.findIn K (.ref C) "__setattr__" = some (some (.builtin "object.__setattr__"))
  fld : AllP (fun f => PySem.W.findIn K (.ref C) f = some none) c.flds
  ini : IoB c.ini ∧ ∃ f fd its dv, Mk K C f ∧ DefAt K c.ini f fd ∧ Vals dv its ∧ (∀ W G, RpAll W G dv c.ini.ds) ∧ ∀ sh ∈ c.ini.shs, ShOk1 K fd c.ini.ps its sh
  ms : AllP (fun d => IoB d ∧ ∃ f fd its, Meth K C d.nm f ∧ DefAt K d f fd ∧ Vals (d.ds.map dV) its ∧ ∀ sh ∈ d.shs, ShOk1 K fd d.ps its sh) c.ms
  cms : AllP (fun d => IoB d ∧ ∃ mc p g, ClX.CRead K C mc ∧ ClX.CMet K C mc d.nm p g ∧ OwnD K d.ps.length g d) c.cms
  props : AllP (fun q => ∃ p g, PropOf K C q.1 p g ∧ OwnD K 1 g q.2) c.props
  bins : AllP (fun q => ∃ f, OwnBin K C f q.1 ∧ OwnD K 2 f q.2) c.bins
  rbins : AllP (fun q => ∃ f, OwnRBin K C f q.1 ∧ OwnD K 2 f q.2) c.rbins
  uns : AllP (fun q => ∃ f, OwnUn K C f q.1 ∧ OwnD K 1 f q.2) c.uns
  eq : ∀ d, c.eq = some d → (∃ f, OwnEq K C f ∧ OwnD K 2 f d) ∧ ∀ T ∈ eqTys, PySem.W.notFirst K C (.type T) = true
  cvals : AllP (fun q => ∃ mc v u, ClX.CRead K C mc ∧ ClX.CVal K C mc q.1 v u ∧ ∀ W G, Rp W G v q.2) c.cvals
theorem ClsC.clsD {K : PySem.W.Frag} {mg : Str → Option Value} {W : Pw} {C : Addr} {c : Cdf} (h : ClsC K mg C c) (e : W.cl c.c = C) : ClsD K mg W c := by
  subst e
  refine ⟨h.here, ⟨h.pg, h.hd, h.po, h.sa⟩, allP h.fld, ?_, allP h.ms, allP h.cms, allP h.props, allP h.bins, allP h.rbins, allP h.uns, h.eq, fun f d q => ?_⟩
  · obtain ⟨q1, f, fd, its, dv, q2, q3, q4, q5, q6⟩ := h.ini
    exact ⟨q1, f, fd, its, dv, q2, q3, q4, fun G => q5 W G, q6⟩
  · obtain ⟨mc, v, u, q1, q2, q3⟩ := allP h.cvals _ (mem_of_lookup q)
    exact ⟨mc, v, u, q1, q2, fun G => q3 W G⟩
end Den
end

section
set_option Elab.async false
set_option linter.all false
set_option maxRecDepth 100000
set_option maxHeartbeats 4000000
/-! DenEv: what a denotation answers, rule by rule. -/
namespace Den
open PySem L2
inductive SetAt {α : Type} : List α → Nat → α → List α → Prop
  | zero {a : α} {l : List α} {x : α} : SetAt (a :: l) 0 x (x :: l)
  | succ {a : α} {l : List α} {i : Nat} {x : α} {l' : List α} : SetAt l i x l' → SetAt (a :: l) (i + 1) x (a :: l')
theorem SetAt.eq {α : Type} {x : α} : ∀ {l : List α} {i : Nat} {l' : List α}, SetAt l i x l' → l.set i x = l'
  | _, _, _, .zero => rfl
  | _, _, _, .succ h => by rw [List.set_cons_succ, SetAt.eq h]
section
variable {env e1 e2 e3 e4 : Env'} {P P' P'' : PF} {A A' : PAF}
theorem ev_c {d : D} : pC d env = some (.dat d, env) := rfl
theorem ev_vd {i : Nat} {d : D} (h : env[i]? = some (.dat d)) : pVar i env = some (.dat d, env) := by unfold pVar; rw [h]
theorem ev_vo {i : Nat} {d : D} (h : env[i]? = some (.own d)) : pVar i env = some (.slot i, env) := by unfold pVar; rw [h]
theorem ev_vb {i : Nat} {d : D} (h : env[i]? = some (.bor d)) : pVar i env = some (.slot i, env) := by unfold pVar; rw [h]
theorem ev_bin {f : D → D → Option RV} {a b z : RV} {x y : D} (h1 : P env = some (a, e1)) (h2 : P' e1 = some (b, e2)) (h3 : a.cont e2 = some x) (h4 : b.cont e2 = some y) (h5 : f x y = some z) : pBin f P P' env = some (z, e2) := by
  simp only [pBin, h1, h2, h3, h4, h5, Option.bind_eq_bind, Option.bind_some]
/-- what stands behind the operands -/
def binK (l r : Nat → Option DF) (f : D → D → Option RV) (a b : RV) (e2 : Env') : Option (RV × Env') := match a.cls with
  | some c => (l c).bind fun F => if sideB c b then fnTail [false, false] F [a, b] e2 else none
  | none => match b.cls with
    | some c => (r c).bind fun F => if intB a then fnTail [false, false] F [b, a] e2 else none
    | none => (a.cont e2).bind fun x => (b.cont e2).bind fun y => (f x y).bind fun z => some (z, e2)
theorem ev_binV {l r : Nat → Option DF} {f : D → D → Option RV} {a b : RV} {o : RV × Env'} (h1 : P env = some (a, e1)) (h2 : P' e1 = some (b, e2)) (h3 : binK l r f a b e2 = some o) : pBinV l r f P P' env = some o := by
  unfold pBinV
  rw [h1]; show Option.bind (P' e1) _ = _
  rw [h2]; exact h3
theorem binK_l {l r : Nat → Option DF} {f : D → D → Option RV} {a b : RV} {c : Nat} {F : DF} {o : RV × Env'} (h1 : a.cls = some c) (h2 : l c = some F) (h3 : sideB c b = true) (h4 : fnTail [false, false] F [a, b] e2 = some o) : binK l r f a b e2 = some o := by
  unfold binK
  rw [h1]; show Option.bind (l c) _ = _
  rw [h2]; show (if _ then _ else _) = _
  rw [if_pos h3]; exact h4
theorem binK_r {l r : Nat → Option DF} {f : D → D → Option RV} {a b : RV} {c : Nat} {F : DF} {o : RV × Env'} (h0 : a.cls = none) (h1 : b.cls = some c) (h2 : r c = some F) (h3 : intB a = true) (h4 : fnTail [false, false] F [b, a] e2 = some o) : binK l r f a b e2 = some o := by
  unfold binK
  rw [h0]; show (match b.cls with | some c => _ | none => _) = _
  rw [h1]; show Option.bind (r c) _ = _
  rw [h2]; show (if _ then _ else _) = _
  rw [if_pos h3]; exact h4
theorem binK_d {l r : Nat → Option DF} {f : D → D → Option RV} {a b z : RV} {x y : D} (h0 : a.cls = none) (h1 : b.cls = none) (h3 : a.cont e2 = some x) (h4 : b.cont e2 = some y) (h5 : f x y = some z) : binK l r f a b e2 = some (z, e2) := by
  unfold binK
  rw [h0]; show (match b.cls with | some c => _ | none => _) = _
  rw [h1]; show Option.bind _ _ = _
  simp only [h3, h4, h5, Option.bind_some]
def unK (l : Nat → Option DF) (f : D → Option RV) (a : RV) (e1 : Env') : Option (RV × Env') := match a.cls with
  | some c => (l c).bind fun F => fnTail [false] F [a] e1
  | none => (a.cont e1).bind fun x => (f x).bind fun z => some (z, e1)
theorem ev_unV {l : Nat → Option DF} {f : D → Option RV} {a : RV} {o : RV × Env'} (h1 : P env = some (a, e1)) (h3 : unK l f a e1 = some o) : pUnV l f P env = some o := by
  unfold pUnV
  rw [h1]; exact h3
theorem unK_l {l : Nat → Option DF} {f : D → Option RV} {a : RV} {c : Nat} {F : DF} {o : RV × Env'} (h1 : a.cls = some c) (h2 : l c = some F) (h4 : fnTail [false] F [a] e1 = some o) : unK l f a e1 = some o := by
  unfold unK
  rw [h1]; show Option.bind (l c) _ = _
  rw [h2]; exact h4
theorem unK_d {l : Nat → Option DF} {f : D → Option RV} {a z : RV} {x : D} (h0 : a.cls = none) (h3 : a.cont e1 = some x) (h5 : f x = some z) : unK l f a e1 = some (z, e1) := by
  unfold unK
  rw [h0]; show Option.bind _ _ = _
  simp only [h3, h5, Option.bind_some]
def cmpK (neg : Bool) (l : Nat → Option DF) (f : D → D → Option RV) (a b : RV) (e2 : Env') : Option (RV × Env') := match a.cls with
  | some c => (l c).bind fun F => if eqSideB c b then trO neg (fnTail [false, false] F [a, b] e2) else none
  | none => (a.cont e2).bind fun x => (b.cont e2).bind fun y => (f x y).bind fun z => some (z, e2)
theorem ev_cmpV {neg : Bool} {l : Nat → Option DF} {f : D → D → Option RV} {a b : RV} {o : RV × Env'} (h1 : P env = some (a, e1)) (h2 : P' e1 = some (b, e2)) (h3 : cmpK neg l f a b e2 = some o) : pCmpV neg l f P P' env = some o := by
  unfold pCmpV
  rw [h1]; show Option.bind (P' e1) _ = _
  rw [h2]; exact h3
theorem cmpK_l {neg : Bool} {l : Nat → Option DF} {f : D → D → Option RV} {a b : RV} {c : Nat} {F : DF} {v : Bool} (h1 : a.cls = some c) (h2 : l c = some F) (h3 : eqSideB c b = true) (h4 : fnTail [false, false] F [a, b] e2 = some (.dat (.bl v), e3)) : cmpK neg l f a b e2 = some (.dat (.bl (if neg then !v else v)), e3) := by
  unfold cmpK
  rw [h1]; show Option.bind (l c) _ = _
  rw [h2]; show (if _ then _ else _) = _
  rw [if_pos h3, h4]; rfl
theorem cmpK_d {neg : Bool} {l : Nat → Option DF} {f : D → D → Option RV} {a b z : RV} {x y : D} (h0 : a.cls = none) (h3 : a.cont e2 = some x) (h4 : b.cont e2 = some y) (h5 : f x y = some z) : cmpK neg l f a b e2 = some (z, e2) := by
  unfold cmpK
  rw [h0]; show Option.bind _ _ = _
  simp only [h3, h4, h5, Option.bind_some]
def attrK (l : Nat → Option DF) (ok : Nat → Str → Bool) (f : Str) (a : RV) (e1 : Env') : Option (RV × Env') := match a.cls with
  | some c => (match l c with
    | some F => fnTail [false] F [a] e1
    | none => fldV ok f a e1)
  | none => fldV ok f a e1
theorem ev_attrV {l : Nat → Option DF} {ok : Nat → Str → Bool} {f : Str} {a : RV} {o : RV × Env'} (h1 : P env = some (a, e1)) (h3 : attrK l ok f a e1 = some o) : pAttrV l ok f P env = some o := by
  unfold pAttrV
  rw [h1]; exact h3
theorem attrK_l {l : Nat → Option DF} {ok : Nat → Str → Bool} {f : Str} {a : RV} {c : Nat} {F : DF} {o : RV × Env'} (h1 : a.cls = some c) (h2 : l c = some F) (h4 : fnTail [false] F [a] e1 = some o) : attrK l ok f a e1 = some o := by
  unfold attrK
  rw [h1]; show (match l c with | some F => _ | none => _) = _
  rw [h2]; exact h4
theorem fldV_of {ok : Nat → Str → Bool} {f : Str} {a : RV} {c : Nat} {fs : List (Str × D)} {z : D} (h1 : a.cont e1 = some (.obj c fs)) (h2 : ok c f = true) (h3 : fs.lookup f = some z) : fldV ok f a e1 = some (.dat z, e1) := by
  unfold fldV
  rw [h1]; show (if _ then _ else _) = _
  rw [if_pos h2, h3]; rfl
theorem attrK_f {l : Nat → Option DF} {ok : Nat → Str → Bool} {f : Str} {a : RV} {c : Nat} {o : RV × Env'} (h1 : a.cls = some c) (h2 : l c = none) (h4 : fldV ok f a e1 = some o) : attrK l ok f a e1 = some o := by
  unfold attrK
  rw [h1]; show (match l c with | some F => _ | none => _) = _
  rw [h2]; exact h4
theorem attrK_s {l : Nat → Option DF} {ok : Nat → Str → Bool} {f : Str} {a : RV} {o : RV × Env'} (h1 : a.cls = none) (h4 : fldV ok f a e1 = some o) : attrK l ok f a e1 = some o := by
  unfold attrK
  rw [h1]; exact h4
def reprK (l : Nat → Option DF) (rs : List RV) (e1 : Env') : Option (RV × Env') := match rs with
  | [ra] => (match ra.cls with
    | some c => (l c).bind fun F => strsO (fnTail [false] F [ra] e1)
    | none => (ra.cont e1).bind fun d => (reprD [d]).bind fun z => some (z, e1))
  | _ => none
theorem ev_reprV {l : Nat → Option DF} {rs : List RV} {o : RV × Env'} (h1 : A env = some (rs, e1)) (h3 : reprK l rs e1 = some o) : pReprV l A env = some o := by
  unfold pReprV
  rw [h1]; exact h3
theorem reprK_l {l : Nat → Option DF} {a : RV} {c : Nat} {F : DF} {x : Str} (h1 : a.cls = some c) (h2 : l c = some F) (h4 : fnTail [false] F [a] e1 = some (.dat (.str x), e2)) : reprK l [a] e1 = some (.dat (.str x), e2) := by
  unfold reprK
  dsimp only
  rw [h1]; show Option.bind (l c) _ = _
  rw [h2]; show strsO _ = _
  rw [h4]; rfl
theorem reprK_d {l : Nat → Option DF} {a z : RV} {x : D} (h0 : a.cls = none) (h3 : a.cont e1 = some x) (h5 : reprD [x] = some z) : reprK l [a] e1 = some (z, e1) := by
  unfold reprK
  dsimp only
  rw [h0]; show Option.bind _ _ = _
  simp only [h3, h5, Option.bind_some]
inductive BackAt : Env' → List Bool → List RV → List SV → Env' → Prop
  | nil {env : Env'} : BackAt env [] [] [] env
  | slot {env e1 e2 : Env'} {j : Nat} {d : D} {io : List Bool} {rvs : List RV} {outs : List SV} : SetAt env j (.own d) e1 → BackAt e1 io rvs outs e2 → BackAt env (true :: io) (.slot j :: rvs) (.own d :: outs) e2
  | own {env e2 : Env'} {d d' : D} {io : List Bool} {rvs : List RV} {outs : List SV} : BackAt env io rvs outs e2 → BackAt env (true :: io) (.own d :: rvs) (.own d' :: outs) e2
  | dat {env e2 : Env'} {r : RV} {s : SV} {io : List Bool} {rvs : List RV} {outs : List SV} : BackAt env io rvs outs e2 → BackAt env (false :: io) (r :: rvs) (s :: outs) e2
theorem BackAt.eq {env e2 : Env'} {io : List Bool} {rvs : List RV} {outs : List SV} (h : BackAt env io rvs outs e2) : backE env io rvs outs = some e2 := by
  induction h with
  | nil => rfl
  | slot h1 _ ih => rw [← ih, ← h1.eq]; rfl
  | own _ ih => rw [← ih]; rfl
  | @dat env e2 r s io rvs outs _ ih => rw [← ih]; cases r <;> cases s <;> rfl
theorem bne_self (s : Str) : (!(s == s)) = false := by simp
theorem tail_of {io : List Bool} {F : DF} {rvs : List RV} {pe outs : List SV} {rv : RV} {d : D} (h0 : io.length = rvs.length) (h00 : onceB io rvs [] = true) (h1 : passE e1 io rvs = some pe) (h2 : F pe = some (rv, outs)) (h3' : BackAt e1 io rvs outs e2) (h4 : rv.dt = some d) : fnTail io F rvs e1 = some (rv, e2) := by
  have h3 := h3'.eq
  unfold fnTail
  rw [if_pos ⟨h0, h00⟩, h1]; show Option.bind (F pe) _ = _
  rw [h2]; show Option.bind (backE e1 io rvs outs) _ = _
  rw [h3]
  cases rv <;> first | rfl | cases h4
theorem pFn_tail {io : List Bool} {F : DF} : pFn io F A env = (A env).bind fun a => fnTail io F a.1 a.2 := by
  unfold pFn fnTail
  cases A env with
  | none => rfl
  | some a =>
    obtain ⟨rvs, e1⟩ := a
    show (if _ then _ else _) = (if _ then _ else _)
    split
    · show Option.bind _ _ = Option.bind _ _
      cases passE e1 io rvs with
      | none => rfl
      | some pe =>
        show Option.bind (F pe) _ = Option.bind (F pe) _
        cases F pe with
        | none => rfl
        | some r =>
          show Option.bind (backE e1 io rvs r.2) _ = Option.bind (backE e1 io rvs r.2) _
          cases backE e1 io rvs r.2 with
          | none => rfl
          | some e2 => obtain ⟨rv, o⟩ := r; cases rv <;> rfl
    · rfl
theorem ev_aNil : aNil env = some ([], env) := rfl
theorem ev_aCons {r : RV} {rs : List RV} (h1 : P env = some (r, e1)) (h2 : A e1 = some (rs, e2)) : aCons P A env = some (r :: rs, e2) := by
  simp only [aCons, h1, h2, Option.bind_eq_bind, Option.bind_some]
theorem ev_aApp {rs rs' : List RV} (h1 : A env = some (rs, e1)) (h2 : A' e1 = some (rs', e2)) : aApp A A' env = some (rs ++ rs', e2) := by
  simp only [aApp, h1, h2, Option.bind_eq_bind, Option.bind_some]
theorem ev_aSel {m : Nat} {is : List Nat} {ds : List D} {rs sel : List RV} (h1 : A env = some (rs, e1)) (h2 : rs.length = m) (h3 : pick is (rs ++ ds.map RV.dat) = sel) : aSel m is ds A env = some (sel, e1) := by
  simp only [aSel, h1, h2, h3, Option.bind_eq_bind, Option.bind_some, if_true]
theorem ev_fnS {io : List Bool} {F : DF} {sh : Shp} {ds : List D} {rs : List RV} {o : RV × Env'} (h1 : aSel (sh.n + sh.ks.length) sh.is ds (aApp A A') env = some (rs, e1)) (h2 : fnTail io F rs e1 = some o) : pFnS io F sh ds A A' env = some o := by
  unfold pFnS
  rw [pFn_tail, h1]; exact h2
theorem ev_cm {io : List Bool} {F : DF} {c : Nat} {rs : List RV} {o : RV × Env'} (h1 : aCons (pC (.kls c)) A env = some (rs, e1)) (h2 : fnTail (false :: io) F rs e1 = some o) : pCm io F c A env = some o := by
  unfold pCm
  rw [pFn_tail, h1]; exact h2
theorem ev_mkS {c : Nat} {io : List Bool} {F : DF} {sh : Shp} {ds : List D} {rs : List RV} {pe outs : List SV} {d : D} (h1 : aSel (sh.n + sh.ks.length) sh.is ds (aApp A A') env = some (rs, e1)) (h2 : io.length = rs.length) (h3 : onceB (true :: io) (.own (.obj c []) :: rs) [] = true)
    (h4 : passE e1 (true :: io) (.own (.obj c []) :: rs) = some pe) (h5 : F pe = some (.dat .non, .own d :: outs)) (h6' : BackAt e1 (true :: io) (.own (.obj c []) :: rs) (.own d :: outs) e2) : pMkS c io F sh ds A A' env = some (.own d, e2) := by
  have h6 := h6'.eq
  unfold pMkS pMk
  rw [h1]; show (if _ then _ else _) = _
  rw [if_pos ⟨h2, h3⟩, h4]; show Option.bind (F pe) _ = _
  rw [h5]; show Option.bind (backE _ _ _ _) _ = _
  rw [h6]; rfl
theorem ev_mkL {i c : Nat} {mk : Nat → Option PF} {o : RV × Env'} (h1 : env[i]? = some (.dat (.kls c))) (h2 : mk c = some P) (h3 : P env = some o) : pMkL i mk env = some o := by
  unfold pMkL
  rw [h1]; show (match mk c with | some P => _ | none => _) = _
  rw [h2]; exact h3
theorem ev_methS {ms : Nat → Option Mi} {m : Str} {a : RV} {c : Nat} {fs : List (Str × D)} {q : Mi} {rs : List RV} {o : RV × Env'} (h1 : P env = some (a, e1)) (h2 : a.objf = some (c, fs)) (h3 : ms c = some q) (h4 : fs.lookup m = none) (h5 : aSel (q.sh.n + q.sh.ks.length) q.sh.is q.ds (aApp A A') e1 = some (rs, e2)) (h6 : fnTail (false :: q.io) q.F (a :: rs) e2 = some o) : pMethS ms m P A A' env = some o := by
  unfold pMethS
  rw [h1]; show (match a.objf with | some (c, fs) => _ | none => _) = _
  rw [h2]; show Option.bind (ms c) _ = _
  rw [h3]; show (if _ then _ else _) = _
  rw [if_pos h4, h5]; exact h6
theorem ev_call {f : List D → Option RV} {rs : List RV} {ds : List D} {z : RV} (h1 : A env = some (rs, e1)) (h2 : conts e1 rs = some ds) (h3 : f ds = some z) : pCall f A env = some (z, e1) := by
  simp only [pCall, h1, h2, h3, Option.bind_eq_bind, Option.bind_some]
theorem ev_tup {rs : List RV} {ds : List D} (h1 : A env = some (rs, e1)) (h2 : dts rs = some ds) (h3 : Nat.ble ds.length sizeLine = true) : pTup A env = some (.dat (.tup ds), e1) := by
  simp only [pTup, h1, h2, Option.bind_eq_bind, Option.bind_some, if_pos (Nat.le_of_ble_eq_true h3)]
theorem ev_lst {rs : List RV} {ds : List D} (h1 : A env = some (rs, e1)) (h2 : dts rs = some ds) (h3 : Nat.ble ds.length sizeLine = true) : pLst A env = some (.own (.lst ds), e1) := by
  simp only [pLst, h1, h2, Option.bind_eq_bind, Option.bind_some, if_pos (Nat.le_of_ble_eq_true h3)]
theorem ev_not {a : RV} {x : D} {b : Bool} (h1 : P env = some (a, e1)) (h2 : a.cont e1 = some x) (h3 : truthD x = some b) : pNot P env = some (.dat (.bl (!b)), e1) := by
  simp only [pNot, pUn, h1, h2, h3, Option.bind_eq_bind, Option.bind_some, Option.map_some]
def iteK {α : Type} (b : Bool) (x y : α) : α := if b then x else y
theorem iteK_t {α : Type} {b : Bool} {x y o : α} (h : b = true) (h1 : x = o) : iteK b x y = o := by subst h; exact h1
theorem iteK_f {α : Type} {b : Bool} {x y o : α} (h : b = false) (h1 : y = o) : iteK b x y = o := by subst h; exact h1
theorem ev_if {c : BF} {b : Bool} {o : RV × Env'} (h1 : c env = some (b, e1)) (h2 : iteK b (P e1) (P' e1) = some o) : pIf c P P' env = some o := by
  unfold pIf
  rw [h1]; exact h2
theorem ev_and {a : RV} {x : D} {b : Bool} {o : RV × Env'} (h1 : P env = some (a, e1)) (h2 : a.cont e1 = some x) (h3 : truthD x = some b) (h4 : iteK b (P' e1) (some (a, e1)) = some o) : pAnd P P' env = some o := by
  simp only [pAnd, h1, h2, h3, Option.bind_eq_bind, Option.bind_some]
  exact h4
theorem ev_or {a : RV} {x : D} {b : Bool} {o : RV × Env'} (h1 : P env = some (a, e1)) (h2 : a.cont e1 = some x) (h3 : truthD x = some b) (h4 : iteK b (some (a, e1)) (P' e1) = some o) : pOr P P' env = some o := by
  simp only [pOr, h1, h2, h3, Option.bind_eq_bind, Option.bind_some]
  exact h4
theorem ev_bVal {b : Bool} (h1 : P env = some (.dat (.bl b), e1)) : bVal P env = some (b, e1) := by
  unfold bVal
  rw [h1]
theorem ev_bTruth {a : RV} {x : D} {b : Bool} (h1 : P env = some (a, e1)) (h2 : a.cont e1 = some x) (h3 : truthD x = some b) : bTruth P env = some (b, e1) := by
  simp only [bTruth, h1, h2, h3, Option.bind_eq_bind, Option.bind_some]
section
variable {c c' : BF} {b : Bool}
theorem ev_bNot (h1 : c env = some (b, e1)) : bNot c env = some (!b, e1) := by unfold bNot; rw [h1]; rfl
theorem ev_bAnd {o : Bool × Env'} (h1 : c env = some (b, e1)) (h2 : iteK b (c' e1) (some (false, e1)) = some o) : bAnd c c' env = some o := by
  unfold bAnd
  rw [h1]; exact h2
theorem ev_bOr {o : Bool × Env'} (h1 : c env = some (b, e1)) (h2 : iteK b (some (true, e1)) (c' e1) = some o) : bOr c c' env = some o := by
  unfold bOr
  rw [h1]; exact h2
end
theorem ev_zip {ds es : List D} (h1 : A env = some ([.dat (.lst ds), .dat (.lst es)], e1)) : iZipF A env = some (zipD ds es, e1) := by
  simp only [iZipF, h1, Option.bind_eq_bind, Option.bind_some]
theorem ev_walk {r : RV} {ds : List D} (h1 : P env = some (r, e1)) (h2 : itemsD r = some ds) : iWalk P env = some (ds, e1) := by
  simp only [iWalk, h1, h2, Option.bind_eq_bind, Option.bind_some]
theorem ev_rng1 {j : Int} (h1 : A env = some ([.dat (.int j)], e1)) (h2 : -(2 ^ 62) ≤ j ∧ j < 2 ^ 62) : iRange1 A env = some (rangeD 0 j.toNat, e1) := by
  simp only [iRange1, h1, Option.bind_eq_bind, Option.bind_some, if_pos h2]
inductive WipeAt (env : Env') : List Nat → Env' → Prop
  | nil : WipeAt env [] env
  | cons {i : Nat} {vs : List Nat} {e1 e2 : Env'} : WipeAt env vs e1 → SetAt e1 i .und e2 → WipeAt env (i :: vs) e2
theorem WipeAt.eq {env e : Env'} {vs : List Nat} (h : WipeAt env vs e) : wipeE env vs = e := by
  induction h with
  | nil => rfl
  | cons h1 h2 ih => unfold wipeE; rw [ih, h2.eq]
theorem ev_lc {vs : List Nat} {w : IF} {g : GF} {c : BF} {ds ys : List D} (h1 : w env = some (ds, e1)) (h2 : Nat.ble ds.length sizeLine = true) (hw : WipeAt e1 vs e3) (h3 : lcF vs g c P ds e3 = some (ys, e2)) : pLc vs w g c P env = some (.own (.lst ys), e2) := by
  rw [← hw.eq] at h3
  simp only [pLc, h1, h3, Option.bind_eq_bind, Option.bind_some, if_pos (Nat.le_of_ble_eq_true h2)]
theorem lc_nil {vs : List Nat} {g : GF} {c : BF} : lcF vs g c P [] env = some ([], env) := rfl
theorem lc_cons {vs : List Nat} {g : GF} {c : BF} {d y : D} {ds ys : List D} {r : RV} {e5 : Env'} (h1 : g d env = some e1) (h2 : c e1 = some (true, e2)) (h3 : P e2 = some (r, e3)) (h4 : r.dt = some y) (hw : WipeAt e3 vs e5) (h5 : lcF vs g c P ds e5 = some (ys, e4)) : lcF vs g c P (d :: ds) env = some (y :: ys, e4) := by
  rw [← hw.eq] at h5
  simp only [lcF, h1, h2, h3, h4, h5, Option.bind_eq_bind, Option.bind_some, if_true]
theorem ev_gset {np i : Nat} {d : D} (h1 : pinned np env i = false) (h2 : SetAt env i (.dat d) e1) : gSet np i d env = some e1 := by
  unfold gSet
  rw [h1, h2.eq]; rfl
theorem ev_gtup {n : Nat} {Q : List D → Env' → Option Env'} {ds : List D} (h1 : ds.length = n) (h2 : Q ds env = some e1) : gTupF n Q (.tup ds) env = some e1 := by
  unfold gTupF
  dsimp only
  rw [if_pos h1]; exact h2
theorem ev_gsc {g : GF} {Q : List D → Env' → Option Env'} {d : D} {ds : List D} (h1 : g d env = some e1) (h2 : Q ds e1 = some e2) : gsCons g Q (d :: ds) env = some e2 := by
  unfold gsCons
  dsimp only
  rw [h1]; exact h2
theorem ev_gsn : gsNil [] env = some env := rfl
theorem ev_gix {i j : Nat} {d0 d : D} {k : Int} {xs xs' : List D} (h0 : env[i]? = some (.own d0)) (h1 : P env = some (.dat (.int k), e1)) (h2 : ownB env.length env e1 = true) (h3 : e1[i]? = some (.own (.lst xs))) (h4 : ixN xs.length k = some j) (h5 : SetAt xs j d xs') (h6 : SetAt e1 i (.own (.lst xs')) e2) : gIx2 i P d env = some e2 := by
  unfold gIx2
  rw [h0, h1]
  simp only [h2, h3, h4, h5.eq, h6.eq, if_true, Option.map_some]
def setSV : Bool → RV → Option SV
  | _, .dat d => some (.dat d)
  | true, .own d => some (.own d)
  | false, .own d => some (.dat d)
  | _, .slot _ => none
variable {S S' : SF} {np : Nat} {o : Out}
theorem ev_set {i : Nat} {mu : Bool} {r : RV} {s : SV} (h1 : P env = some (r, e1)) (h2 : ownB np env e1 = true) (h3 : pinned np e1 i = false) (h4 : setSV mu r = some s) (h5 : SetAt e1 i s e2) : sSet np i mu P env = some (.nx e2) := by
  unfold sSet
  rw [h1]
  simp only [Option.bind_eq_bind, Option.bind_some]
  rw [if_pos (by rw [h3]; simp only [Bool.not_false, Bool.and_true]; exact h2)]
  cases mu <;> cases r <;> cases h4 <;> simp only [h5.eq, if_true, Bool.false_eq_true, if_false]
theorem ev_par2 {i j : Nat} {rs : List RV} {d1 d2 : D} (h1 : A env = some (rs, e1)) (h2 : ownB np env e1 = true) (h3 : dts rs = some [d1, d2]) (h4 : pinned np e1 i = false) (h5 : SetAt e1 i (.dat d1) e2) (h6 : pinned np e2 j = false) (h7 : SetAt e2 j (.dat d2) e3) : sPar2 np i j A env = some (.nx e3) := by
  unfold sPar2
  rw [h1]
  simp only [Option.bind_eq_bind, Option.bind_some, h2, h3, h4, h5.eq, h6, h7.eq, if_true, Bool.not_false, Bool.and_true]
theorem ev_par3 {i j l : Nat} {rs : List RV} {d1 d2 d3 : D} (h1 : A env = some (rs, e1)) (h2 : ownB np env e1 = true) (h3 : dts rs = some [d1, d2, d3]) (h4 : pinned np e1 i = false) (h5 : SetAt e1 i (.dat d1) e2) (h6 : pinned np e2 j = false) (h7 : SetAt e2 j (.dat d2) e3) (h8 : pinned np e3 l = false) (h9 : SetAt e3 l (.dat d3) e4) : sPar3 np i j l A env = some (.nx e4) := by
  unfold sPar3
  rw [h1]
  simp only [Option.bind_eq_bind, Option.bind_some, h2, h3, h4, h5.eq, h6, h7.eq, h8, h9.eq, if_true, Bool.not_false, Bool.and_true]
theorem ev_asg {g : GF} {d : D} (h1 : P env = some (.dat d, e1)) (h2 : ownB np env e1 = true) (h3 : g d e1 = some e2) : sAsg np P g env = some (.nx e2) := by
  unfold sAsg
  rw [h1]
  simp only [Option.bind_eq_bind, Option.bind_some, h2, h3, if_true, Option.map_some]
theorem ev_exp {r : RV} (h1 : P env = some (r, e1)) (h2 : ownB np env e1 = true) : sExp np P env = some (.nx e1) := by
  unfold sExp
  rw [h1]
  simp only [Option.bind_eq_bind, Option.bind_some, h2, if_true]
theorem ev_mut {i : Nat} {f : D → List D → Option (D × D)} {xs ds : List D} {rs : List RV} {d d' ret : D} (h0 : env[i]? = some (.own (.lst xs))) (h1 : A env = some (rs, e1)) (h2 : dts rs = some ds) (h3 : e1[i]? = some (.own d)) (h4 : f d ds = some (ret, d')) (h5 : SetAt e1 i (.own d') e2) : pMut i f A env = some (.dat ret, e2) := by
  unfold pMut
  rw [h0]
  simp only [h1, h2, h3, h4, h5.eq, Option.bind_eq_bind, Option.bind_some]
theorem ev_sif {c : BF} {b : Bool} (h1 : c env = some (b, e1)) (h2 : ownB np env e1 = true) (h3 : iteK b (S e1) (S' e1) = some o) : sIf c np S S' env = some o := by
  unfold sIf
  rw [h1]; show (if _ then _ else _) = _
  rw [if_pos h2]; exact h3
def seqK (S' : SF) : Out → Option Out
  | .nx e => S' e
  | o => some o
theorem ev_seq {o1 : Out} (h1 : S env = some o1) (h2 : seqK S' o1 = some o) : sSeq S S' env = some o := by
  unfold sSeq
  rw [h1]
  cases o1 <;> exact h2
theorem seqK_nx (h : S' e1 = some o) : seqK S' (.nx e1) = some o := h
theorem ev_snil : sNil env = some (.nx env) := rfl
theorem fz_nil : fzE np env [] = env := rfl
theorem fz_own {i : Nat} {is : List Nat} {d : D} (h1 : env[i]? = some (.own d)) (h2 : Nat.ble np i = true) (h3 : SetAt env i (.dat d) e1) (h4 : fzE np e1 is = e2) : fzE np env (i :: is) = e2 := by
  have : ¬ i < np := Nat.not_lt.mpr (Nat.le_of_ble_eq_true h2)
  unfold fzE
  rw [h1]
  simp only [this, if_false, h3.eq, h4]
theorem ev_fz {is : List Nat} (h1 : fzE np env is = e1) (h2 : S e1 = some o) : sFz np is S env = some o := by
  unfold sFz
  rw [h1]; exact h2
def retK (np : Nat) (e1 : Env') : RV → Option Out
  | .dat d => some (.rt (.dat d) e1)
  | .own d => some (.rt (.own d) e1)
  | .slot i => match e1[i]? with
    | some (.own d) => if i < np then none else some (.rt (.own d) (e1.set i .und))
    | _ => none
theorem ev_ret {r : RV} (h1 : P env = some (r, e1)) (h2 : ownB np env e1 = true) (h3 : retK np e1 r = some o) : sRet np P env = some o := by
  unfold sRet
  rw [h1]
  simp only [Option.bind_eq_bind, Option.bind_some, h2, if_true]
  cases r <;> exact h3
theorem ev_fld {i c : Nat} {ok : Nat → Str → Bool} {f : Str} {r : RV} {y : D} {fs fs' : List (Str × D)} (h1 : P env = some (r, e1)) (h2 : ownB np env e1 = true) (h3 : r.dt = some y) (h4 : e1[i]? = some (.own (.obj c fs))) (h5 : ok c f = true) (h6 : Nat.blt fs.length 900 = true) (h7 : putD f y fs = fs') (h8 : SetAt e1 i (.own (.obj c fs')) e2) : sFldF np i ok f P env = some (.nx e2) := by
  have h6' : fs.length < 900 := Nat.le_of_ble_eq_true h6
  unfold sFldF
  rw [h1]
  simp only [Option.bind_eq_bind, Option.bind_some, h2, h3, h4, h5, h6', h7, h8.eq, decide_true, Bool.and_true, if_true]
def fnK (pe : List SV) : Out → Option (RV × List SV)
  | .rt (.dat d) env' => some (.dat d, outsOf pe env')
  | .rt (.own d) env' => some (.own d, outsOf pe env')
  | .nx env' => some (.dat .non, outsOf pe env')
  | _ => none
inductive Pad : List SV → Nat → Env' → Prop
  | nil : Pad [] 0 []
  | und {k : Nat} {l : Env'} : Pad [] k l → Pad [] (k + 1) (.und :: l)
  | cons {a : SV} {pe : List SV} {k : Nat} {l : Env'} : Pad pe k l → Pad (a :: pe) (k + 1) (a :: l)
theorem Pad.eq : ∀ {pe : List SV} {m : Nat} {e : Env'}, Pad pe m e → pe ++ List.replicate (m - pe.length) .und = e
  | _, _, _, .nil => rfl
  | _, _, _, .und h => by
    have := Pad.eq h
    simp only [List.length_nil, Nat.sub_zero, List.nil_append] at this ⊢
    rw [List.replicate_succ, this]
  | _, _, _, .cons h => by
    have := Pad.eq h
    rw [List.length_cons, Nat.add_sub_add_right, List.cons_append, this]
theorem ev_fn {m : Nat} {pe : List SV} {e0 : Env'} {o : Out} {r : RV × List SV} (hp : Pad pe m e0) (h1 : S e0 = some o) (h2 : fnK pe o = some r) : fnF m S pe = some r := by
  unfold fnF
  rw [hp.eq, h1]
  cases o with
  | rt rv e => cases rv <;> exact h2
  | _ => exact h2
/-- a for that never stops: what holds of the place, row by row -/
theorem loop_inv {g : GF} {I : Nat → Env' → Prop} : ∀ (ds : List D) (k : Nat) (env : Env'), I k env → (∀ i env d, ds[i]? = some d → I (k + i) env → ∃ e1 e2, g d env = some e1 ∧ S e1 = some (.nx e2) ∧ I (k + i + 1) e2) → ∃ e', loopF g S ds env = some (.nx e') ∧ I (k + ds.length) e'
  | [], k, env, h, _ => ⟨env, rfl, h⟩
  | d :: ds, k, env, h, st => by
    obtain ⟨e1, e2, h1, h2, h3⟩ := st 0 env d rfl h
    obtain ⟨e', h4, h5⟩ := loop_inv ds (k + 1) e2 (by simpa using h3) fun i env d' hd hI => by
      have := st (i + 1) env d' (by simpa using hd) (by rw [show k + (i + 1) = k + 1 + i by omega]; exact hI)
      rw [show k + (i + 1) + 1 = k + 1 + i + 1 by omega] at this
      exact this
    refine ⟨e', ?_, by rw [List.length_cons, show k + (ds.length + 1) = k + 1 + ds.length by omega]; exact h5⟩
    unfold loopF
    rw [h1]; show Option.bind (S e1) _ = _
    rw [h2]; exact h4
theorem ev_for {w : IF} {g : GF} {ds : List D} (h1 : w env = some (ds, e1)) (h2 : ownB np env e1 = true) (h3 : loopF g S ds e1 = some o) : sFor np w g S env = some o := by
  unfold sFor
  rw [h1]; show (if _ then _ else _) = _
  rw [if_pos h2]; exact h3
/-! numbers -/
theorem ev_mul {i j : Int} (h : i.natAbs.log2 + j.natAbs.log2 < 1000000) : mul3D (.int i) (.int j) = some (.dat (.int (i * j))) := by
  unfold mul3D
  dsimp only
  split <;> first | rfl | rw [if_pos h]
theorem ev_fdiv {i j : Int} (h : j ≠ 0) (hb : j.natAbs.log2 < 9000) : fdiv3D (.int i) (.int j) = some (.dat (.int (i.fdiv j))) := by
  unfold fdiv3D
  dsimp only
  split
  · rename_i q; rw [Int.fdiv_eq_ediv_of_nonneg _ (by omega)]
  · rw [if_pos ⟨h, hb⟩]
theorem ev_mod {i j : Int} (h : 0 < j) : modD (.int i) (.int j) = some (.dat (.int (i % j))) := by
  unfold modD intD
  dsimp only
  rw [if_pos (by simpa using h)]
theorem ev_pow {i j : Int} (h0 : 0 ≤ j) (h : j ≤ 1000000) (h1 : i.natAbs < 2 ^ 64) : powD (.int i) (.int j) = some (.dat (.int (i ^ j.toNat))) := by
  unfold powD intD
  dsimp only
  rw [if_pos (by simp [h0, h]; exact h1)]
theorem ev_divmod {i j : Int} (h0 : 0 < j) (h : j < 1073741824) : divmodD [.int i, .int j] = some (.dat (.tup [.int (i / j), .int (i % j)])) := by
  unfold divmodD
  dsimp only
  rw [if_pos ⟨h0, h⟩]
theorem ev_jsN {acc : Str} : pJs [] acc env = some (.dat (.str acc), env) := rfl
theorem ev_jsC {Ps : List PF} {acc y : Str} {o : RV × Env'} (h1 : P env = some (.dat (.str y), e1)) (h2 : (acc ++ y).length ≤ sizeLine) (h3 : pJs Ps (acc ++ y) e1 = some o) : pJs (P :: Ps) acc env = some o := by
  unfold pJs
  rw [h1]; show (if _ then _ else _) = _
  rw [if_pos h2]; exact h3
theorem ev_fmtI {i : Int} (h1 : P env = some (.dat (.int i), e1)) (h2 : i.natAbs.log2 < 1920) : pFmt P env = some (.dat (.str (toString i)), e1) := by
  unfold pFmt
  rw [h1]; show (if _ then _ else _) = _
  rw [if_pos h2]
theorem ev_strI {i : Int} (h2 : i.natAbs.log2 < 1920) : strD1 [.int i] = some (.dat (.str (toString i))) := by
  unfold strD1
  dsimp only
  rw [if_pos h2]
theorem ev_addS {x y : Str} (h : x.length + y.length ≤ sizeLine) : addD (.str x) (.str y) = some (.dat (.str (x ++ y))) := by
  unfold addD
  dsimp only
  rw [if_pos h]
inductive AppAt {α : Type} : List α → List α → List α → Prop
  | nil {l : List α} : AppAt [] l l
  | cons {a : α} {l m n : List α} : AppAt l m n → AppAt (a :: l) m (a :: n)
theorem AppAt.eq {α : Type} {l m n : List α} (h : AppAt l m n) : l ++ m = n := by
  induction h with
  | nil => rfl
  | cons _ ih => rw [List.cons_append, ih]
theorem ev_addL {xs ys zs : List D} (h : AppAt xs ys zs) (hl : Nat.ble zs.length sizeLine = true) : addD (.lst xs) (.lst ys) = some (.own (.lst zs)) := by
  have := Nat.le_of_ble_eq_true hl
  rw [← h.eq, List.length_append] at this
  unfold addD
  dsimp only
  rw [if_pos this, h.eq]
theorem ev_append {xs zs : List D} {y : D} (h : AppAt xs [y] zs) (hl : Nat.ble zs.length sizeLine = true) : appendD (.lst xs) [y] = some (.non, .lst zs) := by
  have := Nat.le_of_ble_eq_true hl
  rw [← h.eq, List.length_append] at this
  unfold appendD
  dsimp only
  rw [if_pos (show xs.length < sizeLine from by simp only [List.length_cons, List.length_nil] at this; omega), h.eq]
theorem ev_twice {x : D} : mul3D (.lst [x]) (.int 2) = some (.own (.lst [x, x])) := rfl
inductive ZipAt : List D → List D → List D → Prop
  | nil : ZipAt [] [] []
  | cons {a b : D} {l m n : List D} : ZipAt l m n → ZipAt (a :: l) (b :: m) (.tup [a, b] :: n)
theorem ZipAt.eq {l m n : List D} (h : ZipAt l m n) : zipD l m = n := by
  induction h with
  | nil => rfl
  | cons _ ih => rw [← ih]; rfl
theorem ev_zipA {ds es zs : List D} (h1 : A env = some ([.dat (.lst ds), .dat (.lst es)], e1)) (h2 : ZipAt ds es zs) : iZipF A env = some (zs, e1) := by
  rw [← h2.eq]; exact ev_zip h1
theorem ev_at {xs : List D} {i : Int} (h0 : 0 ≤ i) (h : i < xs.length) : ixD (.lst xs) (.int i) = some (.dat (xs.getD i.toNat .non)) := by
  have hn : i.toNat < xs.length := by omega
  show (atI xs i).map RV.dat = _
  unfold atI
  have : xs[i.toNat]? = some (xs.getD i.toNat .non) := by rw [List.getD_eq_getElem?_getD, List.getElem?_eq_getElem hn]; rfl
  first
    | simp [this, h0, h]; done
    | (simp only [ixN]; simp [this, h0, h]; done)
theorem ixN0 {a : D} {l : List D} : ixN (a :: l).length 0 = some 0 := by
  have : (0 : Int) < ((a :: l).length : Int) := by rw [List.length_cons]; omega
  unfold ixN
  rw [if_pos (Int.le_refl 0), if_pos this]; rfl
theorem ixN1 {a b : D} {l : List D} : ixN (a :: b :: l).length 1 = some 1 := by
  have : (1 : Int) < ((a :: b :: l).length : Int) := by rw [List.length_cons, List.length_cons]; omega
  unfold ixN
  rw [if_pos (by decide), if_pos this]; rfl
structure Ln (x : Str) (k : Nat) : Prop where
  le : x.length ≤ k
theorem Ln.app {x y : Str} {k l : Nat} (h : Ln x k) (h' : Ln y l) : Ln (x ++ y) (k + l) := ⟨by have := h.le; have := h'.le; rw [strLen_append]; omega⟩
theorem Ln.num {i : Int} (h : i.natAbs.log2 < 1920) : Ln (Str.ofString (toString i)) 1921 := ⟨by rw [ofString_length]; exact int_text_length_le (by decide) h⟩
theorem Ln.lit {s : String} : Ln (Str.ofString s) s.length := ⟨by rw [ofString_length]; exact Nat.le_refl _⟩
theorem Ln.emp : Ln Str.empty 0 := ⟨Nat.le_refl _⟩
theorem Ln.ok {x : Str} {k : Nat} (h : Ln x k) (hk : Nat.ble k sizeLine = true) : x.length ≤ sizeLine := Nat.le_trans h.le (Nat.le_of_ble_eq_true hk)
theorem Ln.ok2 {x y : Str} {k l : Nat} (h : Ln x k) (h' : Ln y l) (hk : Nat.ble (k + l) sizeLine = true) : x.length + y.length ≤ sizeLine := Nat.le_trans (Nat.add_le_add h.le h'.le) (Nat.le_of_ble_eq_true hk)
end
end Den
end

section
set_option Elab.async false
set_option linter.all false
set_option maxRecDepth 100000
set_option maxHeartbeats 4000000
namespace K51
open PySem L2 Den
abbrev top (i : Nat) : Stmt := PySem.Challenge.pw_walksback_k51_whole_fractions_reckoned.main.body.getD i (.Pass ⟨0, 0, 0, 0⟩)
abbrev s_is_integer : Stmt := top 5
def d_is_integer : Df := { nm := "is_integer", ps := ["value"], N := ["value"], names := (defScope s_is_integer).names, mu := [], io := [false], ds := [], shs := [⟨1, [], [0]⟩], fz := [], body := defBody s_is_integer }
abbrev s_ratio_of : Stmt := top 8
def d_ratio_of : Df := { nm := "ratio_of", ps := ["value"], N := ["value"], names := (defScope s_ratio_of).names, mu := [], io := [false], ds := [], shs := [⟨1, [], [0]⟩], fz := [], body := defBody s_ratio_of }
abbrev s_is_fraction : Stmt := top 9
def d_is_fraction : Df := { nm := "is_fraction", ps := ["value"], N := ["value", "number"], names := (defScope s_is_fraction).names, mu := [], io := [false], ds := [], shs := [⟨1, [], [0]⟩], fz := [], body := defBody s_is_fraction }
abbrev s__law_pot : Stmt := top 11
def d__law_pot : Df := { nm := "_law_pot", ps := ["_law_script", "_law_k"], N := ["_law_script", "_law_k", "_law_cell"], names := (defScope s__law_pot).names, mu := [], io := [false, false], ds := [], shs := [⟨2, [], [0, 1]⟩], fz := [], body := defBody s__law_pot }
abbrev s__law_draw : Stmt := top 12
def d__law_draw : Df := { nm := "_law_draw", ps := ["_law_pot_here", "_law_size"], N := ["_law_pot_here", "_law_size", "_law_digit"], names := (defScope s__law_draw).names, mu := [0], io := [true, false], ds := [], shs := [⟨2, [], [0, 1]⟩], fz := [], body := defBody s__law_draw }
abbrev s__law_pick : Stmt := top 13
def d__law_pick : Df := { nm := "_law_pick", ps := ["_law_pot_here", "_law_some"], N := ["_law_pot_here", "_law_some"], names := (defScope s__law_pick).names, mu := [0], io := [true, false], ds := [], shs := [⟨2, [], [0, 1]⟩], fz := [], body := defBody s__law_pick }
abbrev s__law_common : Stmt := top 14
def d__law_common : Df := { nm := "_law_common", ps := ["_law_one", "_law_other"], N := ["_law_one", "_law_other"], names := (defScope s__law_common).names, mu := [], io := [false, false], ds := [], shs := [⟨2, [], [0, 1]⟩], fz := [], body := defBody s__law_common }
abbrev s__law_lowest : Stmt := top 15
def d__law_lowest : Df := { nm := "_law_lowest", ps := ["_law_above", "_law_below"], N := ["_law_above", "_law_below", "_law_part"], names := (defScope s__law_lowest).names, mu := [], io := [false, false], ds := [], shs := [⟨2, [], [0, 1]⟩], fz := [], body := defBody s__law_lowest }
abbrev s__law_number : Stmt := top 16
def d__law_number : Df := { nm := "_law_number", ps := ["_law_pot_here"], N := ["_law_pot_here", "_law_small"], names := (defScope s__law_number).names, mu := [0], io := [true], ds := [], shs := [⟨1, [], [0]⟩], fz := [], body := defBody s__law_number }
abbrev s__law_is : Stmt := top 17
def d__law_is : Df := { nm := "_law_is", ps := ["_law_told", "_law_due"], N := ["_law_told", "_law_due"], names := (defScope s__law_is).names, mu := [], io := [false, false], ds := [], shs := [⟨2, [], [0, 1]⟩], fz := [], body := defBody s__law_is }
abbrev s__law_sum : Stmt := top 18
def d__law_sum : Df := { nm := "_law_sum", ps := ["_law_one", "_law_other"], N := ["_law_one", "_law_other"], names := (defScope s__law_sum).names, mu := [], io := [false, false], ds := [], shs := [⟨2, [], [0, 1]⟩], fz := [], body := defBody s__law_sum }
abbrev s__law_times : Stmt := top 19
def d__law_times : Df := { nm := "_law_times", ps := ["_law_one", "_law_other"], N := ["_law_one", "_law_other"], names := (defScope s__law_times).names, mu := [], io := [false, false], ds := [], shs := [⟨2, [], [0, 1]⟩], fz := [], body := defBody s__law_times }
abbrev s__law_two_right : Stmt := top 20
def d__law_two_right : Df := { nm := "_law_two_right", ps := ["_law_one", "_law_other"], N := ["_law_one", "_law_other", "_law_left", "_law_right_here", "_law_less", "_law_told", "_law_dues", "_law_are_same", "_law_made", "_law_due"], names := (defScope s__law_two_right).names, mu := [], io := [false, false], ds := [], shs := [⟨2, [], [0, 1]⟩], fz := [], body := defBody s__law_two_right }
abbrev s__law_whole_right : Stmt := top 21
def d__law_whole_right : Df := { nm := "_law_whole_right", ps := ["_law_one", "_law_number_here"], N := ["_law_one", "_law_number_here", "_law_made", "_law_whole", "_law_told", "_law_dues", "_law_part", "_law_due"], names := (defScope s__law_whole_right).names, mu := [4, 5], io := [false, false], ds := [], shs := [⟨2, [], [0, 1]⟩], fz := [[], [], [], [], [], [4, 5]], body := defBody s__law_whole_right }
abbrev s__law_rules_right : Stmt := top 22
def d__law_rules_right : Df := { nm := "_law_rules_right", ps := ["_law_one", "_law_other", "_law_third"], N := ["_law_one", "_law_other", "_law_third", "_law_left", "_law_right_here", "_law_far"], names := (defScope s__law_rules_right).names, mu := [], io := [false, false, false], ds := [], shs := [⟨3, [], [0, 1, 2]⟩], fz := [], body := defBody s__law_rules_right }
abbrev s__law_right : Stmt := top 23
def d__law_right : Df := { nm := "_law_right", ps := ["_law_pot_here"], N := ["_law_pot_here", "_law_some", "_law_turn", "_law_due", "_law_above", "_law_below", "_law_one", "_law_other", "_law_third"], names := (defScope s__law_right).names, mu := [0, 1], io := [true], ds := [], shs := [⟨1, [], [0]⟩], fz := [[], [], [1]], body := defBody s__law_right }
abbrev s_law : Stmt := top 24
def d_law : Df := { nm := "law", ps := ["_law_script"], N := ["_law_script", "_law_k"], names := (defScope s_law).names, mu := [], io := [false], ds := [], shs := [], fz := [], body := defBody s_law }
abbrev s_Ratio___init__ : Stmt := inClass (top 7) 0
def d_Ratio___init__ : Df := { nm := "__init__", ps := ["self", "above", "below"], N := ["self", "above", "below", "divisor"], names := (defScope s_Ratio___init__).names, mu := [0], io := [true, false, false], ds := [.int (1)], shs := [⟨1, [], [0, 1]⟩, ⟨2, [], [0, 1]⟩, ⟨0, ["below", "above"], [1, 0]⟩], fz := [], body := defBody s_Ratio___init__ }
abbrev s_Ratio_above : Stmt := inClass (top 7) 1
def d_Ratio_above : Df := { nm := "above", ps := ["self"], N := ["self"], names := (defScope s_Ratio_above).names, mu := [], io := [false], ds := [], shs := [], fz := [], body := defBody s_Ratio_above }
abbrev s_Ratio_below : Stmt := inClass (top 7) 2
def d_Ratio_below : Df := { nm := "below", ps := ["self"], N := ["self"], names := (defScope s_Ratio_below).names, mu := [], io := [false], ds := [], shs := [], fz := [], body := defBody s_Ratio_below }
abbrev s_Ratio_pair : Stmt := inClass (top 7) 3
def d_Ratio_pair : Df := { nm := "pair", ps := ["self"], N := ["self"], names := (defScope s_Ratio_pair).names, mu := [], io := [false], ds := [], shs := [⟨0, [], []⟩], fz := [], body := defBody s_Ratio_pair }
abbrev s_Ratio_of : Stmt := inClass (top 7) 4
def d_Ratio_of : Df := { nm := "of", ps := ["cls", "value"], N := ["cls", "value"], names := (defScope s_Ratio_of).names, mu := [], io := [false, false], ds := [], shs := [⟨1, [], [0]⟩], fz := [], body := defBody s_Ratio_of }
abbrev s_Ratio_over : Stmt := inClass (top 7) 5
def d_Ratio_over : Df := { nm := "over", ps := ["self", "other"], N := ["self", "other", "ratio"], names := (defScope s_Ratio_over).names, mu := [], io := [false, false], ds := [], shs := [⟨1, [], [0]⟩, ⟨0, ["other"], [0]⟩], fz := [], body := defBody s_Ratio_over }
abbrev s_Ratio___add__ : Stmt := inClass (top 7) 6
def d_Ratio___add__ : Df := { nm := "__add__", ps := ["self", "other"], N := ["self", "other", "ratio"], names := (defScope s_Ratio___add__).names, mu := [], io := [false, false], ds := [], shs := [], fz := [], body := defBody s_Ratio___add__ }
abbrev s_Ratio___radd__ : Stmt := inClass (top 7) 7
def d_Ratio___radd__ : Df := { nm := "__radd__", ps := ["self", "other"], N := ["self", "other"], names := (defScope s_Ratio___radd__).names, mu := [], io := [false, false], ds := [], shs := [], fz := [], body := defBody s_Ratio___radd__ }
abbrev s_Ratio___sub__ : Stmt := inClass (top 7) 8
def d_Ratio___sub__ : Df := { nm := "__sub__", ps := ["self", "other"], N := ["self", "other"], names := (defScope s_Ratio___sub__).names, mu := [], io := [false, false], ds := [], shs := [], fz := [], body := defBody s_Ratio___sub__ }
abbrev s_Ratio___rsub__ : Stmt := inClass (top 7) 9
def d_Ratio___rsub__ : Df := { nm := "__rsub__", ps := ["self", "other"], N := ["self", "other"], names := (defScope s_Ratio___rsub__).names, mu := [], io := [false, false], ds := [], shs := [], fz := [], body := defBody s_Ratio___rsub__ }
abbrev s_Ratio___mul__ : Stmt := inClass (top 7) 10
def d_Ratio___mul__ : Df := { nm := "__mul__", ps := ["self", "other"], N := ["self", "other", "ratio"], names := (defScope s_Ratio___mul__).names, mu := [], io := [false, false], ds := [], shs := [], fz := [], body := defBody s_Ratio___mul__ }
abbrev s_Ratio___rmul__ : Stmt := inClass (top 7) 11
def d_Ratio___rmul__ : Df := { nm := "__rmul__", ps := ["self", "other"], N := ["self", "other"], names := (defScope s_Ratio___rmul__).names, mu := [], io := [false, false], ds := [], shs := [], fz := [], body := defBody s_Ratio___rmul__ }
abbrev s_Ratio___neg__ : Stmt := inClass (top 7) 12
def d_Ratio___neg__ : Df := { nm := "__neg__", ps := ["self"], N := ["self"], names := (defScope s_Ratio___neg__).names, mu := [], io := [false], ds := [], shs := [], fz := [], body := defBody s_Ratio___neg__ }
abbrev s_Ratio___eq__ : Stmt := inClass (top 7) 13
def d_Ratio___eq__ : Df := { nm := "__eq__", ps := ["self", "other"], N := ["self", "other"], names := (defScope s_Ratio___eq__).names, mu := [], io := [false, false], ds := [], shs := [], fz := [], body := defBody s_Ratio___eq__ }
abbrev s_Ratio___repr__ : Stmt := inClass (top 7) 14
def d_Ratio___repr__ : Df := { nm := "__repr__", ps := ["self"], N := ["self"], names := (defScope s_Ratio___repr__).names, mu := [], io := [false], ds := [], shs := [], fz := [], body := defBody s_Ratio___repr__ }
def c_Ratio : Cdf := { nm := "Ratio", c := 0, flds := ["_above", "_below"], ini := d_Ratio___init__, cvals := [], ms := [d_Ratio_pair, d_Ratio_over], cms := [d_Ratio_of], props := [("above", d_Ratio_above), ("below", d_Ratio_below)], bins := [("add", d_Ratio___add__), ("sub", d_Ratio___sub__), ("mul", d_Ratio___mul__)], rbins := [("add", d_Ratio___radd__), ("sub", d_Ratio___rsub__), ("mul", d_Ratio___rmul__)], uns := [("__neg__", d_Ratio___neg__), ("__repr__", d_Ratio___repr__)], eq := some d_Ratio___eq__ }
def prg : Prg := { fuel := 60, dfs := [d_is_integer, d_ratio_of, d_is_fraction, d__law_pot, d__law_draw, d__law_pick, d__law_common, d__law_lowest, d__law_number, d__law_is, d__law_sum, d__law_times, d__law_two_right, d__law_whole_right, d__law_rules_right, d__law_right, d_law], cons := [], cls := [c_Ratio], isi := [((.inl "NoneType", .inr 0), false), ((.inl "bool", .inr 0), false), ((.inl "int", .inr 0), false), ((.inl "str", .inr 0), false), ((.inl "list", .inr 0), false), ((.inl "tuple", .inr 0), false), ((.inl "dict", .inr 0), false), ((.inr 0, .inr 0), true), ((.inr 0, .inl "bool"), false), ((.inr 0, .inl "int"), false), ((.inr 0, .inl "str"), false), ((.inr 0, .inl "list"), false), ((.inr 0, .inl "tuple"), false), ((.inr 0, .inl "dict"), false)], gcds := ["gcd"] }
end K51
end

section
set_option Elab.async false
set_option linter.all false
set_option maxRecDepth 100000
set_option maxHeartbeats 4000000
namespace K51
open PySem L2 Den PyProof.Rows
theorem tb_0 (n : Nat) : (tab prg (n+1)).okF 0 "_above" = true := by kernel_rfl!
theorem tb_1 (n : Nat) : (tab prg (n+1)).prop "_above" 0 = none := by kernel_rfl!
theorem tb_2 (n : Nat) : (tab prg (n+1)).okF 0 "_below" = true := by kernel_rfl!
theorem tb_3 (n : Nat) : (tab prg (n+1)).prop "_below" 0 = none := by kernel_rfl!
theorem tb_4 (n : Nat) : (tab prg (n+1)).prop "above" 0 = some (d_Ratio_above.F (tab prg n) 60) := by kernel_rfl!
theorem tb_5 (n : Nat) : (tab prg (n+1)).prop "below" 0 = some (d_Ratio_below.F (tab prg n) 60) := by kernel_rfl!
theorem tb_6 (n : Nat) : (tab prg (n+1)).msS "pair" 0 [] 0 = some ⟨[], (d_Ratio_pair.F (tab prg n) 60), [], ⟨0, [], []⟩⟩ := by kernel_rfl!
theorem tb_7 (n : Nat) : (tab prg (n+1)).msS "over" 1 [] 0 = some ⟨[false], (d_Ratio_over.F (tab prg n) 60), [], ⟨1, [], [0]⟩⟩ := by kernel_rfl!
theorem tb_8 (n : Nat) : (tab prg (n+1)).msS "over" 0 ["other"] 0 = some ⟨[false], (d_Ratio_over.F (tab prg n) 60), [], ⟨0, ["other"], [0]⟩⟩ := by kernel_rfl!
theorem tb_9 (n : Nat) : (tab prg (n+1)).binL "add" 0 = some (d_Ratio___add__.F (tab prg n) 60) := by kernel_rfl!
theorem tb_10 (n : Nat) : (tab prg (n+1)).binR "add" 0 = some (d_Ratio___radd__.F (tab prg n) 60) := by kernel_rfl!
theorem tb_11 (n : Nat) : (tab prg (n+1)).binL "sub" 0 = some (d_Ratio___sub__.F (tab prg n) 60) := by kernel_rfl!
theorem tb_12 (n : Nat) : (tab prg (n+1)).binR "sub" 0 = some (d_Ratio___rsub__.F (tab prg n) 60) := by kernel_rfl!
theorem tb_13 (n : Nat) : (tab prg (n+1)).binL "mul" 0 = some (d_Ratio___mul__.F (tab prg n) 60) := by kernel_rfl!
theorem tb_14 (n : Nat) : (tab prg (n+1)).binR "mul" 0 = some (d_Ratio___rmul__.F (tab prg n) 60) := by kernel_rfl!
theorem tb_15 (n : Nat) : (tab prg (n+1)).unL "__neg__" 0 = some (d_Ratio___neg__.F (tab prg n) 60) := by kernel_rfl!
theorem tb_16 (n : Nat) : (tab prg (n+1)).eqL 0 = some (d_Ratio___eq__.F (tab prg n) 60) := by kernel_rfl!
theorem tb_17 (n : Nat) : (tab prg (n+1)).unL "__repr__" 0 = some (d_Ratio___repr__.F (tab prg n) 60) := by kernel_rfl!
-- TB tb_0 tb_1 tb_2 tb_3 tb_4 tb_5 tb_6 tb_7 tb_8 tb_9 tb_10 tb_11 tb_12 tb_13 tb_14 tb_15 tb_16 tb_17
abbrev negD : D → Option RV := fun d => match d with
  | .int i => some (.dat (.int (-i)))
  | _ => none
theorem den_is_integer (n : Nat) : d_is_integer.F (tab prg (n+1)) 60 = fnF 1 (sSeq (sRet 1 (pAnd (pCall (isi2D prg.isi) (aCons (pVar 0) (aCons (pC (.typ "int")) aNil))) (pNot (pCall (isi2D prg.isi) (aCons (pVar 0) (aCons (pC (.typ "bool")) aNil)))))) sNil) := by kernel_rfl!
theorem den_ratio_of (n : Nat) : d_ratio_of.F (tab prg (n+1)) 60 = fnF 1 (sSeq (sIf (bTruth (pCall (isi2D prg.isi) (aCons (pVar 0) (aCons (pC (.kls 0)) aNil)))) 1 (sSeq (sRet 1 (pVar 0)) sNil) sNil) (sSeq (sRet 1 (pMkS 0 [false, false] (d_Ratio___init__.F (tab prg n) 60) ⟨1, [], [0, 1]⟩ [.int (1)] (aCons (pVar 0) aNil) aNil)) sNil)) := by kernel_rfl!
theorem den_is_fraction (n : Nat) : d_is_fraction.F (tab prg (n+1)) 60 = fnF 2 (sSeq (sIf (bOr (bNot (bTruth (pCall (isi2D prg.isi) (aCons (pVar 0) (aCons (pC (.typ "tuple")) aNil))))) (bOr (bVal (pCmpV true (tab prg (n+1)).eqL neD (pCall lenD (aCons (pVar 0) aNil)) (pC (.int (2))))) (bNot (bTruth (pCall allD (aCons (pLc [1] (iWalk (pVar 0)) (gSet 0 1) (fun env => some (true, env)) (pFnS [false] (d_is_integer.F (tab prg n) 60) ⟨1, [], [0]⟩ [] (aCons (pVar 1) aNil) aNil)) aNil)))))) 1 (sSeq (sRet 1 (pC (.bl false))) sNil) sNil) (sSeq (sRet 1 (pAnd (pBin (cmpD (fun i j => decide (j ≤ i)) fun i j => !ltS i j) (pBin ixD (pVar 0) (pC (.int (1)))) (pC (.int (1)))) (pCmpV false (tab prg (n+1)).eqL eqD (pCall gcdD (aCons (pBin ixD (pVar 0) (pC (.int (0)))) (aCons (pBin ixD (pVar 0) (pC (.int (1)))) aNil))) (pC (.int (1)))))) sNil)) := by kernel_rfl!
theorem den__law_pot (n : Nat) : d__law_pot.F (tab prg (n+1)) 60 = fnF 3 (sSeq (sSet 2 2 false (pBinV ((tab prg (n+1)).binL "add") ((tab prg (n+1)).binR "add") addD (pBinV ((tab prg (n+1)).binL "mul") ((tab prg (n+1)).binR "mul") mul3D (pC (.int (41))) (pVar 1)) (pC (.int (23))))) (sSeq (sIf (bVal (pBin (cmpD (fun i j => decide (i < j)) ltS) (pVar 1) (pCall lenD (aCons (pVar 0) aNil)))) 2 (sSeq (sSet 2 2 false (pCall absD (aCons (pBin ixD (pVar 0) (pVar 1)) aNil))) sNil) sNil) (sSeq (sRet 2 (pLst (aCons (pCall max2D (aCons (pC (.int (0))) (aCons (pBinV ((tab prg (n+1)).binL "sub") ((tab prg (n+1)).binR "sub") subD (pVar 2) (pBin powD (pC (.int (10))) (pC (.int (18))))) aNil))) (aCons (pBinV ((tab prg (n+1)).binL "add") ((tab prg (n+1)).binR "add") addD (pBin modD (pBinV ((tab prg (n+1)).binL "mul") ((tab prg (n+1)).binR "mul") mul3D (pCall int1D (aCons (pBinV ((tab prg (n+1)).binL "add") ((tab prg (n+1)).binR "add") addD (pBin modD (pCall int1D (aCons (pVar 2) aNil)) (pC (.int (2147483549)))) (pC (.int (23)))) aNil)) (pBin powD (pBinV ((tab prg (n+1)).binL "add") ((tab prg (n+1)).binR "add") addD (pBinV ((tab prg (n+1)).binL "mul") ((tab prg (n+1)).binR "mul") mul3D (pC (.int (2))) (pVar 1)) (pC (.int (5)))) (pC (.int (3))))) (pC (.int (2147483463)))) (pC (.int (1)))) aNil)))) sNil))) := by kernel_rfl!
theorem den__law_draw (n : Nat) : d__law_draw.F (tab prg (n+1)) 60 = fnF 3 (sSeq (sIf (bVal (pBin (cmpD (fun i j => decide (j < i)) fun i j => ltS j i) (pBin ixD (pVar 0) (pC (.int (0)))) (pC (.int (0))))) 2 (sSeq (sAsg 2 (pCall divmodD (aCons (pBin ixD (pVar 0) (pC (.int (0)))) (aCons (pVar 1) aNil))) (gTupF 2 (gsCons (gIx2 0 (pC (.int (0)))) (gsCons (gSet 2 2) gsNil)))) (sSeq (sRet 2 (pVar 2)) sNil)) sNil) (sSeq (sAsg 2 (pBin modD (pCall int1D (aCons (pBinV ((tab prg (n+1)).binL "add") ((tab prg (n+1)).binR "add") addD (pBinV ((tab prg (n+1)).binL "mul") ((tab prg (n+1)).binR "mul") mul3D (pBin ixD (pVar 0) (pC (.int (1)))) (pC (.int (48271)))) (pC (.int (288)))) aNil)) (pC (.int (2147483587)))) (gIx2 0 (pC (.int (1))))) (sSeq (sRet 2 (pBin modD (pCall int1D (aCons (pBin fdiv3D (pBin modD (pCall int1D (aCons (pBinV ((tab prg (n+1)).binL "mul") ((tab prg (n+1)).binR "mul") mul3D (pBin ixD (pVar 0) (pC (.int (1)))) (pBin ixD (pVar 0) (pC (.int (1))))) aNil)) (pC (.int (2147483549)))) (pC (.int (25)))) aNil)) (pVar 1))) sNil))) := by kernel_rfl!
theorem den__law_pick (n : Nat) : d__law_pick.F (tab prg (n+1)) 60 = fnF 2 (sSeq (sRet 2 (pBin ixD (pVar 1) (pFnS [true, false] (d__law_draw.F (tab prg n) 60) ⟨2, [], [0, 1]⟩ [] (aCons (pVar 0) (aCons (pCall lenD (aCons (pVar 1) aNil)) aNil)) aNil))) sNil) := by kernel_rfl!
theorem den__law_common (n : Nat) : d__law_common.F (tab prg (n+1)) 60 = fnF 2 (sSeq (sPar2 2 0 1 (aCons (pCall absD (aCons (pVar 0) aNil)) (aCons (pCall absD (aCons (pVar 1) aNil)) aNil))) (sSeq (sWhile 2 (bVal (pCmpV true (tab prg (n+1)).eqL neD (pVar 1) (pC (.int (0))))) (sSeq (sPar2 2 0 1 (aCons (pVar 1) (aCons (pBin modD (pVar 0) (pVar 1)) aNil))) sNil) 4096) (sSeq (sRet 2 (pVar 0)) sNil))) := by kernel_rfl!
theorem den__law_lowest (n : Nat) : d__law_lowest.F (tab prg (n+1)) 60 = fnF 3 (sSeq (sSet 2 2 false (pBinV ((tab prg (n+1)).binL "mul") ((tab prg (n+1)).binR "mul") mul3D (pFnS [false, false] (d__law_common.F (tab prg n) 60) ⟨2, [], [0, 1]⟩ [] (aCons (pVar 0) (aCons (pVar 1) aNil)) aNil) (pIf (bVal (pBin (cmpD (fun i j => decide (j < i)) fun i j => ltS j i) (pVar 1) (pC (.int (0))))) (pC (.int (1))) (pUnV ((tab prg (n+1)).unL "__neg__") negD (pC (.int (1))))))) (sSeq (sRet 2 (pTup (aCons (pBin fdiv3D (pVar 0) (pVar 2)) (aCons (pBin fdiv3D (pVar 1) (pVar 2)) aNil)))) sNil)) := by kernel_rfl!
theorem den__law_number (n : Nat) : d__law_number.F (tab prg (n+1)) 60 = fnF 2 (sSeq (sSet 1 1 false (pLst (aCons (pC (.int (0))) (aCons (pC (.int (1))) (aCons (pUnV ((tab prg (n+1)).unL "__neg__") negD (pC (.int (1)))) (aCons (pC (.int (2))) (aCons (pC (.int (3))) (aCons (pUnV ((tab prg (n+1)).unL "__neg__") negD (pC (.int (4)))) (aCons (pC (.int (6))) (aCons (pC (.int (9))) (aCons (pUnV ((tab prg (n+1)).unL "__neg__") negD (pC (.int (12)))) (aCons (pBin powD (pC (.int (10))) (pC (.int (20)))) (aCons (pUnV ((tab prg (n+1)).unL "__neg__") negD (pBin powD (pC (.int (10))) (pC (.int (20))))) (aCons (pBinV ((tab prg (n+1)).binL "add") ((tab prg (n+1)).binR "add") addD (pBin powD (pC (.int (10))) (pC (.int (19)))) (pFnS [true, false] (d__law_draw.F (tab prg n) 60) ⟨2, [], [0, 1]⟩ [] (aCons (pVar 0) (aCons (pC (.int (1000))) aNil)) aNil)) aNil)))))))))))))) (sSeq (sRet 1 (pIf (bVal (pBin (cmpD (fun i j => decide (j < i)) fun i j => ltS j i) (pFnS [true, false] (d__law_draw.F (tab prg n) 60) ⟨2, [], [0, 1]⟩ [] (aCons (pVar 0) (aCons (pC (.int (3))) aNil)) aNil) (pC (.int (0))))) (pFnS [true, false] (d__law_pick.F (tab prg n) 60) ⟨2, [], [0, 1]⟩ [] (aCons (pVar 0) (aCons (pVar 1) aNil)) aNil) (pBinV ((tab prg (n+1)).binL "sub") ((tab prg (n+1)).binR "sub") subD (pFnS [true, false] (d__law_draw.F (tab prg n) 60) ⟨2, [], [0, 1]⟩ [] (aCons (pVar 0) (aCons (pC (.int (2000))) aNil)) aNil) (pC (.int (1000)))))) sNil)) := by kernel_rfl!
theorem den__law_is (n : Nat) : d__law_is.F (tab prg (n+1)) 60 = fnF 2 (sSeq (sIf (bOr (bNot (bTruth (pCall (isi2D prg.isi) (aCons (pVar 0) (aCons (pC (.kls 0)) aNil))))) (bVal (pCmpV true (tab prg (n+1)).eqL neD (pReprV ((tab prg (n+1)).unL "__repr__") (aCons (pLst (aCons (pAttrV ((tab prg (n+1)).prop "above") (tab prg (n+1)).okF "above" (pVar 0)) (aCons (pAttrV ((tab prg (n+1)).prop "below") (tab prg (n+1)).okF "below" (pVar 0)) aNil))) aNil)) (pReprV ((tab prg (n+1)).unL "__repr__") (aCons (pLst (aCons (pBin ixD (pVar 1) (pC (.int (0)))) (aCons (pBin ixD (pVar 1) (pC (.int (1)))) aNil))) aNil))))) 2 (sSeq (sRet 2 (pC (.bl false))) sNil) sNil) (sSeq (sRet 2 (pAnd (pCmpV false (tab prg (n+1)).eqL eqD (pReprV ((tab prg (n+1)).unL "__repr__") (aCons (pMethS ((tab prg (n+1)).msS "pair" 0 []) "pair" (pVar 0) aNil aNil) aNil)) (pReprV ((tab prg (n+1)).unL "__repr__") (aCons (pVar 1) aNil))) (pCmpV false (tab prg (n+1)).eqL eqD (pReprV ((tab prg (n+1)).unL "__repr__") (aCons (pVar 0) aNil)) (pBinV ((tab prg (n+1)).binL "add") ((tab prg (n+1)).binR "add") addD (pBinV ((tab prg (n+1)).binL "add") ((tab prg (n+1)).binR "add") addD (pBinV ((tab prg (n+1)).binL "add") ((tab prg (n+1)).binR "add") addD (pBinV ((tab prg (n+1)).binL "add") ((tab prg (n+1)).binR "add") addD (pC (.str "Ratio(")) (pCall strD1 (aCons (pBin ixD (pVar 1) (pC (.int (0)))) aNil))) (pC (.str ", "))) (pCall strD1 (aCons (pBin ixD (pVar 1) (pC (.int (1)))) aNil))) (pC (.str ")")))))) sNil)) := by kernel_rfl!
theorem den__law_sum (n : Nat) : d__law_sum.F (tab prg (n+1)) 60 = fnF 2 (sSeq (sRet 2 (pFnS [false, false] (d__law_lowest.F (tab prg n) 60) ⟨2, [], [0, 1]⟩ [] (aCons (pBinV ((tab prg (n+1)).binL "add") ((tab prg (n+1)).binR "add") addD (pBinV ((tab prg (n+1)).binL "mul") ((tab prg (n+1)).binR "mul") mul3D (pBin ixD (pVar 0) (pC (.int (0)))) (pBin ixD (pVar 1) (pC (.int (1))))) (pBinV ((tab prg (n+1)).binL "mul") ((tab prg (n+1)).binR "mul") mul3D (pBin ixD (pVar 1) (pC (.int (0)))) (pBin ixD (pVar 0) (pC (.int (1)))))) (aCons (pBinV ((tab prg (n+1)).binL "mul") ((tab prg (n+1)).binR "mul") mul3D (pBin ixD (pVar 0) (pC (.int (1)))) (pBin ixD (pVar 1) (pC (.int (1))))) aNil)) aNil)) sNil) := by kernel_rfl!
theorem den__law_times (n : Nat) : d__law_times.F (tab prg (n+1)) 60 = fnF 2 (sSeq (sRet 2 (pFnS [false, false] (d__law_lowest.F (tab prg n) 60) ⟨2, [], [0, 1]⟩ [] (aCons (pBinV ((tab prg (n+1)).binL "mul") ((tab prg (n+1)).binR "mul") mul3D (pBin ixD (pVar 0) (pC (.int (0)))) (pBin ixD (pVar 1) (pC (.int (0))))) (aCons (pBinV ((tab prg (n+1)).binL "mul") ((tab prg (n+1)).binR "mul") mul3D (pBin ixD (pVar 0) (pC (.int (1)))) (pBin ixD (pVar 1) (pC (.int (1))))) aNil)) aNil)) sNil) := by kernel_rfl!
theorem den__law_two_right (n : Nat) : d__law_two_right.F (tab prg (n+1)) 60 = fnF 10 (sSeq (sPar3 2 2 3 4 (aCons (pCm [false] (d_Ratio_of.F (tab prg n) 60) 0 (aCons (pVar 0) aNil)) (aCons (pCm [false] (d_Ratio_of.F (tab prg n) 60) 0 (aCons (pVar 1) aNil)) (aCons (pTup (aCons (pUnV ((tab prg (n+1)).unL "__neg__") negD (pBin ixD (pVar 1) (pC (.int (0))))) (aCons (pBin ixD (pVar 1) (pC (.int (1)))) aNil))) aNil)))) (sSeq (sSet 2 5 false (pLst (aCons (pBinV ((tab prg (n+1)).binL "add") ((tab prg (n+1)).binR "add") addD (pVar 2) (pVar 3)) (aCons (pBinV ((tab prg (n+1)).binL "add") ((tab prg (n+1)).binR "add") addD (pVar 3) (pVar 2)) (aCons (pBinV ((tab prg (n+1)).binL "sub") ((tab prg (n+1)).binR "sub") subD (pVar 2) (pVar 3)) (aCons (pBinV ((tab prg (n+1)).binL "mul") ((tab prg (n+1)).binR "mul") mul3D (pVar 2) (pVar 3)) (aCons (pBinV ((tab prg (n+1)).binL "mul") ((tab prg (n+1)).binR "mul") mul3D (pVar 3) (pVar 2)) (aCons (pUnV ((tab prg (n+1)).unL "__neg__") negD (pVar 3)) aNil)))))))) (sSeq (sSet 2 6 false (pBinV ((tab prg (n+1)).binL "add") ((tab prg (n+1)).binR "add") addD (pBinV ((tab prg (n+1)).binL "add") ((tab prg (n+1)).binR "add") addD (pBinV ((tab prg (n+1)).binL "add") ((tab prg (n+1)).binR "add") addD (pBinV ((tab prg (n+1)).binL "mul") ((tab prg (n+1)).binR "mul") mul3D (pLst (aCons (pFnS [false, false] (d__law_sum.F (tab prg n) 60) ⟨2, [], [0, 1]⟩ [] (aCons (pVar 0) (aCons (pVar 1) aNil)) aNil) aNil)) (pC (.int (2)))) (pLst (aCons (pFnS [false, false] (d__law_sum.F (tab prg n) 60) ⟨2, [], [0, 1]⟩ [] (aCons (pVar 0) (aCons (pVar 4) aNil)) aNil) aNil))) (pBinV ((tab prg (n+1)).binL "mul") ((tab prg (n+1)).binR "mul") mul3D (pLst (aCons (pFnS [false, false] (d__law_times.F (tab prg n) 60) ⟨2, [], [0, 1]⟩ [] (aCons (pVar 0) (aCons (pVar 1) aNil)) aNil) aNil)) (pC (.int (2))))) (pLst (aCons (pVar 4) aNil)))) (sSeq (sIf (bVal (pCmpV true (tab prg (n+1)).eqL neD (pBin ixD (pVar 1) (pC (.int (0)))) (pC (.int (0))))) 2 (sSeq (sSet 2 5 false (pBinV ((tab prg (n+1)).binL "add") ((tab prg (n+1)).binR "add") addD (pVar 5) (pLst (aCons (pMethS ((tab prg (n+1)).msS "over" 1 []) "over" (pVar 2) (aCons (pVar 3) aNil) aNil) (aCons (pMethS ((tab prg (n+1)).msS "over" 0 ["other"]) "over" (pVar 2) aNil (aCons (pVar 3) aNil)) aNil))))) (sSeq (sSet 2 6 false (pBinV ((tab prg (n+1)).binL "add") ((tab prg (n+1)).binR "add") addD (pVar 6) (pBinV ((tab prg (n+1)).binL "mul") ((tab prg (n+1)).binR "mul") mul3D (pLst (aCons (pFnS [false, false] (d__law_lowest.F (tab prg n) 60) ⟨2, [], [0, 1]⟩ [] (aCons (pBinV ((tab prg (n+1)).binL "mul") ((tab prg (n+1)).binR "mul") mul3D (pBin ixD (pVar 0) (pC (.int (0)))) (pBin ixD (pVar 1) (pC (.int (1))))) (aCons (pBinV ((tab prg (n+1)).binL "mul") ((tab prg (n+1)).binR "mul") mul3D (pBin ixD (pVar 0) (pC (.int (1)))) (pBin ixD (pVar 1) (pC (.int (0))))) aNil)) aNil) aNil)) (pC (.int (2)))))) sNil)) sNil) (sSeq (sIf (bNot (bTruth (pCall allD (aCons (pLc [8, 9] (iZipF (aCons (pVar 5) (aCons (pVar 6) aNil))) (gTupF 2 (gsCons (gSet 0 8) (gsCons (gSet 0 9) gsNil))) (fun env => some (true, env)) (pFnS [false, false] (d__law_is.F (tab prg n) 60) ⟨2, [], [0, 1]⟩ [] (aCons (pVar 8) (aCons (pVar 9) aNil)) aNil)) aNil)))) 2 (sSeq (sRet 2 (pC (.bl false))) sNil) sNil) (sSeq (sSet 2 7 false (pCmpV false (tab prg (n+1)).eqL eqD (pVar 0) (pVar 1))) (sSeq (sIf (bVal (pCmpV true (tab prg (n+1)).eqL neD (pReprV ((tab prg (n+1)).unL "__repr__") (aCons (pLst (aCons (pCmpV false (tab prg (n+1)).eqL eqD (pVar 2) (pVar 3)) (aCons (pCmpV true (tab prg (n+1)).eqL neD (pVar 2) (pVar 3)) (aCons (pCmpV false (tab prg (n+1)).eqL eqD (pVar 3) (pVar 2)) aNil)))) aNil)) (pReprV ((tab prg (n+1)).unL "__repr__") (aCons (pLst (aCons (pVar 7) (aCons (pNot (pVar 7)) (aCons (pVar 7) aNil)))) aNil)))) 2 (sSeq (sRet 2 (pC (.bl false))) sNil) sNil) (sSeq (sRet 2 (pAnd (pFnS [false, false] (d__law_is.F (tab prg n) 60) ⟨2, [], [0, 1]⟩ [] (aCons (pVar 2) (aCons (pVar 0) aNil)) aNil) (pFnS [false, false] (d__law_is.F (tab prg n) 60) ⟨2, [], [0, 1]⟩ [] (aCons (pVar 3) (aCons (pVar 1) aNil)) aNil))) sNil)))))))) := by kernel_rfl!
theorem den__law_whole_right (n : Nat) : d__law_whole_right.F (tab prg (n+1)) 60 = fnF 8 (sFz 2 [] (sSeq (sPar2 2 2 3 (aCons (pCm [false] (d_Ratio_of.F (tab prg n) 60) 0 (aCons (pVar 0) aNil)) (aCons (pTup (aCons (pVar 1) (aCons (pC (.int (1))) aNil))) aNil))) (sFz 2 [] (sSeq (sSet 2 4 true (pLst (aCons (pBinV ((tab prg (n+1)).binL "add") ((tab prg (n+1)).binR "add") addD (pVar 2) (pVar 1)) (aCons (pBinV ((tab prg (n+1)).binL "add") ((tab prg (n+1)).binR "add") addD (pVar 1) (pVar 2)) (aCons (pBinV ((tab prg (n+1)).binL "sub") ((tab prg (n+1)).binR "sub") subD (pVar 2) (pVar 1)) (aCons (pBinV ((tab prg (n+1)).binL "sub") ((tab prg (n+1)).binR "sub") subD (pVar 1) (pVar 2)) (aCons (pBinV ((tab prg (n+1)).binL "mul") ((tab prg (n+1)).binR "mul") mul3D (pVar 2) (pVar 1)) (aCons (pBinV ((tab prg (n+1)).binL "mul") ((tab prg (n+1)).binR "mul") mul3D (pVar 1) (pVar 2)) aNil)))))))) (sFz 2 [] (sSeq (sSet 2 5 true (pBinV ((tab prg (n+1)).binL "add") ((tab prg (n+1)).binR "add") addD (pBinV ((tab prg (n+1)).binL "mul") ((tab prg (n+1)).binR "mul") mul3D (pLst (aCons (pFnS [false, false] (d__law_sum.F (tab prg n) 60) ⟨2, [], [0, 1]⟩ [] (aCons (pVar 0) (aCons (pVar 3) aNil)) aNil) aNil)) (pC (.int (2)))) (pLst (aCons (pFnS [false, false] (d__law_sum.F (tab prg n) 60) ⟨2, [], [0, 1]⟩ [] (aCons (pVar 0) (aCons (pTup (aCons (pUnV ((tab prg (n+1)).unL "__neg__") negD (pVar 1)) (aCons (pC (.int (1))) aNil))) aNil)) aNil) (aCons (pFnS [false, false] (d__law_sum.F (tab prg n) 60) ⟨2, [], [0, 1]⟩ [] (aCons (pVar 3) (aCons (pTup (aCons (pUnV ((tab prg (n+1)).unL "__neg__") negD (pBin ixD (pVar 0) (pC (.int (0))))) (aCons (pBin ixD (pVar 0) (pC (.int (1)))) aNil))) aNil)) aNil) aNil))))) (sFz 2 [] (sSeq (sSet 2 5 true (pBinV ((tab prg (n+1)).binL "add") ((tab prg (n+1)).binR "add") addD (pVar 5) (pBinV ((tab prg (n+1)).binL "mul") ((tab prg (n+1)).binR "mul") mul3D (pLst (aCons (pFnS [false, false] (d__law_times.F (tab prg n) 60) ⟨2, [], [0, 1]⟩ [] (aCons (pVar 0) (aCons (pVar 3) aNil)) aNil) aNil)) (pC (.int (2)))))) (sFz 2 [] (sSeq (sIf (bVal (pCmpV true (tab prg (n+1)).eqL neD (pVar 1) (pC (.int (0))))) 2 (sSeq (sExp 2 (pMut 4 appendD (aCons (pMethS ((tab prg (n+1)).msS "over" 1 []) "over" (pVar 2) (aCons (pVar 1) aNil) aNil) aNil))) (sSeq (sExp 2 (pMut 5 appendD (aCons (pFnS [false, false] (d__law_lowest.F (tab prg n) 60) ⟨2, [], [0, 1]⟩ [] (aCons (pBin ixD (pVar 0) (pC (.int (0)))) (aCons (pBinV ((tab prg (n+1)).binL "mul") ((tab prg (n+1)).binR "mul") mul3D (pBin ixD (pVar 0) (pC (.int (1)))) (pVar 1)) aNil)) aNil) aNil))) sNil)) sNil) (sFz 2 [4, 5] (sSeq (sIf (bNot (bTruth (pCall allD (aCons (pLc [6, 7] (iZipF (aCons (pVar 4) (aCons (pVar 5) aNil))) (gTupF 2 (gsCons (gSet 0 6) (gsCons (gSet 0 7) gsNil))) (fun env => some (true, env)) (pFnS [false, false] (d__law_is.F (tab prg n) 60) ⟨2, [], [0, 1]⟩ [] (aCons (pVar 6) (aCons (pVar 7) aNil)) aNil)) aNil)))) 2 (sSeq (sRet 2 (pC (.bl false))) sNil) sNil) (sSeq (sIf (bOr (bNot (bTruth (pFnS [false, false] (d__law_is.F (tab prg n) 60) ⟨2, [], [0, 1]⟩ [] (aCons (pMkS 0 [false, false] (d_Ratio___init__.F (tab prg n) 60) ⟨1, [], [0, 1]⟩ [.int (1)] (aCons (pVar 1) aNil) aNil) (aCons (pVar 3) aNil)) aNil))) (bOr (bVal (pBin (isD true) (pCmpV false (tab prg (n+1)).eqL eqD (pMkS 0 [false, false] (d_Ratio___init__.F (tab prg n) 60) ⟨1, [], [0, 1]⟩ [.int (1)] (aCons (pVar 1) aNil) aNil) (pVar 1)) (pC (.bl false)))) (bVal (pBin (isD true) (pCmpV false (tab prg (n+1)).eqL eqD (pVar 2) (pVar 0)) (pC (.bl false)))))) 2 (sSeq (sRet 2 (pC (.bl false))) sNil) sNil) (sSeq (sRet 2 (pCmpV false (tab prg (n+1)).eqL eqD (pReprV ((tab prg (n+1)).unL "__repr__") (aCons (pLst (aCons (pCmpV true (tab prg (n+1)).eqL neD (pVar 2) (pVar 1)) (aCons (pCmpV false (tab prg (n+1)).eqL eqD (pMkS 0 [false, false] (d_Ratio___init__.F (tab prg n) 60) ⟨1, [], [0, 1]⟩ [.int (1)] (aCons (pVar 1) aNil) aNil) (pVar 2)) aNil))) aNil)) (pReprV ((tab prg (n+1)).unL "__repr__") (aCons (pLst (aCons (pC (.bl true)) (aCons (pCmpV false (tab prg (n+1)).eqL eqD (pVar 3) (pVar 0)) aNil))) aNil)))) sNil)))))))))))))) := by kernel_rfl!
theorem den__law_rules_right (n : Nat) : d__law_rules_right.F (tab prg (n+1)) 60 = fnF 6 (sSeq (sPar3 3 3 4 5 (aCons (pCm [false] (d_Ratio_of.F (tab prg n) 60) 0 (aCons (pVar 0) aNil)) (aCons (pCm [false] (d_Ratio_of.F (tab prg n) 60) 0 (aCons (pVar 1) aNil)) (aCons (pCm [false] (d_Ratio_of.F (tab prg n) 60) 0 (aCons (pVar 2) aNil)) aNil)))) (sSeq (sIf (bOr (bVal (pCmpV true (tab prg (n+1)).eqL neD (pBinV ((tab prg (n+1)).binL "add") ((tab prg (n+1)).binR "add") addD (pBinV ((tab prg (n+1)).binL "add") ((tab prg (n+1)).binR "add") addD (pVar 3) (pVar 4)) (pVar 5)) (pBinV ((tab prg (n+1)).binL "add") ((tab prg (n+1)).binR "add") addD (pBinV ((tab prg (n+1)).binL "add") ((tab prg (n+1)).binR "add") addD (pVar 5) (pVar 4)) (pVar 3)))) (bVal (pCmpV true (tab prg (n+1)).eqL neD (pBinV ((tab prg (n+1)).binL "mul") ((tab prg (n+1)).binR "mul") mul3D (pVar 3) (pBinV ((tab prg (n+1)).binL "add") ((tab prg (n+1)).binR "add") addD (pVar 4) (pVar 5))) (pBinV ((tab prg (n+1)).binL "add") ((tab prg (n+1)).binR "add") addD (pBinV ((tab prg (n+1)).binL "mul") ((tab prg (n+1)).binR "mul") mul3D (pVar 3) (pVar 4)) (pBinV ((tab prg (n+1)).binL "mul") ((tab prg (n+1)).binR "mul") mul3D (pVar 3) (pVar 5)))))) 3 (sSeq (sRet 3 (pC (.bl false))) sNil) sNil) (sSeq (sIf (bOr (bVal (pCmpV true (tab prg (n+1)).eqL neD (pBinV ((tab prg (n+1)).binL "sub") ((tab prg (n+1)).binR "sub") subD (pVar 3) (pVar 4)) (pUnV ((tab prg (n+1)).unL "__neg__") negD (pBinV ((tab prg (n+1)).binL "sub") ((tab prg (n+1)).binR "sub") subD (pVar 4) (pVar 3))))) (bOr (bVal (pCmpV true (tab prg (n+1)).eqL neD (pBinV ((tab prg (n+1)).binL "sub") ((tab prg (n+1)).binR "sub") subD (pVar 3) (pVar 3)) (pMkS 0 [false, false] (d_Ratio___init__.F (tab prg n) 60) ⟨1, [], [0, 1]⟩ [.int (1)] (aCons (pC (.int (0))) aNil) aNil))) (bVal (pCmpV true (tab prg (n+1)).eqL neD (pBinV ((tab prg (n+1)).binL "mul") ((tab prg (n+1)).binR "mul") mul3D (pVar 3) (pC (.int (0)))) (pMkS 0 [false, false] (d_Ratio___init__.F (tab prg n) 60) ⟨2, [], [0, 1]⟩ [.int (1)] (aCons (pC (.int (0))) (aCons (pC (.int (7))) aNil)) aNil))))) 3 (sSeq (sRet 3 (pC (.bl false))) sNil) sNil) (sSeq (sRet 3 (pOr (pCmpV false (tab prg (n+1)).eqL eqD (pBin ixD (pVar 1) (pC (.int (0)))) (pC (.int (0)))) (pAnd (pCmpV false (tab prg (n+1)).eqL eqD (pBinV ((tab prg (n+1)).binL "mul") ((tab prg (n+1)).binR "mul") mul3D (pMethS ((tab prg (n+1)).msS "over" 1 []) "over" (pVar 3) (aCons (pVar 4) aNil) aNil) (pVar 4)) (pVar 3)) (pCmpV false (tab prg (n+1)).eqL eqD (pMethS ((tab prg (n+1)).msS "over" 1 []) "over" (pBinV ((tab prg (n+1)).binL "mul") ((tab prg (n+1)).binR "mul") mul3D (pVar 3) (pVar 4)) (aCons (pVar 4) aNil) aNil) (pVar 3))))) sNil)))) := by kernel_rfl!
theorem den__law_right (n : Nat) : d__law_right.F (tab prg (n+1)) 60 = fnF 9 (sFz 1 [] (sSeq (sSet 1 1 true (pLst aNil)) (sFz 1 [] (sSeq (sFor 1 (iRange1 (aCons (pBinV ((tab prg (n+1)).binL "add") ((tab prg (n+1)).binR "add") addD (pC (.int (3))) (pFnS [true, false] (d__law_draw.F (tab prg n) 60) ⟨2, [], [0, 1]⟩ [] (aCons (pVar 0) (aCons (pC (.int (6))) aNil)) aNil)) aNil)) (gSet 1 2) (sSeq (sPar2 1 4 5 (aCons (pFnS [true] (d__law_number.F (tab prg n) 60) ⟨1, [], [0]⟩ [] (aCons (pVar 0) aNil) aNil) (aCons (pFnS [true] (d__law_number.F (tab prg n) 60) ⟨1, [], [0]⟩ [] (aCons (pVar 0) aNil) aNil) aNil))) (sSeq (sIf (bVal (pCmpV false (tab prg (n+1)).eqL eqD (pVar 5) (pC (.int (0))))) 1 (sSeq (sSet 1 5 false (pBinV ((tab prg (n+1)).binL "add") ((tab prg (n+1)).binR "add") addD (pC (.int (1))) (pFnS [true, false] (d__law_draw.F (tab prg n) 60) ⟨2, [], [0, 1]⟩ [] (aCons (pVar 0) (aCons (pC (.int (12))) aNil)) aNil))) sNil) sNil) (sSeq (sSet 1 3 false (pFnS [false, false] (d__law_lowest.F (tab prg n) 60) ⟨2, [], [0, 1]⟩ [] (aCons (pVar 4) (aCons (pVar 5) aNil)) aNil)) (sSeq (sIf (bOr (bNot (bTruth (pFnS [false, false] (d__law_is.F (tab prg n) 60) ⟨2, [], [0, 1]⟩ [] (aCons (pMkS 0 [false, false] (d_Ratio___init__.F (tab prg n) 60) ⟨2, [], [0, 1]⟩ [.int (1)] (aCons (pVar 4) (aCons (pVar 5) aNil)) aNil) (aCons (pVar 3) aNil)) aNil))) (bNot (bTruth (pFnS [false, false] (d__law_is.F (tab prg n) 60) ⟨2, [], [0, 1]⟩ [] (aCons (pMkS 0 [false, false] (d_Ratio___init__.F (tab prg n) 60) ⟨0, ["below", "above"], [1, 0]⟩ [.int (1)] aNil (aCons (pVar 5) (aCons (pVar 4) aNil))) (aCons (pVar 3) aNil)) aNil)))) 1 (sSeq (sRet 1 (pC (.bl false))) sNil) sNil) (sSeq (sExp 1 (pMut 1 appendD (aCons (pVar 3) aNil))) sNil)))))) (sFz 1 [1] (sSeq (sFor 1 (iRange1 (aCons (pC (.int (6))) aNil)) (gSet 1 2) (sSeq (sPar3 1 6 7 8 (aCons (pFnS [true, false] (d__law_pick.F (tab prg n) 60) ⟨2, [], [0, 1]⟩ [] (aCons (pVar 0) (aCons (pVar 1) aNil)) aNil) (aCons (pFnS [true, false] (d__law_pick.F (tab prg n) 60) ⟨2, [], [0, 1]⟩ [] (aCons (pVar 0) (aCons (pVar 1) aNil)) aNil) (aCons (pFnS [true, false] (d__law_pick.F (tab prg n) 60) ⟨2, [], [0, 1]⟩ [] (aCons (pVar 0) (aCons (pVar 1) aNil)) aNil) aNil)))) (sSeq (sIf (bOr (bNot (bTruth (pFnS [false, false] (d__law_two_right.F (tab prg n) 60) ⟨2, [], [0, 1]⟩ [] (aCons (pVar 6) (aCons (pVar 7) aNil)) aNil))) (bNot (bTruth (pFnS [false, false, false] (d__law_rules_right.F (tab prg n) 60) ⟨3, [], [0, 1, 2]⟩ [] (aCons (pVar 6) (aCons (pVar 7) (aCons (pVar 8) aNil))) aNil)))) 1 (sSeq (sRet 1 (pC (.bl false))) sNil) sNil) (sSeq (sIf (bOr (bNot (bTruth (pFnS [false, false] (d__law_whole_right.F (tab prg n) 60) ⟨2, [], [0, 1]⟩ [] (aCons (pVar 6) (aCons (pFnS [true] (d__law_number.F (tab prg n) 60) ⟨1, [], [0]⟩ [] (aCons (pVar 0) aNil) aNil) aNil)) aNil))) (bVal (pBin (isD true) (pFnS [false] (d_is_fraction.F (tab prg n) 60) ⟨1, [], [0]⟩ [] (aCons (pVar 6) aNil) aNil) (pC (.bl true))))) 1 (sSeq (sRet 1 (pC (.bl false))) sNil) sNil) sNil)))) (sSeq (sRet 1 (pAnd (pCmpV false (tab prg (n+1)).eqL eqD (pMkS 0 [false, false] (d_Ratio___init__.F (tab prg n) 60) ⟨2, [], [0, 1]⟩ [.int (1)] (aCons (pC (.int (0))) (aCons (pUnV ((tab prg (n+1)).unL "__neg__") negD (pC (.int (3)))) aNil)) aNil) (pMkS 0 [false, false] (d_Ratio___init__.F (tab prg n) 60) ⟨1, [], [0, 1]⟩ [.int (1)] (aCons (pC (.int (0))) aNil) aNil)) (pAnd (pCmpV false (tab prg (n+1)).eqL eqD (pMethS ((tab prg (n+1)).msS "pair" 0 []) "pair" (pMkS 0 [false, false] (d_Ratio___init__.F (tab prg n) 60) ⟨2, [], [0, 1]⟩ [.int (1)] (aCons (pC (.int (6))) (aCons (pUnV ((tab prg (n+1)).unL "__neg__") negD (pC (.int (4)))) aNil)) aNil) aNil aNil) (pTup (aCons (pUnV ((tab prg (n+1)).unL "__neg__") negD (pC (.int (3)))) (aCons (pC (.int (2))) aNil)))) (pCmpV false (tab prg (n+1)).eqL eqD (pAttrV ((tab prg (n+1)).prop "above") (tab prg (n+1)).okF "above" (pMkS 0 [false, false] (d_Ratio___init__.F (tab prg n) 60) ⟨2, [], [0, 1]⟩ [.int (1)] (aCons (pUnV ((tab prg (n+1)).unL "__neg__") negD (pC (.int (1)))) (aCons (pUnV ((tab prg (n+1)).unL "__neg__") negD (pC (.int (1)))) aNil)) aNil)) (pC (.int (1))))))) sNil))))))) := by kernel_rfl!
theorem den_law (n : Nat) : d_law.F (tab prg (n+1)) 60 = fnF 2 (sSeq (sRet 1 (pCall allD (aCons (pLc [1] (iRange1 (aCons (pCall max2D (aCons (pC (.int (1))) (aCons (pCall min2D (aCons (pCall lenD (aCons (pVar 0) aNil)) (aCons (pC (.int (4))) aNil))) aNil))) aNil)) (gSet 0 1) (fun env => some (true, env)) (pFnS [true] (d__law_right.F (tab prg n) 60) ⟨1, [], [0]⟩ [] (aCons (pFnS [false, false] (d__law_pot.F (tab prg n) 60) ⟨2, [], [0, 1]⟩ [] (aCons (pVar 0) (aCons (pVar 1) aNil)) aNil) aNil) aNil)) aNil))) sNil) := by kernel_rfl!
theorem den_Ratio___init__ (n : Nat) : d_Ratio___init__.F (tab prg (n+1)) 60 = fnF 4 (sSeq (sIf (bNot (bTruth (pFnS [false] (d_is_integer.F (tab prg n) 60) ⟨1, [], [0]⟩ [] (aCons (pVar 1) aNil) aNil))) 3 (sSeq nope sNil) sNil) (sSeq (sIf (bOr (bNot (bTruth (pFnS [false] (d_is_integer.F (tab prg n) 60) ⟨1, [], [0]⟩ [] (aCons (pVar 2) aNil) aNil))) (bVal (pCmpV false (tab prg (n+1)).eqL eqD (pVar 2) (pC (.int (0)))))) 3 (sSeq nope sNil) sNil) (sSeq (sSet 3 3 false (pIf (bVal (pBin (cmpD (fun i j => decide (j < i)) fun i j => ltS j i) (pVar 2) (pC (.int (0))))) (pCall gcdD (aCons (pVar 1) (aCons (pVar 2) aNil))) (pUnV ((tab prg (n+1)).unL "__neg__") negD (pCall gcdD (aCons (pVar 1) (aCons (pVar 2) aNil)))))) (sSeq (sFldF 3 0 (tab prg (n+1)).okF "_above" (pBin fdiv3D (pVar 1) (pVar 3))) (sSeq (sFldF 3 0 (tab prg (n+1)).okF "_below" (pBin fdiv3D (pVar 2) (pVar 3))) sNil))))) := by kernel_rfl!
theorem den_Ratio_above (n : Nat) : d_Ratio_above.F (tab prg (n+1)) 60 = fnF 1 (sSeq (sRet 1 (pAttrV ((tab prg (n+1)).prop "_above") (tab prg (n+1)).okF "_above" (pVar 0))) sNil) := by kernel_rfl!
theorem den_Ratio_below (n : Nat) : d_Ratio_below.F (tab prg (n+1)) 60 = fnF 1 (sSeq (sRet 1 (pAttrV ((tab prg (n+1)).prop "_below") (tab prg (n+1)).okF "_below" (pVar 0))) sNil) := by kernel_rfl!
theorem den_Ratio_pair (n : Nat) : d_Ratio_pair.F (tab prg (n+1)) 60 = fnF 1 (sSeq (sRet 1 (pTup (aCons (pAttrV ((tab prg (n+1)).prop "_above") (tab prg (n+1)).okF "_above" (pVar 0)) (aCons (pAttrV ((tab prg (n+1)).prop "_below") (tab prg (n+1)).okF "_below" (pVar 0)) aNil)))) sNil) := by kernel_rfl!
theorem den_Ratio_of (n : Nat) : d_Ratio_of.F (tab prg (n+1)) 60 = fnF 2 (sSeq (sIf (bNot (bTruth (pFnS [false] (d_is_fraction.F (tab prg n) 60) ⟨1, [], [0]⟩ [] (aCons (pVar 1) aNil) aNil))) 2 (sSeq nope sNil) sNil) (sSeq (sRet 2 (pMkL 0 fun c => ((tab prg (n+1)).cid c).bind fun ci => (ci.ini.shape 2 []).map fun sh => pMkS ci.c ci.ini.io ci.ini.F sh ci.ini.ds (aCons (pBin ixD (pVar 1) (pC (.int (0)))) (aCons (pBin ixD (pVar 1) (pC (.int (1)))) aNil)) aNil)) sNil)) := by kernel_rfl!
theorem den_Ratio_over (n : Nat) : d_Ratio_over.F (tab prg (n+1)) 60 = fnF 3 (sSeq (sSet 2 2 false (pFnS [false] (d_ratio_of.F (tab prg n) 60) ⟨1, [], [0]⟩ [] (aCons (pVar 1) aNil) aNil)) (sSeq (sIf (bVal (pCmpV false (tab prg (n+1)).eqL eqD (pAttrV ((tab prg (n+1)).prop "above") (tab prg (n+1)).okF "above" (pVar 2)) (pC (.int (0))))) 2 (sSeq nope sNil) sNil) (sSeq (sRet 2 (pMkS 0 [false, false] (d_Ratio___init__.F (tab prg n) 60) ⟨2, [], [0, 1]⟩ [.int (1)] (aCons (pBinV ((tab prg (n+1)).binL "mul") ((tab prg (n+1)).binR "mul") mul3D (pAttrV ((tab prg (n+1)).prop "_above") (tab prg (n+1)).okF "_above" (pVar 0)) (pAttrV ((tab prg (n+1)).prop "below") (tab prg (n+1)).okF "below" (pVar 2))) (aCons (pBinV ((tab prg (n+1)).binL "mul") ((tab prg (n+1)).binR "mul") mul3D (pAttrV ((tab prg (n+1)).prop "_below") (tab prg (n+1)).okF "_below" (pVar 0)) (pAttrV ((tab prg (n+1)).prop "above") (tab prg (n+1)).okF "above" (pVar 2))) aNil)) aNil)) sNil))) := by kernel_rfl!
theorem den_Ratio___add__ (n : Nat) : d_Ratio___add__.F (tab prg (n+1)) 60 = fnF 3 (sSeq (sSet 2 2 false (pFnS [false] (d_ratio_of.F (tab prg n) 60) ⟨1, [], [0]⟩ [] (aCons (pVar 1) aNil) aNil)) (sSeq (sRet 2 (pMkS 0 [false, false] (d_Ratio___init__.F (tab prg n) 60) ⟨2, [], [0, 1]⟩ [.int (1)] (aCons (pBinV ((tab prg (n+1)).binL "add") ((tab prg (n+1)).binR "add") addD (pBinV ((tab prg (n+1)).binL "mul") ((tab prg (n+1)).binR "mul") mul3D (pAttrV ((tab prg (n+1)).prop "_above") (tab prg (n+1)).okF "_above" (pVar 0)) (pAttrV ((tab prg (n+1)).prop "below") (tab prg (n+1)).okF "below" (pVar 2))) (pBinV ((tab prg (n+1)).binL "mul") ((tab prg (n+1)).binR "mul") mul3D (pAttrV ((tab prg (n+1)).prop "above") (tab prg (n+1)).okF "above" (pVar 2)) (pAttrV ((tab prg (n+1)).prop "_below") (tab prg (n+1)).okF "_below" (pVar 0)))) (aCons (pBinV ((tab prg (n+1)).binL "mul") ((tab prg (n+1)).binR "mul") mul3D (pAttrV ((tab prg (n+1)).prop "_below") (tab prg (n+1)).okF "_below" (pVar 0)) (pAttrV ((tab prg (n+1)).prop "below") (tab prg (n+1)).okF "below" (pVar 2))) aNil)) aNil)) sNil)) := by kernel_rfl!
theorem den_Ratio___radd__ (n : Nat) : d_Ratio___radd__.F (tab prg (n+1)) 60 = fnF 2 (sSeq (sRet 2 (pBinV ((tab prg (n+1)).binL "add") ((tab prg (n+1)).binR "add") addD (pVar 0) (pVar 1))) sNil) := by kernel_rfl!
theorem den_Ratio___sub__ (n : Nat) : d_Ratio___sub__.F (tab prg (n+1)) 60 = fnF 2 (sSeq (sRet 2 (pBinV ((tab prg (n+1)).binL "add") ((tab prg (n+1)).binR "add") addD (pVar 0) (pUnV ((tab prg (n+1)).unL "__neg__") negD (pFnS [false] (d_ratio_of.F (tab prg n) 60) ⟨1, [], [0]⟩ [] (aCons (pVar 1) aNil) aNil)))) sNil) := by kernel_rfl!
theorem den_Ratio___rsub__ (n : Nat) : d_Ratio___rsub__.F (tab prg (n+1)) 60 = fnF 2 (sSeq (sRet 2 (pBinV ((tab prg (n+1)).binL "sub") ((tab prg (n+1)).binR "sub") subD (pFnS [false] (d_ratio_of.F (tab prg n) 60) ⟨1, [], [0]⟩ [] (aCons (pVar 1) aNil) aNil) (pVar 0))) sNil) := by kernel_rfl!
theorem den_Ratio___mul__ (n : Nat) : d_Ratio___mul__.F (tab prg (n+1)) 60 = fnF 3 (sSeq (sSet 2 2 false (pFnS [false] (d_ratio_of.F (tab prg n) 60) ⟨1, [], [0]⟩ [] (aCons (pVar 1) aNil) aNil)) (sSeq (sRet 2 (pMkS 0 [false, false] (d_Ratio___init__.F (tab prg n) 60) ⟨2, [], [0, 1]⟩ [.int (1)] (aCons (pBinV ((tab prg (n+1)).binL "mul") ((tab prg (n+1)).binR "mul") mul3D (pAttrV ((tab prg (n+1)).prop "_above") (tab prg (n+1)).okF "_above" (pVar 0)) (pAttrV ((tab prg (n+1)).prop "above") (tab prg (n+1)).okF "above" (pVar 2))) (aCons (pBinV ((tab prg (n+1)).binL "mul") ((tab prg (n+1)).binR "mul") mul3D (pAttrV ((tab prg (n+1)).prop "_below") (tab prg (n+1)).okF "_below" (pVar 0)) (pAttrV ((tab prg (n+1)).prop "below") (tab prg (n+1)).okF "below" (pVar 2))) aNil)) aNil)) sNil)) := by kernel_rfl!
theorem den_Ratio___rmul__ (n : Nat) : d_Ratio___rmul__.F (tab prg (n+1)) 60 = fnF 2 (sSeq (sRet 2 (pBinV ((tab prg (n+1)).binL "mul") ((tab prg (n+1)).binR "mul") mul3D (pVar 0) (pVar 1))) sNil) := by kernel_rfl!
theorem den_Ratio___neg__ (n : Nat) : d_Ratio___neg__.F (tab prg (n+1)) 60 = fnF 1 (sSeq (sRet 1 (pMkS 0 [false, false] (d_Ratio___init__.F (tab prg n) 60) ⟨2, [], [0, 1]⟩ [.int (1)] (aCons (pUnV ((tab prg (n+1)).unL "__neg__") negD (pAttrV ((tab prg (n+1)).prop "_above") (tab prg (n+1)).okF "_above" (pVar 0))) (aCons (pAttrV ((tab prg (n+1)).prop "_below") (tab prg (n+1)).okF "_below" (pVar 0)) aNil)) aNil)) sNil) := by kernel_rfl!
theorem den_Ratio___eq__ (n : Nat) : d_Ratio___eq__.F (tab prg (n+1)) 60 = fnF 2 (sSeq (sRet 2 (pAnd (pCall (isi2D prg.isi) (aCons (pVar 1) (aCons (pC (.kls 0)) aNil))) (pAnd (pCmpV false (tab prg (n+1)).eqL eqD (pAttrV ((tab prg (n+1)).prop "_above") (tab prg (n+1)).okF "_above" (pVar 0)) (pAttrV ((tab prg (n+1)).prop "_above") (tab prg (n+1)).okF "_above" (pVar 1))) (pCmpV false (tab prg (n+1)).eqL eqD (pAttrV ((tab prg (n+1)).prop "_below") (tab prg (n+1)).okF "_below" (pVar 0)) (pAttrV ((tab prg (n+1)).prop "_below") (tab prg (n+1)).okF "_below" (pVar 1)))))) sNil) := by kernel_rfl!
theorem den_Ratio___repr__ (n : Nat) : d_Ratio___repr__.F (tab prg (n+1)) 60 = fnF 1 (sSeq (sRet 1 (pJs [(pC (.str "Ratio(")), (pFmt (pAttrV ((tab prg (n+1)).prop "_above") (tab prg (n+1)).okF "_above" (pVar 0))), (pC (.str ", ")), (pFmt (pAttrV ((tab prg (n+1)).prop "_below") (tab prg (n+1)).okF "_below" (pVar 0))), (pC (.str ")"))] Str.empty)) sNil) := by kernel_rfl!
end K51
end

section
set_option Elab.async false
set_option linter.all false
set_option maxRecDepth 100000
set_option maxHeartbeats 4000000
namespace K51
open PySem L2 Den PyProof.Rows
theorem st_is_integer : DfSt d_is_integer s_is_integer := ⟨rfl, ⟨rfl, rfl, rfl, by decide +kernel, rfl, by decide +kernel, by decide +kernel⟩, rfl, ⟨rfl, by decide⟩⟩
theorem sh_is_integer : ShsN d_is_integer s_is_integer := fun K name qual kV doc pm an cdv ct => ⟨rfl, ⟨fun s us ws _ h1 h2 => match us, ws, h1, h2 with | [_], [], _, _ => .of_eq rfl, trivial⟩⟩
theorem st_ratio_of : DfSt d_ratio_of s_ratio_of := ⟨rfl, ⟨rfl, rfl, rfl, by decide +kernel, rfl, by decide +kernel, by decide +kernel⟩, rfl, ⟨rfl, by decide⟩⟩
theorem sh_ratio_of : ShsN d_ratio_of s_ratio_of := fun K name qual kV doc pm an cdv ct => ⟨rfl, ⟨fun s us ws _ h1 h2 => match us, ws, h1, h2 with | [_], [], _, _ => .of_eq rfl, trivial⟩⟩
theorem st_is_fraction : DfSt d_is_fraction s_is_fraction := ⟨rfl, ⟨rfl, rfl, rfl, by decide +kernel, rfl, by decide +kernel, by decide +kernel⟩, rfl, ⟨rfl, by decide⟩⟩
theorem sh_is_fraction : ShsN d_is_fraction s_is_fraction := fun K name qual kV doc pm an cdv ct => ⟨rfl, ⟨fun s us ws _ h1 h2 => match us, ws, h1, h2 with | [_], [], _, _ => .of_eq rfl, trivial⟩⟩
theorem st__law_pot : DfSt d__law_pot s__law_pot := ⟨rfl, ⟨rfl, rfl, rfl, by decide +kernel, rfl, by decide +kernel, by decide +kernel⟩, rfl, ⟨rfl, by decide⟩⟩
theorem sh__law_pot : ShsN d__law_pot s__law_pot := fun K name qual kV doc pm an cdv ct => ⟨rfl, ⟨fun s us ws _ h1 h2 => match us, ws, h1, h2 with | [_, _], [], _, _ => .of_eq rfl, trivial⟩⟩
theorem st__law_draw : DfSt d__law_draw s__law_draw := ⟨rfl, ⟨rfl, rfl, rfl, by decide +kernel, rfl, by decide +kernel, by decide +kernel⟩, rfl, ⟨rfl, by decide⟩⟩
theorem sh__law_draw : ShsN d__law_draw s__law_draw := fun K name qual kV doc pm an cdv ct => ⟨rfl, ⟨fun s us ws _ h1 h2 => match us, ws, h1, h2 with | [_, _], [], _, _ => .of_eq rfl, trivial⟩⟩
theorem st__law_pick : DfSt d__law_pick s__law_pick := ⟨rfl, ⟨rfl, rfl, rfl, by decide +kernel, rfl, by decide +kernel, by decide +kernel⟩, rfl, ⟨rfl, by decide⟩⟩
theorem sh__law_pick : ShsN d__law_pick s__law_pick := fun K name qual kV doc pm an cdv ct => ⟨rfl, ⟨fun s us ws _ h1 h2 => match us, ws, h1, h2 with | [_, _], [], _, _ => .of_eq rfl, trivial⟩⟩
theorem st__law_common : DfSt d__law_common s__law_common := ⟨rfl, ⟨rfl, rfl, rfl, by decide +kernel, rfl, by decide +kernel, by decide +kernel⟩, rfl, ⟨rfl, by decide⟩⟩
theorem sh__law_common : ShsN d__law_common s__law_common := fun K name qual kV doc pm an cdv ct => ⟨rfl, ⟨fun s us ws _ h1 h2 => match us, ws, h1, h2 with | [_, _], [], _, _ => .of_eq rfl, trivial⟩⟩
theorem st__law_lowest : DfSt d__law_lowest s__law_lowest := ⟨rfl, ⟨rfl, rfl, rfl, by decide +kernel, rfl, by decide +kernel, by decide +kernel⟩, rfl, ⟨rfl, by decide⟩⟩
theorem sh__law_lowest : ShsN d__law_lowest s__law_lowest := fun K name qual kV doc pm an cdv ct => ⟨rfl, ⟨fun s us ws _ h1 h2 => match us, ws, h1, h2 with | [_, _], [], _, _ => .of_eq rfl, trivial⟩⟩
theorem st__law_number : DfSt d__law_number s__law_number := ⟨rfl, ⟨rfl, rfl, rfl, by decide +kernel, rfl, by decide +kernel, by decide +kernel⟩, rfl, ⟨rfl, by decide⟩⟩
theorem sh__law_number : ShsN d__law_number s__law_number := fun K name qual kV doc pm an cdv ct => ⟨rfl, ⟨fun s us ws _ h1 h2 => match us, ws, h1, h2 with | [_], [], _, _ => .of_eq rfl, trivial⟩⟩
theorem st__law_is : DfSt d__law_is s__law_is := ⟨rfl, ⟨rfl, rfl, rfl, by decide +kernel, rfl, by decide +kernel, by decide +kernel⟩, rfl, ⟨rfl, by decide⟩⟩
theorem sh__law_is : ShsN d__law_is s__law_is := fun K name qual kV doc pm an cdv ct => ⟨rfl, ⟨fun s us ws _ h1 h2 => match us, ws, h1, h2 with | [_, _], [], _, _ => .of_eq rfl, trivial⟩⟩
theorem st__law_sum : DfSt d__law_sum s__law_sum := ⟨rfl, ⟨rfl, rfl, rfl, by decide +kernel, rfl, by decide +kernel, by decide +kernel⟩, rfl, ⟨rfl, by decide⟩⟩
theorem sh__law_sum : ShsN d__law_sum s__law_sum := fun K name qual kV doc pm an cdv ct => ⟨rfl, ⟨fun s us ws _ h1 h2 => match us, ws, h1, h2 with | [_, _], [], _, _ => .of_eq rfl, trivial⟩⟩
theorem st__law_times : DfSt d__law_times s__law_times := ⟨rfl, ⟨rfl, rfl, rfl, by decide +kernel, rfl, by decide +kernel, by decide +kernel⟩, rfl, ⟨rfl, by decide⟩⟩
theorem sh__law_times : ShsN d__law_times s__law_times := fun K name qual kV doc pm an cdv ct => ⟨rfl, ⟨fun s us ws _ h1 h2 => match us, ws, h1, h2 with | [_, _], [], _, _ => .of_eq rfl, trivial⟩⟩
theorem st__law_two_right : DfSt d__law_two_right s__law_two_right := ⟨rfl, ⟨rfl, rfl, rfl, by decide +kernel, rfl, by decide +kernel, by decide +kernel⟩, rfl, ⟨rfl, by decide⟩⟩
theorem sh__law_two_right : ShsN d__law_two_right s__law_two_right := fun K name qual kV doc pm an cdv ct => ⟨rfl, ⟨fun s us ws _ h1 h2 => match us, ws, h1, h2 with | [_, _], [], _, _ => .of_eq rfl, trivial⟩⟩
theorem st__law_whole_right : DfSt d__law_whole_right s__law_whole_right := ⟨rfl, ⟨rfl, rfl, rfl, by decide +kernel, rfl, by decide +kernel, by decide +kernel⟩, rfl, ⟨rfl, by decide⟩⟩
theorem sh__law_whole_right : ShsN d__law_whole_right s__law_whole_right := fun K name qual kV doc pm an cdv ct => ⟨rfl, ⟨fun s us ws _ h1 h2 => match us, ws, h1, h2 with | [_, _], [], _, _ => .of_eq rfl, trivial⟩⟩
theorem st__law_rules_right : DfSt d__law_rules_right s__law_rules_right := ⟨rfl, ⟨rfl, rfl, rfl, by decide +kernel, rfl, by decide +kernel, by decide +kernel⟩, rfl, ⟨rfl, by decide⟩⟩
theorem sh__law_rules_right : ShsN d__law_rules_right s__law_rules_right := fun K name qual kV doc pm an cdv ct => ⟨rfl, ⟨fun s us ws _ h1 h2 => match us, ws, h1, h2 with | [_, _, _], [], _, _ => .of_eq rfl, trivial⟩⟩
theorem st__law_right : DfSt d__law_right s__law_right := ⟨rfl, ⟨rfl, rfl, rfl, by decide +kernel, rfl, by decide +kernel, by decide +kernel⟩, rfl, ⟨rfl, by decide⟩⟩
theorem sh__law_right : ShsN d__law_right s__law_right := fun K name qual kV doc pm an cdv ct => ⟨rfl, ⟨fun s us ws _ h1 h2 => match us, ws, h1, h2 with | [_], [], _, _ => .of_eq rfl, trivial⟩⟩
theorem st_law : DfSt d_law s_law := ⟨rfl, ⟨rfl, rfl, rfl, by decide +kernel, rfl, by decide +kernel, by decide +kernel⟩, rfl, ⟨rfl, by decide⟩⟩
theorem sh_law : ShsN d_law s_law := fun K name qual kV doc pm an cdv ct => ⟨rfl, trivial⟩
theorem lawB : LawB s_law "_law_script" := fun _ _ _ _ _ _ _ _ _ _ => .of_eq rfl
theorem st_Ratio___init__ : DfSt d_Ratio___init__ s_Ratio___init__ := ⟨rfl, ⟨rfl, rfl, rfl, by decide +kernel, rfl, by decide +kernel, by decide +kernel⟩, rfl, ⟨rfl, by decide⟩⟩
theorem sh_Ratio___init__ : ShsE d_Ratio___init__ s_Ratio___init__ := fun K name qual kV doc pm an cdv ct T o its n lT oT hi => ⟨fun s u us ws X h1 h2 => match its, hi, us, ws, h1, h2 with | [_], _, [_], [], _, _ => L2.BindsTo.of_looks fun M => looks_items X lT oT (.of_pure rfl), fun s u us ws X h1 h2 => match its, hi, us, ws, h1, h2 with | [_], _, [_, _], [], _, _ => L2.BindsTo.of_looks fun M => looks_items X lT oT (.of_pure rfl), fun s u us ws X h1 h2 => match its, hi, us, ws, h1, h2 with | [_], _, [], [_, _], _, _ => L2.BindsTo.of_looks fun M => looks_items X lT oT (.of_pure rfl), trivial⟩
theorem st_Ratio_above : DfSt d_Ratio_above s_Ratio_above := ⟨rfl, ⟨rfl, rfl, rfl, by decide +kernel, rfl, by decide +kernel, by decide +kernel⟩, rfl, ⟨rfl, by decide⟩⟩
theorem sh_Ratio_above : BndN d_Ratio_above s_Ratio_above := fun K name qual kV doc pm an cdv ct => .all fun us hl => match us, hl with | [_], _ => rfl
theorem st_Ratio_below : DfSt d_Ratio_below s_Ratio_below := ⟨rfl, ⟨rfl, rfl, rfl, by decide +kernel, rfl, by decide +kernel, by decide +kernel⟩, rfl, ⟨rfl, by decide⟩⟩
theorem sh_Ratio_below : BndN d_Ratio_below s_Ratio_below := fun K name qual kV doc pm an cdv ct => .all fun us hl => match us, hl with | [_], _ => rfl
theorem st_Ratio_pair : DfSt d_Ratio_pair s_Ratio_pair := ⟨rfl, ⟨rfl, rfl, rfl, by decide +kernel, rfl, by decide +kernel, by decide +kernel⟩, rfl, ⟨rfl, by decide⟩⟩
theorem sh_Ratio_pair : ShsM d_Ratio_pair s_Ratio_pair := fun K name qual kV doc pm an cdv ct => ⟨rfl, ⟨fun s u us ws _ h1 h2 => match us, ws, h1, h2 with | [], [], _, _ => .of_eq rfl, trivial⟩⟩
theorem st_Ratio_of : DfSt d_Ratio_of s_Ratio_of := ⟨rfl, ⟨rfl, rfl, rfl, by decide +kernel, rfl, by decide +kernel, by decide +kernel⟩, rfl, ⟨rfl, by decide⟩⟩
theorem sh_Ratio_of : BndN d_Ratio_of s_Ratio_of := fun K name qual kV doc pm an cdv ct => .all fun us hl => match us, hl with | [_, _], _ => rfl
theorem st_Ratio_over : DfSt d_Ratio_over s_Ratio_over := ⟨rfl, ⟨rfl, rfl, rfl, by decide +kernel, rfl, by decide +kernel, by decide +kernel⟩, rfl, ⟨rfl, by decide⟩⟩
theorem sh_Ratio_over : ShsM d_Ratio_over s_Ratio_over := fun K name qual kV doc pm an cdv ct => ⟨rfl, ⟨fun s u us ws _ h1 h2 => match us, ws, h1, h2 with | [_], [], _, _ => .of_eq rfl, fun s u us ws _ h1 h2 => match us, ws, h1, h2 with | [], [_], _, _ => .of_eq rfl, trivial⟩⟩
theorem st_Ratio___add__ : DfSt d_Ratio___add__ s_Ratio___add__ := ⟨rfl, ⟨rfl, rfl, rfl, by decide +kernel, rfl, by decide +kernel, by decide +kernel⟩, rfl, ⟨rfl, by decide⟩⟩
theorem sh_Ratio___add__ : BndN d_Ratio___add__ s_Ratio___add__ := fun K name qual kV doc pm an cdv ct => .all fun us hl => match us, hl with | [_, _], _ => rfl
theorem st_Ratio___radd__ : DfSt d_Ratio___radd__ s_Ratio___radd__ := ⟨rfl, ⟨rfl, rfl, rfl, by decide +kernel, rfl, by decide +kernel, by decide +kernel⟩, rfl, ⟨rfl, by decide⟩⟩
theorem sh_Ratio___radd__ : BndN d_Ratio___radd__ s_Ratio___radd__ := fun K name qual kV doc pm an cdv ct => .all fun us hl => match us, hl with | [_, _], _ => rfl
theorem st_Ratio___sub__ : DfSt d_Ratio___sub__ s_Ratio___sub__ := ⟨rfl, ⟨rfl, rfl, rfl, by decide +kernel, rfl, by decide +kernel, by decide +kernel⟩, rfl, ⟨rfl, by decide⟩⟩
theorem sh_Ratio___sub__ : BndN d_Ratio___sub__ s_Ratio___sub__ := fun K name qual kV doc pm an cdv ct => .all fun us hl => match us, hl with | [_, _], _ => rfl
theorem st_Ratio___rsub__ : DfSt d_Ratio___rsub__ s_Ratio___rsub__ := ⟨rfl, ⟨rfl, rfl, rfl, by decide +kernel, rfl, by decide +kernel, by decide +kernel⟩, rfl, ⟨rfl, by decide⟩⟩
theorem sh_Ratio___rsub__ : BndN d_Ratio___rsub__ s_Ratio___rsub__ := fun K name qual kV doc pm an cdv ct => .all fun us hl => match us, hl with | [_, _], _ => rfl
theorem st_Ratio___mul__ : DfSt d_Ratio___mul__ s_Ratio___mul__ := ⟨rfl, ⟨rfl, rfl, rfl, by decide +kernel, rfl, by decide +kernel, by decide +kernel⟩, rfl, ⟨rfl, by decide⟩⟩
theorem sh_Ratio___mul__ : BndN d_Ratio___mul__ s_Ratio___mul__ := fun K name qual kV doc pm an cdv ct => .all fun us hl => match us, hl with | [_, _], _ => rfl
theorem st_Ratio___rmul__ : DfSt d_Ratio___rmul__ s_Ratio___rmul__ := ⟨rfl, ⟨rfl, rfl, rfl, by decide +kernel, rfl, by decide +kernel, by decide +kernel⟩, rfl, ⟨rfl, by decide⟩⟩
theorem sh_Ratio___rmul__ : BndN d_Ratio___rmul__ s_Ratio___rmul__ := fun K name qual kV doc pm an cdv ct => .all fun us hl => match us, hl with | [_, _], _ => rfl
theorem st_Ratio___neg__ : DfSt d_Ratio___neg__ s_Ratio___neg__ := ⟨rfl, ⟨rfl, rfl, rfl, by decide +kernel, rfl, by decide +kernel, by decide +kernel⟩, rfl, ⟨rfl, by decide⟩⟩
theorem sh_Ratio___neg__ : BndN d_Ratio___neg__ s_Ratio___neg__ := fun K name qual kV doc pm an cdv ct => .all fun us hl => match us, hl with | [_], _ => rfl
theorem st_Ratio___eq__ : DfSt d_Ratio___eq__ s_Ratio___eq__ := ⟨rfl, ⟨rfl, rfl, rfl, by decide +kernel, rfl, by decide +kernel, by decide +kernel⟩, rfl, ⟨rfl, by decide⟩⟩
theorem sh_Ratio___eq__ : BndN d_Ratio___eq__ s_Ratio___eq__ := fun K name qual kV doc pm an cdv ct => .all fun us hl => match us, hl with | [_, _], _ => rfl
theorem st_Ratio___repr__ : DfSt d_Ratio___repr__ s_Ratio___repr__ := ⟨rfl, ⟨rfl, rfl, rfl, by decide +kernel, rfl, by decide +kernel, by decide +kernel⟩, rfl, ⟨rfl, by decide⟩⟩
theorem sh_Ratio___repr__ : BndN d_Ratio___repr__ s_Ratio___repr__ := fun K name qual kV doc pm an cdv ct => .all fun us hl => match us, hl with | [_], _ => rfl
def Wc (K : PySem.W.Frag) ( C0 : Addr) : Pw := ⟨K, fun n => match n with
  | 0 => C0
  | _ => 0⟩
theorem hF_mk {P : Program} {w : World} {K : PySem.W.Frag} {h : Heap} {mg : Str → Option Value} {fa : Addr} { C0 : Addr} (KX : K.In h) (G : h.Ns mainGlobals mg) (hmg : mg "law" = some (.ref fa))
  (law : LawD K mg d_law "_law_script")
  (f_is_integer : FnD K mg (Wc K C0) d_is_integer)
  (f_ratio_of : FnD K mg (Wc K C0) d_ratio_of)
  (f_is_fraction : FnD K mg (Wc K C0) d_is_fraction)
  (f__law_pot : FnD K mg (Wc K C0) d__law_pot)
  (f__law_draw : FnD K mg (Wc K C0) d__law_draw)
  (f__law_pick : FnD K mg (Wc K C0) d__law_pick)
  (f__law_common : FnD K mg (Wc K C0) d__law_common)
  (f__law_lowest : FnD K mg (Wc K C0) d__law_lowest)
  (f__law_number : FnD K mg (Wc K C0) d__law_number)
  (f__law_is : FnD K mg (Wc K C0) d__law_is)
  (f__law_sum : FnD K mg (Wc K C0) d__law_sum)
  (f__law_times : FnD K mg (Wc K C0) d__law_times)
  (f__law_two_right : FnD K mg (Wc K C0) d__law_two_right)
  (f__law_whole_right : FnD K mg (Wc K C0) d__law_whole_right)
  (f__law_rules_right : FnD K mg (Wc K C0) d__law_rules_right)
  (f__law_right : FnD K mg (Wc K C0) d__law_right)
  (f_law : FnD K mg (Wc K C0) d_law)
  (cons : Den.AllP (fun q => ∃ u v, mg q.1 = some u ∧ RelV v u ∧ ∀ G, Rp (Wc K C0) G v q.2) prg.cons)
  (c_Ratio_here : PySem.W.nsIn K mainGlobals "Ratio" = some (some (.ref C0))) (c_Ratio : ClsC K mg C0 c_Ratio)
  (isi : IsiOk (Wc K C0) prg.isi) (gcd : Den.AllP (fun x => PySem.W.nsIn K mainGlobals x = some (some (.builtin "math.gcd"))) prg.gcds)
  (b_len : PySem.W.nsIn K mainGlobals "len" = some none)
  (b_abs : PySem.W.nsIn K mainGlobals "abs" = some none)
  (b_max : PySem.W.nsIn K mainGlobals "max" = some none)
  (b_min : PySem.W.nsIn K mainGlobals "min" = some none)
  (b_int : PySem.W.nsIn K mainGlobals "int" = some none)
  (b_divmod : PySem.W.nsIn K mainGlobals "divmod" = some none)
  (b_all : PySem.W.nsIn K mainGlobals "all" = some none)
  (b_repr : PySem.W.nsIn K mainGlobals "repr" = some none)
  (b_any : PySem.W.nsIn K mainGlobals "any" = some none)
  (b_sum : PySem.W.nsIn K mainGlobals "sum" = some none)
  (b_isinstance : PySem.W.nsIn K mainGlobals "isinstance" = some none)
  (b_sorted : PySem.W.nsIn K mainGlobals "sorted" = some none)
  (b_list : PySem.W.nsIn K mainGlobals "list" = some none)
  (b_tuple : PySem.W.nsIn K mainGlobals "tuple" = some none)
  (b_str : PySem.W.nsIn K mainGlobals "str" = some none)
  (b_bool : PySem.W.nsIn K mainGlobals "bool" = some none)
  (b_dict : PySem.W.nsIn K mainGlobals "dict" = some none)
  (rng : PySem.W.nsIn K mainGlobals "range" = some none) (enm : PySem.W.nsIn K mainGlobals "enumerate" = some none) (zip : PySem.W.nsIn K mainGlobals "zip" = some none) :
    ∃ (W : Pw) (fd : FuncData), W.K.In h ∧ (∀ (s : Shared) (u : Value), BindsTo s fd ⟨[u], []⟩ [("_law_script", u)]) ∧ ∀ base : Heap, W.K.In base → base.Ns mainGlobals mg → FnG P w W.K mg base (2 * 13 + 1) fa fd ["_law_script"] (spF W 1 (d_law.F (tab prg 13) prg.fuel)) := by
  have no : ∀ x : Str, PySem.W.nsIn K mainGlobals x = some none → mg x = none := fun x e => PySem.W.mg_none_of KX G e
  refine end_of (W := Wc K C0) (dl := d_law) KX hmg law ⟨allP ⟨f_is_integer, f_ratio_of, f_is_fraction, f__law_pot, f__law_draw, f__law_pick, f__law_common, f__law_lowest, f__law_number, f__law_is, f__law_sum, f__law_times, f__law_two_right, f__law_whole_right, f__law_rules_right, f__law_right, f_law, trivial⟩, fun x d e => allP cons (x, d) (Den.mem_of_lookup e), fun x b e => ?_, fun x e => ?_, allP ⟨c_Ratio.clsD rfl, trivial⟩, isi, fun x e => PySem.W.mg_of KX G (allP gcd x (by simpa using e)), no _ rng, no _ enm, no _ zip⟩
  · unfold bis at e
    simp only [List.lookup_cons] at e
    repeat' (split at e)
    all_goals first
      | (rename_i q; simp only [beq_iff_eq] at q; subst q; first | exact no _ b_len | exact no _ b_abs | exact no _ b_max | exact no _ b_min | exact no _ b_int | exact no _ b_divmod | exact no _ b_all | exact no _ b_repr | exact no _ b_any | exact no _ b_sum | exact no _ b_isinstance | exact no _ b_sorted | exact no _ b_list | exact no _ b_tuple | exact no _ b_str)
      | cases e
  · have hx : x = "int" ∨ x = "str" ∨ x = "bool" ∨ x = "list" ∨ x = "tuple" ∨ x = "dict" := by simpa [tys] using e
    rcases hx with rfl | rfl | rfl | rfl | rfl | rfl
    · exact no _ b_int
    · exact no _ b_str
    · exact no _ b_bool
    · exact no _ b_list
    · exact no _ b_tuple
    · exact no _ b_dict

end K51
end

section
set_option Elab.async false
set_option linter.all false
set_option maxRecDepth 100000
set_option maxHeartbeats 4000000
namespace K51
open PySem L2 Den PyProof.Rows
local macro_rules | `(tactic| walk_at "rf") => `(tactic| first
  | ((with_reducible show RV.cont _ _ = some _); exact rfl)
  | ((with_reducible show RV.dt _ = some _); exact rfl)
  | ((with_reducible show RV.cls _ = _); exact rfl)
  | ((with_reducible show RV.objf _ = _); exact rfl)
  | ((with_reducible show passE _ _ _ = some _); exact rfl)
  | ((with_reducible show BackAt _ _ _ _ _); first | exact BackAt.nil | apply BackAt.dat | apply BackAt.slot | apply BackAt.own)
  | ((with_reducible show onceB _ _ _ = true); exact rfl)
  | ((with_reducible show ownB _ _ _ = true); exact rfl)
  | ((with_reducible show pinned _ _ _ = false); exact rfl)
  | ((with_reducible show dts _ = some _); exact rfl)
  | ((with_reducible show conts _ _ = some _); exact rfl)
  | ((with_reducible show setSV _ _ = some _); exact rfl)
  | ((with_reducible show retK _ _ _ = some _); exact rfl)
  | ((with_reducible show fnK _ _ = some _); exact rfl)
  | ((with_reducible show List.length _ = _); exact rfl)
  | ((with_reducible show pick _ _ = _); exact rfl)
  | ((with_reducible show Nat.ble _ _ = true); exact rfl)
  | ((with_reducible show Nat.blt _ _ = true); exact rfl)
  | ((with_reducible show truthD _ = some _); exact rfl)
  | ((with_reducible show sideB _ _ = true); exact rfl)
  | ((with_reducible show intB _ = true); exact rfl)
  | ((with_reducible show eqSideB _ _ = true); exact rfl)
  | ((with_reducible show itemsD _ = some _); exact rfl)
  | ((with_reducible show putD _ _ _ = _); exact rfl)
  | ((with_reducible show List.lookup _ _ = _); exact rfl)
  | ((with_reducible show getElem? _ _ = some _); exact rfl)
  | with_reducible exact ixN0
  | with_reducible exact ixN1)
local macro_rules | `(tactic| walk_at "ln") => `(tactic| repeat' (first | with_reducible exact Ln.num (by walk_at "bd") | with_reducible exact Ln.lit | with_reducible exact Ln.emp | with_reducible apply Ln.app))
local macro_rules | `(tactic| walk_at "sa") => `(tactic| repeat' (first | with_reducible exact AppAt.nil | with_reducible apply AppAt.cons | with_reducible exact ZipAt.nil | with_reducible apply ZipAt.cons))
local macro_rules | `(tactic| walk_at "pr") => `(tactic| first
  | ((with_reducible apply ev_mul); walk_at "bd")
  | ((with_reducible apply ev_fdiv) <;> walk_at "bd")
  | ((with_reducible apply ev_mod); walk_at "bd")
  | ((with_reducible apply ev_divmod) <;> walk_at "bd")
  | ((with_reducible apply ev_pow) <;> walk_at "bd")
  | ((with_reducible apply ev_addS); exact Ln.ok2 (by walk_at "ln") (by walk_at "ln") rfl)
  | ((with_reducible apply ev_addL); walk_at "sa"; exact rfl)
  | ((with_reducible apply ev_append); walk_at "sa"; exact rfl)
  | ((with_reducible apply ev_strI); walk_at "bd")
  | with_reducible exact ev_twice
  | ((with_reducible show addD _ _ = some _); exact rfl)
  | ((with_reducible show subD _ _ = some _); exact rfl)
  | ((with_reducible show cmpD _ _ _ _ = some _); exact rfl)
  | ((with_reducible show isD _ _ _ = some _); exact rfl)
  | ((with_reducible show ixD _ _ = some _); exact rfl)
  | ((with_reducible show absD _ = some _); exact rfl)
  | ((with_reducible show max2D _ = some _); exact rfl)
  | ((with_reducible show min2D _ = some _); exact rfl)
  | ((with_reducible show int1D _ = some _); exact rfl)
  | ((with_reducible show lenD _ = some _); exact rfl)
  | ((with_reducible show gcdD _ = some _); exact rfl)
  | ((with_reducible show allD _ = some _); exact rfl)
  | ((with_reducible show isi2D _ _ = some _); exact rfl)
  | ((with_reducible show negD _ = some _); exact rfl)
  | ((with_reducible show appendD _ _ = some _); exact rfl)
  | ((with_reducible show eqD _ _ = some _); exact rfl)
  | ((with_reducible show neD _ _ = some _); exact rfl)
  | ((with_reducible show mul3D _ _ = some _); exact rfl))
local macro_rules | `(tactic| walk_at "tt") => `(tactic| first | with_reducible exact bne_self _ | exact rfl | assumption | (simp only [Bool.not_eq_true', Bool.not_eq_false', Bool.not_true, Bool.not_false, decide_eq_true_eq, decide_eq_false_iff_not, beq_iff_eq, bne_iff_ne, beq_eq_false_iff_ne, Bool.and_eq_true, Bool.and_true, Bool.true_and, if_true, Bool.false_eq_true, if_false]; first | done | assumption | omega) | (simp [*]; done))
local macro_rules | `(tactic| walk_at "ev1") => `(tactic| first
  | with_reducible exact ev_c
  | ((with_reducible show some _ = some _); with_reducible exact rfl)
  | ((with_reducible apply ev_vd); exact rfl)
  | ((with_reducible apply ev_vo); exact rfl)
  | ((with_reducible apply ev_vb); exact rfl)
  | with_reducible exact ev_aNil
  | with_reducible apply ev_aCons
  | with_reducible apply ev_aApp
  | with_reducible apply ev_aSel
  | with_reducible apply tail_of
  | with_reducible apply ev_binV
  | ((with_reducible apply binK_l (c := 0)); exact rfl)
  | ((with_reducible apply binK_r (c := 0)); exact rfl; exact rfl)
  | ((with_reducible apply binK_d); exact rfl; exact rfl)
  | with_reducible apply ev_bin
  | with_reducible apply ev_unV
  | ((with_reducible apply unK_l (c := 0)); exact rfl)
  | ((with_reducible apply unK_d); exact rfl)
  | with_reducible apply ev_cmpV
  | ((with_reducible apply cmpK_l (c := 0)); exact rfl)
  | ((with_reducible apply cmpK_d); exact rfl)
  | with_reducible apply ev_attrV
  | ((with_reducible apply attrK_l (c := 0)); exact rfl; walk_at "tb")
  | ((with_reducible apply attrK_f (c := 0)); exact rfl; walk_at "tb")
  | ((with_reducible apply attrK_s); exact rfl)
  | with_reducible apply fldV_of
  | with_reducible apply ev_reprV
  | ((with_reducible apply reprK_l (c := 0)); exact rfl)
  | ((with_reducible apply reprK_d); exact rfl)
  | with_reducible apply ev_fnS
  | with_reducible apply ev_cm
  | with_reducible apply ev_mkS
  | with_reducible apply ev_methS
  | with_reducible apply ev_call
  | with_reducible apply ev_tup
  | with_reducible apply ev_lst
  | with_reducible apply ev_not
  | ((with_reducible apply iteK_t); walk_at "tt")
  | ((with_reducible apply iteK_f); walk_at "tt")
  | with_reducible apply ev_if
  | with_reducible apply ev_and
  | with_reducible apply ev_or
  | with_reducible apply ev_bVal
  | with_reducible apply ev_bTruth
  | with_reducible apply ev_bNot
  | with_reducible apply ev_bAnd
  | with_reducible apply ev_bOr)
local macro_rules | `(tactic| walk_at "ev2") => `(tactic| first
  | with_reducible apply ev_seq
  | with_reducible apply seqK_nx
  | ((with_reducible show seqK _ _ = some _); exact rfl)
  | with_reducible apply ev_set
  | with_reducible apply ev_sif
  | with_reducible apply ev_ret
  | with_reducible exact ev_snil
  | with_reducible apply ev_par2
  | with_reducible apply ev_par3
  | with_reducible apply ev_asg
  | with_reducible apply ev_exp
  | with_reducible apply ev_mut
  | with_reducible apply ev_fld
  | with_reducible apply ev_gset
  | with_reducible apply ev_gtup
  | with_reducible apply ev_gsc
  | with_reducible exact ev_gsn
  | with_reducible apply ev_gix
  | with_reducible exact SetAt.zero
  | with_reducible apply SetAt.succ
  | with_reducible exact Pad.nil
  | with_reducible apply Pad.cons
  | with_reducible apply Pad.und
  | with_reducible exact WipeAt.nil
  | with_reducible apply WipeAt.cons
  | with_reducible exact fz_nil
  | ((with_reducible apply fz_own); exact rfl)
  | with_reducible apply ev_fz
  | with_reducible apply ev_lc
  | with_reducible exact lc_nil
  | with_reducible apply lc_cons
  | with_reducible apply ev_zipA
  | with_reducible exact ZipAt.nil
  | with_reducible apply ZipAt.cons
  | with_reducible exact ev_jsN
  | with_reducible apply ev_jsC
  | ((with_reducible show _ ≤ sizeLine); exact Ln.ok (by walk_at "ln") rfl)
  | ((with_reducible show Nat.log2 _ < 1920); walk_at "bd")
  | with_reducible apply ev_fmtI
  | with_reducible apply ev_walk
  | with_reducible apply ev_fn)
local macro_rules | `(tactic| walk_at "ev") => `(tactic| repeat' (first | walk_at "rf" | walk_at "ev1" | walk_at "ev2" | walk_at "tb" | walk_at "call" | walk_at "pr"))
local macro_rules | `(tactic| walk_at "bd") => `(tactic| first | assumption | decide | omega)
local macro_rules | `(tactic| walk_at "tb") => `(tactic| first | with_reducible exact tb_0 _ | with_reducible exact tb_1 _ | with_reducible exact tb_2 _ | with_reducible exact tb_3 _ | with_reducible exact tb_4 _ | with_reducible exact tb_5 _ | with_reducible exact tb_6 _ | with_reducible exact tb_7 _ | with_reducible exact tb_8 _ | with_reducible exact tb_9 _ | with_reducible exact tb_10 _ | with_reducible exact tb_11 _ | with_reducible exact tb_12 _ | with_reducible exact tb_13 _ | with_reducible exact tb_14 _ | with_reducible exact tb_15 _ | with_reducible exact tb_16 _ | with_reducible exact tb_17 _)
def ratD (q : Rat) : D := .obj 0 [("_above", .int q.num), ("_below", .int q.den)]
abbrev prD (q : Rat) : D := .tup [.int q.num, .int q.den]
abbrev gcdI (a b : Int) : Int := (Nat.gcd a.natAbs b.natAbs : Nat)
theorem low_p {a b : Int} (h : 0 < b) : a.fdiv (gcdI a b) = (Rat.divInt a b).num ∧ b.fdiv (gcdI a b) = ((Rat.divInt a b).den : Int) := by
  have e : gcdI a b = (Int.gcd b a : Int) := by rw [Int.gcd_comm]; rfl
  rw [e, Int.fdiv_eq_ediv_of_nonneg _ (by omega), Int.fdiv_eq_ediv_of_nonneg _ (by omega), Rat.num_divInt, Rat.den_divInt, if_neg (by omega), Int.sign_eq_one_of_pos h, Int.one_mul]
  refine ⟨rfl, ?_⟩
  rw [Int.natCast_ediv, Int.natAbs_of_nonneg (by omega)]
theorem low_n {a b : Int} (h : b < 0) : a.fdiv (-gcdI a b) = (Rat.divInt a b).num ∧ b.fdiv (-gcdI a b) = ((Rat.divInt a b).den : Int) := by
  have e : gcdI a b = (Int.gcd b a : Int) := by rw [Int.gcd_comm]; rfl
  have f : ∀ x : Int, x.fdiv (-gcdI a b) = (-x) / (Int.gcd b a : Int) := fun x => by
    have q := Int.neg_fdiv_neg (-x) (gcdI a b)
    rw [Int.neg_neg] at q
    rw [q, e, Int.fdiv_eq_ediv_of_nonneg _ (by omega)]
  rw [f, f, Rat.num_divInt, Rat.den_divInt, if_neg (by omega), Int.sign_eq_neg_one_of_neg h]
  refine ⟨by rw [Int.neg_one_mul], ?_⟩
  rw [Int.natCast_ediv]
  congr 1
  omega
theorem gcd_pos {a b : Int} (h : b ≠ 0) : 0 < gcdI a b := by
  have : 0 < Nat.gcd a.natAbs b.natAbs := Nat.gcd_pos_of_pos_right _ (by omega)
  show (0 : Int) < ((Nat.gcd a.natAbs b.natAbs : Nat) : Int)
  omega
theorem gcd_log {a b : Int} (h : b ≠ 0) (hb : b.natAbs.log2 < 9000) : (gcdI a b).natAbs.log2 < 9000 := by
  have h1 : Nat.gcd a.natAbs b.natAbs ≤ b.natAbs := Nat.gcd_le_right _ (by omega)
  have h0 := gcd_pos (a := a) h
  have e : (gcdI a b).natAbs = Nat.gcd a.natAbs b.natAbs := rfl
  rw [e]
  rw [Nat.log2_lt (by omega)] at hb ⊢
  omega
theorem F_is_integer (n : Nat) (i : Int) : d_is_integer.F (tab prg (n+1)) 60 [.dat (.int i)] = some (.dat (.bl true), [.dat (.int i)]) := by
  rw [den_is_integer]
  walk_at "ev"
local macro_rules | `(tactic| walk_at "call") => `(tactic| with_reducible apply F_is_integer)
theorem F_init_p (n : Nat) (a b : Int) (h : 0 < b) (hb : b.natAbs.log2 < 9000) : d_Ratio___init__.F (tab prg (n+2)) 60 [.own (.obj 0 []), .dat (.int a), .dat (.int b)] = some (.dat .non, [.own (ratD (Rat.divInt a b)), .dat (.int a), .dat (.int b)]) := by
  unfold ratD
  rw [← (low_p h).1, ← (low_p h).2, den_Ratio___init__]
  have hz : b ≠ 0 := by omega
  have h1 : (gcdI a b) ≠ 0 := by have := gcd_pos (a := a) hz; omega
  have h2 := gcd_log (a := a) hz hb
  walk_at "ev"
theorem F_init_n (n : Nat) (a b : Int) (h : b < 0) (hb : b.natAbs.log2 < 9000) : d_Ratio___init__.F (tab prg (n+2)) 60 [.own (.obj 0 []), .dat (.int a), .dat (.int b)] = some (.dat .non, [.own (ratD (Rat.divInt a b)), .dat (.int a), .dat (.int b)]) := by
  unfold ratD
  rw [← (low_n h).1, ← (low_n h).2, den_Ratio___init__]
  have hz : b ≠ 0 := by omega
  have hp : ¬ 0 < b := by omega
  have h1 : -(gcdI a b) ≠ 0 := by have := gcd_pos (a := a) hz; omega
  have h2 : (-(gcdI a b)).natAbs.log2 < 9000 := by rw [Int.natAbs_neg]; exact gcd_log (a := a) hz hb
  walk_at "ev"
end K51
end

section
set_option Elab.async false
set_option linter.all false
set_option maxRecDepth 100000
set_option maxHeartbeats 4000000
namespace K51
open PySem L2 Den PyProof.Rows
local macro_rules | `(tactic| walk_at "rf") => `(tactic| first
  | ((with_reducible show RV.cont _ _ = some _); exact rfl)
  | ((with_reducible show RV.dt _ = some _); exact rfl)
  | ((with_reducible show RV.cls _ = _); exact rfl)
  | ((with_reducible show RV.objf _ = _); exact rfl)
  | ((with_reducible show passE _ _ _ = some _); exact rfl)
  | ((with_reducible show BackAt _ _ _ _ _); first | exact BackAt.nil | apply BackAt.dat | apply BackAt.slot | apply BackAt.own)
  | ((with_reducible show onceB _ _ _ = true); exact rfl)
  | ((with_reducible show ownB _ _ _ = true); exact rfl)
  | ((with_reducible show pinned _ _ _ = false); exact rfl)
  | ((with_reducible show dts _ = some _); exact rfl)
  | ((with_reducible show conts _ _ = some _); exact rfl)
  | ((with_reducible show setSV _ _ = some _); exact rfl)
  | ((with_reducible show retK _ _ _ = some _); exact rfl)
  | ((with_reducible show fnK _ _ = some _); exact rfl)
  | ((with_reducible show List.length _ = _); exact rfl)
  | ((with_reducible show pick _ _ = _); exact rfl)
  | ((with_reducible show Nat.ble _ _ = true); exact rfl)
  | ((with_reducible show Nat.blt _ _ = true); exact rfl)
  | ((with_reducible show truthD _ = some _); exact rfl)
  | ((with_reducible show sideB _ _ = true); exact rfl)
  | ((with_reducible show intB _ = true); exact rfl)
  | ((with_reducible show eqSideB _ _ = true); exact rfl)
  | ((with_reducible show itemsD _ = some _); exact rfl)
  | ((with_reducible show putD _ _ _ = _); exact rfl)
  | ((with_reducible show List.lookup _ _ = _); exact rfl)
  | ((with_reducible show getElem? _ _ = some _); exact rfl)
  | with_reducible exact ixN0
  | with_reducible exact ixN1)
local macro_rules | `(tactic| walk_at "ln") => `(tactic| repeat' (first | with_reducible exact Ln.num (by walk_at "bd") | with_reducible exact Ln.lit | with_reducible exact Ln.emp | with_reducible apply Ln.app))
local macro_rules | `(tactic| walk_at "sa") => `(tactic| repeat' (first | with_reducible exact AppAt.nil | with_reducible apply AppAt.cons | with_reducible exact ZipAt.nil | with_reducible apply ZipAt.cons))
local macro_rules | `(tactic| walk_at "pr") => `(tactic| first
  | ((with_reducible apply ev_mul); walk_at "bd")
  | ((with_reducible apply ev_fdiv) <;> walk_at "bd")
  | ((with_reducible apply ev_mod); walk_at "bd")
  | ((with_reducible apply ev_divmod) <;> walk_at "bd")
  | ((with_reducible apply ev_pow) <;> walk_at "bd")
  | ((with_reducible apply ev_addS); exact Ln.ok2 (by walk_at "ln") (by walk_at "ln") rfl)
  | ((with_reducible apply ev_addL); walk_at "sa"; exact rfl)
  | ((with_reducible apply ev_append); walk_at "sa"; exact rfl)
  | ((with_reducible apply ev_strI); walk_at "bd")
  | with_reducible exact ev_twice
  | ((with_reducible show addD _ _ = some _); exact rfl)
  | ((with_reducible show subD _ _ = some _); exact rfl)
  | ((with_reducible show cmpD _ _ _ _ = some _); exact rfl)
  | ((with_reducible show isD _ _ _ = some _); exact rfl)
  | ((with_reducible show ixD _ _ = some _); exact rfl)
  | ((with_reducible show absD _ = some _); exact rfl)
  | ((with_reducible show max2D _ = some _); exact rfl)
  | ((with_reducible show min2D _ = some _); exact rfl)
  | ((with_reducible show int1D _ = some _); exact rfl)
  | ((with_reducible show lenD _ = some _); exact rfl)
  | ((with_reducible show gcdD _ = some _); exact rfl)
  | ((with_reducible show allD _ = some _); exact rfl)
  | ((with_reducible show isi2D _ _ = some _); exact rfl)
  | ((with_reducible show negD _ = some _); exact rfl)
  | ((with_reducible show appendD _ _ = some _); exact rfl)
  | ((with_reducible show eqD _ _ = some _); exact rfl)
  | ((with_reducible show neD _ _ = some _); exact rfl)
  | ((with_reducible show mul3D _ _ = some _); exact rfl))
local macro_rules | `(tactic| walk_at "tt") => `(tactic| first | with_reducible exact bne_self _ | exact rfl | assumption | (simp only [Bool.not_eq_true', Bool.not_eq_false', Bool.not_true, Bool.not_false, decide_eq_true_eq, decide_eq_false_iff_not, beq_iff_eq, bne_iff_ne, beq_eq_false_iff_ne, Bool.and_eq_true, Bool.and_true, Bool.true_and, if_true, Bool.false_eq_true, if_false]; first | done | assumption | omega) | (simp [*]; done))
local macro_rules | `(tactic| walk_at "ev1") => `(tactic| first
  | with_reducible exact ev_c
  | ((with_reducible show some _ = some _); with_reducible exact rfl)
  | ((with_reducible apply ev_vd); exact rfl)
  | ((with_reducible apply ev_vo); exact rfl)
  | ((with_reducible apply ev_vb); exact rfl)
  | with_reducible exact ev_aNil
  | with_reducible apply ev_aCons
  | with_reducible apply ev_aApp
  | with_reducible apply ev_aSel
  | with_reducible apply tail_of
  | with_reducible apply ev_binV
  | ((with_reducible apply binK_l (c := 0)); exact rfl)
  | ((with_reducible apply binK_r (c := 0)); exact rfl; exact rfl)
  | ((with_reducible apply binK_d); exact rfl; exact rfl)
  | with_reducible apply ev_bin
  | with_reducible apply ev_unV
  | ((with_reducible apply unK_l (c := 0)); exact rfl)
  | ((with_reducible apply unK_d); exact rfl)
  | with_reducible apply ev_cmpV
  | ((with_reducible apply cmpK_l (c := 0)); exact rfl)
  | ((with_reducible apply cmpK_d); exact rfl)
  | with_reducible apply ev_attrV
  | ((with_reducible apply attrK_l (c := 0)); exact rfl; walk_at "tb")
  | ((with_reducible apply attrK_f (c := 0)); exact rfl; walk_at "tb")
  | ((with_reducible apply attrK_s); exact rfl)
  | with_reducible apply fldV_of
  | with_reducible apply ev_reprV
  | ((with_reducible apply reprK_l (c := 0)); exact rfl)
  | ((with_reducible apply reprK_d); exact rfl)
  | with_reducible apply ev_fnS
  | with_reducible apply ev_cm
  | with_reducible apply ev_mkS
  | with_reducible apply ev_methS
  | with_reducible apply ev_call
  | with_reducible apply ev_tup
  | with_reducible apply ev_lst
  | with_reducible apply ev_not
  | ((with_reducible apply iteK_t); walk_at "tt")
  | ((with_reducible apply iteK_f); walk_at "tt")
  | with_reducible apply ev_if
  | with_reducible apply ev_and
  | with_reducible apply ev_or
  | with_reducible apply ev_bVal
  | with_reducible apply ev_bTruth
  | with_reducible apply ev_bNot
  | with_reducible apply ev_bAnd
  | with_reducible apply ev_bOr)
local macro_rules | `(tactic| walk_at "ev2") => `(tactic| first
  | with_reducible apply ev_seq
  | with_reducible apply seqK_nx
  | ((with_reducible show seqK _ _ = some _); exact rfl)
  | with_reducible apply ev_set
  | with_reducible apply ev_sif
  | with_reducible apply ev_ret
  | with_reducible exact ev_snil
  | with_reducible apply ev_par2
  | with_reducible apply ev_par3
  | with_reducible apply ev_asg
  | with_reducible apply ev_exp
  | with_reducible apply ev_mut
  | with_reducible apply ev_fld
  | with_reducible apply ev_gset
  | with_reducible apply ev_gtup
  | with_reducible apply ev_gsc
  | with_reducible exact ev_gsn
  | with_reducible apply ev_gix
  | with_reducible exact SetAt.zero
  | with_reducible apply SetAt.succ
  | with_reducible exact Pad.nil
  | with_reducible apply Pad.cons
  | with_reducible apply Pad.und
  | with_reducible exact WipeAt.nil
  | with_reducible apply WipeAt.cons
  | with_reducible exact fz_nil
  | ((with_reducible apply fz_own); exact rfl)
  | with_reducible apply ev_fz
  | with_reducible apply ev_lc
  | with_reducible exact lc_nil
  | with_reducible apply lc_cons
  | with_reducible apply ev_zipA
  | with_reducible exact ZipAt.nil
  | with_reducible apply ZipAt.cons
  | with_reducible exact ev_jsN
  | with_reducible apply ev_jsC
  | ((with_reducible show _ ≤ sizeLine); exact Ln.ok (by walk_at "ln") rfl)
  | ((with_reducible show Nat.log2 _ < 1920); walk_at "bd")
  | with_reducible apply ev_fmtI
  | with_reducible apply ev_walk
  | with_reducible apply ev_fn)
local macro_rules | `(tactic| walk_at "ev") => `(tactic| repeat' (first | walk_at "rf" | walk_at "ev1" | walk_at "ev2" | walk_at "tb" | walk_at "call" | walk_at "pr"))
local macro_rules | `(tactic| walk_at "bd") => `(tactic| first | assumption | decide | omega)
local macro_rules | `(tactic| walk_at "tb") => `(tactic| first | with_reducible exact tb_0 _ | with_reducible exact tb_1 _ | with_reducible exact tb_2 _ | with_reducible exact tb_3 _ | with_reducible exact tb_4 _ | with_reducible exact tb_5 _ | with_reducible exact tb_6 _ | with_reducible exact tb_7 _ | with_reducible exact tb_8 _ | with_reducible exact tb_9 _ | with_reducible exact tb_10 _ | with_reducible exact tb_11 _ | with_reducible exact tb_12 _ | with_reducible exact tb_13 _ | with_reducible exact tb_14 _ | with_reducible exact tb_15 _ | with_reducible exact tb_16 _ | with_reducible exact tb_17 _)
structure Bd (k : Nat) (q : Rat) : Prop where
  n : q.num.natAbs < 2 ^ k
  d : q.den < 2 ^ k
theorem log_lt {x k : Nat} (h : x < 2 ^ k) (hk : 0 < k) : x.log2 < k := by
  by_cases z : x = 0
  · subst z; simpa using hk
  · rwa [Nat.log2_lt z]
theorem mul_lt2 {x y k l : Nat} (h : x < 2 ^ k) (h' : y < 2 ^ l) : x * y < 2 ^ (k + l) := by
  rw [Nat.pow_add]
  exact Nat.mul_lt_mul'' h h'
section
variable {q r : Rat}
theorem Bd.nl (h : Bd 2000 q) : q.num.natAbs.log2 < 2000 := log_lt h.n (by decide)
theorem Bd.dl (h : Bd 2000 q) : (q.den : Int).natAbs.log2 < 2000 := log_lt h.d (by decide)
theorem den_ne (q : Rat) : (q.den : Int) ≠ 0 := by have := q.den_nz; omega
theorem prod_log {x y : Int} (h : x.natAbs < 2 ^ 2000) (h' : y.natAbs < 2 ^ 2000) : (x * y).natAbs.log2 < 9000 := by
  rw [Int.natAbs_mul]
  exact Nat.lt_of_lt_of_le (log_lt (mul_lt2 h h') (by decide)) (by decide)
theorem rat_add (q r : Rat) : Rat.divInt (q.num * r.den + r.num * q.den) ((q.den : Int) * (r.den : Int)) = q + r := by
  rw [Rat.add_def', ← Int.natCast_mul, Rat.divInt_ofNat]
theorem rat_mul (q r : Rat) : Rat.divInt (q.num * r.num) ((q.den : Int) * (r.den : Int)) = q * r := by
  rw [Rat.mul_def', ← Int.natCast_mul, Rat.divInt_ofNat]
theorem rat_neg (q : Rat) : Rat.divInt (-q.num) (q.den : Int) = -q := by
  rw [← Rat.neg_divInt, Rat.num_divInt_den]
theorem rat_over (q r : Rat) : Rat.divInt (q.num * r.den) ((q.den : Int) * r.num) = q / r := by
  rw [Rat.div_def, Rat.inv_def, ← Rat.divInt_mul_divInt, Rat.num_divInt_den]
theorem rat_int (i : Int) : Rat.divInt i 1 = (i : Rat) := by
  rw [show (1 : Int) = ((1 : Nat) : Int) from rfl, Rat.divInt_ofNat]
  exact Rat.mkRat_one i
end
theorem F_init (n : Nat) (a b : Int) (h : b ≠ 0) (hb : b.natAbs.log2 < 9000) : d_Ratio___init__.F (tab prg (n+2)) 60 [.own (.obj 0 []), .dat (.int a), .dat (.int b)] = some (.dat .non, [.own (ratD (Rat.divInt a b)), .dat (.int a), .dat (.int b)]) := by
  rcases Int.lt_or_lt_of_ne h with g | g
  · exact F_init_n n a b g hb
  · exact F_init_p n a b g hb
theorem F_above (n : Nat) (q : Rat) : d_Ratio_above.F (tab prg (n+1)) 60 [.dat (ratD q)] = some (.dat (.int q.num), [.dat (ratD q)]) := by
  rw [den_Ratio_above]
  walk_at "ev"
theorem F_below (n : Nat) (q : Rat) : d_Ratio_below.F (tab prg (n+1)) 60 [.dat (ratD q)] = some (.dat (.int q.den), [.dat (ratD q)]) := by
  rw [den_Ratio_below]
  walk_at "ev"
theorem F_pair (n : Nat) (q : Rat) : d_Ratio_pair.F (tab prg (n+1)) 60 [.dat (ratD q)] = some (.dat (prD q), [.dat (ratD q)]) := by
  rw [den_Ratio_pair]
  walk_at "ev"
theorem F_ratio_of_r (n : Nat) (q : Rat) : d_ratio_of.F (tab prg (n+3)) 60 [.dat (ratD q)] = some (.dat (ratD q), [.dat (ratD q)]) := by
  rw [den_ratio_of]
  walk_at "ev"
local macro_rules | `(tactic| walk_at "call") => `(tactic| (with_reducible apply F_init) <;> walk_at "bd")
theorem F_ratio_of_i (n : Nat) (i : Int) : d_ratio_of.F (tab prg (n+3)) 60 [.dat (.int i)] = some (.own (ratD (i : Rat)), [.dat (.int i)]) := by
  rw [den_ratio_of, ← rat_int]
  walk_at "ev"
end K51
end

section
set_option Elab.async false
set_option linter.all false
set_option maxRecDepth 100000
set_option maxHeartbeats 4000000
namespace K51
open PySem L2 Den PyProof.Rows
local macro_rules | `(tactic| walk_at "rf") => `(tactic| first
  | ((with_reducible show RV.cont _ _ = some _); exact rfl)
  | ((with_reducible show RV.dt _ = some _); exact rfl)
  | ((with_reducible show RV.cls _ = _); exact rfl)
  | ((with_reducible show RV.objf _ = _); exact rfl)
  | ((with_reducible show passE _ _ _ = some _); exact rfl)
  | ((with_reducible show BackAt _ _ _ _ _); first | exact BackAt.nil | apply BackAt.dat | apply BackAt.slot | apply BackAt.own)
  | ((with_reducible show onceB _ _ _ = true); exact rfl)
  | ((with_reducible show ownB _ _ _ = true); exact rfl)
  | ((with_reducible show pinned _ _ _ = false); exact rfl)
  | ((with_reducible show dts _ = some _); exact rfl)
  | ((with_reducible show conts _ _ = some _); exact rfl)
  | ((with_reducible show setSV _ _ = some _); exact rfl)
  | ((with_reducible show retK _ _ _ = some _); exact rfl)
  | ((with_reducible show fnK _ _ = some _); exact rfl)
  | ((with_reducible show List.length _ = _); exact rfl)
  | ((with_reducible show pick _ _ = _); exact rfl)
  | ((with_reducible show Nat.ble _ _ = true); exact rfl)
  | ((with_reducible show Nat.blt _ _ = true); exact rfl)
  | ((with_reducible show truthD _ = some _); exact rfl)
  | ((with_reducible show sideB _ _ = true); exact rfl)
  | ((with_reducible show intB _ = true); exact rfl)
  | ((with_reducible show eqSideB _ _ = true); exact rfl)
  | ((with_reducible show itemsD _ = some _); exact rfl)
  | ((with_reducible show putD _ _ _ = _); exact rfl)
  | ((with_reducible show List.lookup _ _ = _); exact rfl)
  | ((with_reducible show getElem? _ _ = some _); exact rfl)
  | with_reducible exact ixN0
  | with_reducible exact ixN1)
local macro_rules | `(tactic| walk_at "ln") => `(tactic| repeat' (first | with_reducible exact Ln.num (by walk_at "bd") | with_reducible exact Ln.lit | with_reducible exact Ln.emp | with_reducible apply Ln.app))
local macro_rules | `(tactic| walk_at "sa") => `(tactic| repeat' (first | with_reducible exact AppAt.nil | with_reducible apply AppAt.cons | with_reducible exact ZipAt.nil | with_reducible apply ZipAt.cons))
local macro_rules | `(tactic| walk_at "pr") => `(tactic| first
  | ((with_reducible apply ev_mul); walk_at "bd")
  | ((with_reducible apply ev_fdiv) <;> walk_at "bd")
  | ((with_reducible apply ev_mod); walk_at "bd")
  | ((with_reducible apply ev_divmod) <;> walk_at "bd")
  | ((with_reducible apply ev_pow) <;> walk_at "bd")
  | ((with_reducible apply ev_addS); exact Ln.ok2 (by walk_at "ln") (by walk_at "ln") rfl)
  | ((with_reducible apply ev_addL); walk_at "sa"; exact rfl)
  | ((with_reducible apply ev_append); walk_at "sa"; exact rfl)
  | ((with_reducible apply ev_strI); walk_at "bd")
  | with_reducible exact ev_twice
  | ((with_reducible show addD _ _ = some _); exact rfl)
  | ((with_reducible show subD _ _ = some _); exact rfl)
  | ((with_reducible show cmpD _ _ _ _ = some _); exact rfl)
  | ((with_reducible show isD _ _ _ = some _); exact rfl)
  | ((with_reducible show ixD _ _ = some _); exact rfl)
  | ((with_reducible show absD _ = some _); exact rfl)
  | ((with_reducible show max2D _ = some _); exact rfl)
  | ((with_reducible show min2D _ = some _); exact rfl)
  | ((with_reducible show int1D _ = some _); exact rfl)
  | ((with_reducible show lenD _ = some _); exact rfl)
  | ((with_reducible show gcdD _ = some _); exact rfl)
  | ((with_reducible show allD _ = some _); exact rfl)
  | ((with_reducible show isi2D _ _ = some _); exact rfl)
  | ((with_reducible show negD _ = some _); exact rfl)
  | ((with_reducible show appendD _ _ = some _); exact rfl)
  | ((with_reducible show eqD _ _ = some _); exact rfl)
  | ((with_reducible show neD _ _ = some _); exact rfl)
  | ((with_reducible show mul3D _ _ = some _); exact rfl))
local macro_rules | `(tactic| walk_at "tt") => `(tactic| first | with_reducible exact bne_self _ | exact rfl | assumption | (simp only [Bool.not_eq_true', Bool.not_eq_false', Bool.not_true, Bool.not_false, decide_eq_true_eq, decide_eq_false_iff_not, beq_iff_eq, bne_iff_ne, beq_eq_false_iff_ne, Bool.and_eq_true, Bool.and_true, Bool.true_and, if_true, Bool.false_eq_true, if_false]; first | done | assumption | omega) | (simp [*]; done))
local macro_rules | `(tactic| walk_at "ev1") => `(tactic| first
  | with_reducible exact ev_c
  | ((with_reducible show some _ = some _); with_reducible exact rfl)
  | ((with_reducible apply ev_vd); exact rfl)
  | ((with_reducible apply ev_vo); exact rfl)
  | ((with_reducible apply ev_vb); exact rfl)
  | with_reducible exact ev_aNil
  | with_reducible apply ev_aCons
  | with_reducible apply ev_aApp
  | with_reducible apply ev_aSel
  | with_reducible apply tail_of
  | with_reducible apply ev_binV
  | ((with_reducible apply binK_l (c := 0)); exact rfl)
  | ((with_reducible apply binK_r (c := 0)); exact rfl; exact rfl)
  | ((with_reducible apply binK_d); exact rfl; exact rfl)
  | with_reducible apply ev_bin
  | with_reducible apply ev_unV
  | ((with_reducible apply unK_l (c := 0)); exact rfl)
  | ((with_reducible apply unK_d); exact rfl)
  | with_reducible apply ev_cmpV
  | ((with_reducible apply cmpK_l (c := 0)); exact rfl)
  | ((with_reducible apply cmpK_d); exact rfl)
  | with_reducible apply ev_attrV
  | ((with_reducible apply attrK_l (c := 0)); exact rfl; walk_at "tb")
  | ((with_reducible apply attrK_f (c := 0)); exact rfl; walk_at "tb")
  | ((with_reducible apply attrK_s); exact rfl)
  | with_reducible apply fldV_of
  | with_reducible apply ev_reprV
  | ((with_reducible apply reprK_l (c := 0)); exact rfl)
  | ((with_reducible apply reprK_d); exact rfl)
  | with_reducible apply ev_fnS
  | with_reducible apply ev_cm
  | with_reducible apply ev_mkS
  | with_reducible apply ev_methS
  | with_reducible apply ev_call
  | with_reducible apply ev_tup
  | with_reducible apply ev_lst
  | with_reducible apply ev_not
  | ((with_reducible apply iteK_t); walk_at "tt")
  | ((with_reducible apply iteK_f); walk_at "tt")
  | with_reducible apply ev_if
  | with_reducible apply ev_and
  | with_reducible apply ev_or
  | with_reducible apply ev_bVal
  | with_reducible apply ev_bTruth
  | with_reducible apply ev_bNot
  | with_reducible apply ev_bAnd
  | with_reducible apply ev_bOr)
local macro_rules | `(tactic| walk_at "ev2") => `(tactic| first
  | with_reducible apply ev_seq
  | with_reducible apply seqK_nx
  | ((with_reducible show seqK _ _ = some _); exact rfl)
  | with_reducible apply ev_set
  | with_reducible apply ev_sif
  | with_reducible apply ev_ret
  | with_reducible exact ev_snil
  | with_reducible apply ev_par2
  | with_reducible apply ev_par3
  | with_reducible apply ev_asg
  | with_reducible apply ev_exp
  | with_reducible apply ev_mut
  | with_reducible apply ev_fld
  | with_reducible apply ev_gset
  | with_reducible apply ev_gtup
  | with_reducible apply ev_gsc
  | with_reducible exact ev_gsn
  | with_reducible apply ev_gix
  | with_reducible exact SetAt.zero
  | with_reducible apply SetAt.succ
  | with_reducible exact Pad.nil
  | with_reducible apply Pad.cons
  | with_reducible apply Pad.und
  | with_reducible exact WipeAt.nil
  | with_reducible apply WipeAt.cons
  | with_reducible exact fz_nil
  | ((with_reducible apply fz_own); exact rfl)
  | with_reducible apply ev_fz
  | with_reducible apply ev_lc
  | with_reducible exact lc_nil
  | with_reducible apply lc_cons
  | with_reducible apply ev_zipA
  | with_reducible exact ZipAt.nil
  | with_reducible apply ZipAt.cons
  | with_reducible exact ev_jsN
  | with_reducible apply ev_jsC
  | ((with_reducible show _ ≤ sizeLine); exact Ln.ok (by walk_at "ln") rfl)
  | ((with_reducible show Nat.log2 _ < 1920); walk_at "bd")
  | with_reducible apply ev_fmtI
  | with_reducible apply ev_walk
  | with_reducible apply ev_fn)
local macro_rules | `(tactic| walk_at "ev") => `(tactic| repeat' (first | walk_at "rf" | walk_at "ev1" | walk_at "ev2" | walk_at "tb" | walk_at "call" | walk_at "pr"))
local macro_rules | `(tactic| walk_at "bd") => `(tactic| first | assumption | decide | omega)
local macro_rules | `(tactic| walk_at "tb") => `(tactic| first | with_reducible exact tb_0 _ | with_reducible exact tb_1 _ | with_reducible exact tb_2 _ | with_reducible exact tb_3 _ | with_reducible exact tb_4 _ | with_reducible exact tb_5 _ | with_reducible exact tb_6 _ | with_reducible exact tb_7 _ | with_reducible exact tb_8 _ | with_reducible exact tb_9 _ | with_reducible exact tb_10 _ | with_reducible exact tb_11 _ | with_reducible exact tb_12 _ | with_reducible exact tb_13 _ | with_reducible exact tb_14 _ | with_reducible exact tb_15 _ | with_reducible exact tb_16 _ | with_reducible exact tb_17 _)
section
variable {q r : Rat}
theorem b_nd (h : Bd 2000 q) (h' : Bd 2000 r) : q.num.natAbs.log2 + (r.den : Int).natAbs.log2 < 1000000 := by have := h.nl; have := h'.dl; omega
theorem b_nn (h : Bd 2000 q) (h' : Bd 2000 r) : q.num.natAbs.log2 + r.num.natAbs.log2 < 1000000 := by have := h.nl; have := h'.nl; omega
theorem b_dd (h : Bd 2000 q) (h' : Bd 2000 r) : (q.den : Int).natAbs.log2 + (r.den : Int).natAbs.log2 < 1000000 := by have := h.dl; have := h'.dl; omega
theorem b_dn (h : Bd 2000 q) (h' : Bd 2000 r) : (q.den : Int).natAbs.log2 + r.num.natAbs.log2 < 1000000 := by have := h.dl; have := h'.nl; omega
theorem b_ddz : (q.den : Int) * (r.den : Int) ≠ 0 := Int.mul_ne_zero (den_ne q) (den_ne r)
theorem b_ddl (h : Bd 2000 q) (h' : Bd 2000 r) : ((q.den : Int) * (r.den : Int)).natAbs.log2 < 9000 := prod_log h.d h'.d
theorem b_dnz (h : r.num ≠ 0) : (q.den : Int) * r.num ≠ 0 := Int.mul_ne_zero (den_ne q) h
theorem b_dnl (h : Bd 2000 q) (h' : Bd 2000 r) : ((q.den : Int) * r.num).natAbs.log2 < 9000 := prod_log h.d h'.n
theorem b_dl (h : Bd 2000 q) : (q.den : Int).natAbs.log2 < 9000 := by have := h.dl; omega
end
local macro_rules | `(tactic| walk_at "bd") => `(tactic| first | assumption | exact b_ddz | exact den_ne _ | exact b_nd (by assumption) (by assumption) | exact b_nn (by assumption) (by assumption) | exact b_dd (by assumption) (by assumption) | exact b_dn (by assumption) (by assumption) | exact b_ddl (by assumption) (by assumption) | exact b_dnz (by assumption) | exact b_dnl (by assumption) (by assumption) | exact b_dl (by assumption))
local macro_rules | `(tactic| walk_at "call") => `(tactic| first | with_reducible apply F_above | with_reducible apply F_below | with_reducible apply F_ratio_of_r | with_reducible apply F_ratio_of_i | ((with_reducible apply F_init) <;> walk_at "bd"))
theorem F_add_r (n : Nat) (q r : Rat) (hq : Bd 2000 q) (hr : Bd 2000 r) : d_Ratio___add__.F (tab prg (n+4)) 60 [.dat (ratD q), .dat (ratD r)] = some (.own (ratD (q + r)), [.dat (ratD q), .dat (ratD r)]) := by
  rw [den_Ratio___add__, ← rat_add]
  walk_at "ev"
theorem F_add_i (n : Nat) (q : Rat) (i : Int) (hq : Bd 2000 q) (hr : Bd 2000 (i : Rat)) : d_Ratio___add__.F (tab prg (n+4)) 60 [.dat (ratD q), .dat (.int i)] = some (.own (ratD (q + (i : Rat))), [.dat (ratD q), .dat (.int i)]) := by
  rw [den_Ratio___add__, ← rat_add]
  walk_at "ev"
theorem F_mul_r (n : Nat) (q r : Rat) (hq : Bd 2000 q) (hr : Bd 2000 r) : d_Ratio___mul__.F (tab prg (n+4)) 60 [.dat (ratD q), .dat (ratD r)] = some (.own (ratD (q * r)), [.dat (ratD q), .dat (ratD r)]) := by
  rw [den_Ratio___mul__, ← rat_mul]
  walk_at "ev"
theorem F_mul_i (n : Nat) (q : Rat) (i : Int) (hq : Bd 2000 q) (hr : Bd 2000 (i : Rat)) : d_Ratio___mul__.F (tab prg (n+4)) 60 [.dat (ratD q), .dat (.int i)] = some (.own (ratD (q * (i : Rat))), [.dat (ratD q), .dat (.int i)]) := by
  rw [den_Ratio___mul__, ← rat_mul]
  walk_at "ev"
theorem F_neg (n : Nat) (q : Rat) (hq : Bd 2000 q) : d_Ratio___neg__.F (tab prg (n+3)) 60 [.dat (ratD q)] = some (.own (ratD (-q)), [.dat (ratD q)]) := by
  rw [den_Ratio___neg__, ← rat_neg]
  walk_at "ev"
theorem F_over_r (n : Nat) (q r : Rat) (hq : Bd 2000 q) (hr : Bd 2000 r) (hz : r.num ≠ 0) : d_Ratio_over.F (tab prg (n+4)) 60 [.dat (ratD q), .dat (ratD r)] = some (.own (ratD (q / r)), [.dat (ratD q), .dat (ratD r)]) := by
  rw [den_Ratio_over, ← rat_over]
  walk_at "ev"
theorem F_over_i (n : Nat) (q : Rat) (i : Int) (hq : Bd 2000 q) (hr : Bd 2000 (i : Rat)) (hz : (i : Rat).num ≠ 0) : d_Ratio_over.F (tab prg (n+4)) 60 [.dat (ratD q), .dat (.int i)] = some (.own (ratD (q / (i : Rat))), [.dat (ratD q), .dat (.int i)]) := by
  rw [den_Ratio_over, ← rat_over]
  walk_at "ev"
theorem Bd.neg {q : Rat} {k : Nat} (h : Bd k q) : Bd k (-q) := ⟨by rw [Rat.neg_num, Int.natAbs_neg]; exact h.n, h.d⟩
local macro_rules | `(tactic| walk_at "call") => `(tactic| first | ((with_reducible apply F_neg) <;> walk_at "bd") | ((with_reducible apply F_add_r) <;> first | assumption | (exact Bd.neg (by assumption))) | ((with_reducible apply F_add_i) <;> assumption))
theorem F_sub_r (n : Nat) (q r : Rat) (hq : Bd 2000 q) (hr : Bd 2000 r) : d_Ratio___sub__.F (tab prg (n+5)) 60 [.dat (ratD q), .dat (ratD r)] = some (.own (ratD (q + -r)), [.dat (ratD q), .dat (ratD r)]) := by
  rw [den_Ratio___sub__]
  walk_at "ev"
theorem F_sub_i (n : Nat) (q : Rat) (i : Int) (hq : Bd 2000 q) (hr : Bd 2000 (i : Rat)) : d_Ratio___sub__.F (tab prg (n+5)) 60 [.dat (ratD q), .dat (.int i)] = some (.own (ratD (q + -(i : Rat))), [.dat (ratD q), .dat (.int i)]) := by
  rw [den_Ratio___sub__]
  walk_at "ev"
local macro_rules | `(tactic| walk_at "call") => `(tactic| first | ((with_reducible apply F_sub_r) <;> assumption) | ((with_reducible apply F_mul_i) <;> assumption))
theorem F_rsub (n : Nat) (q : Rat) (i : Int) (hq : Bd 2000 q) (hr : Bd 2000 (i : Rat)) : d_Ratio___rsub__.F (tab prg (n+6)) 60 [.dat (ratD q), .dat (.int i)] = some (.own (ratD ((i : Rat) + -q)), [.dat (ratD q), .dat (.int i)]) := by
  rw [den_Ratio___rsub__]
  walk_at "ev"
theorem F_radd (n : Nat) (q : Rat) (i : Int) (hq : Bd 2000 q) (hr : Bd 2000 (i : Rat)) : d_Ratio___radd__.F (tab prg (n+5)) 60 [.dat (ratD q), .dat (.int i)] = some (.own (ratD (q + (i : Rat))), [.dat (ratD q), .dat (.int i)]) := by
  rw [den_Ratio___radd__]
  walk_at "ev"
theorem F_rmul (n : Nat) (q : Rat) (i : Int) (hq : Bd 2000 q) (hr : Bd 2000 (i : Rat)) : d_Ratio___rmul__.F (tab prg (n+5)) 60 [.dat (ratD q), .dat (.int i)] = some (.own (ratD (q * (i : Rat))), [.dat (ratD q), .dat (.int i)]) := by
  rw [den_Ratio___rmul__]
  walk_at "ev"
theorem F_eq_t (n : Nat) (q r : Rat) (h : q = r) : d_Ratio___eq__.F (tab prg (n+1)) 60 [.dat (ratD q), .dat (ratD r)] = some (.dat (.bl true), [.dat (ratD q), .dat (ratD r)]) := by
  subst h
  have h1 : (q.num == q.num) = true := beq_self_eq_true _
  have h2 : ((q.den : Int) == (q.den : Int)) = true := beq_self_eq_true _
  rw [den_Ratio___eq__, ← h2]
  walk_at "ev"
theorem F_eq_f (n : Nat) (q r : Rat) (h : q ≠ r) : d_Ratio___eq__.F (tab prg (n+1)) 60 [.dat (ratD q), .dat (ratD r)] = some (.dat (.bl false), [.dat (ratD q), .dat (ratD r)]) := by
  rw [den_Ratio___eq__]
  by_cases h1 : q.num = r.num
  · have h2 : ((q.den : Int) == (r.den : Int)) = false := by
      rw [beq_eq_false_iff_ne]
      intro e
      exact h (Rat.ext h1 (by omega))
    have h1' : (q.num == r.num) = true := by rw [beq_iff_eq]; exact h1
    rw [← h2]
    walk_at "ev"
  · have h1' : (q.num == r.num) = false := by rw [beq_eq_false_iff_ne]; exact h1
    rw [← h1']
    walk_at "ev"
theorem F_eq_i (n : Nat) (q : Rat) (i : Int) : d_Ratio___eq__.F (tab prg (n+1)) 60 [.dat (ratD q), .dat (.int i)] = some (.dat (.bl false), [.dat (ratD q), .dat (.int i)]) := by
  rw [den_Ratio___eq__]
  walk_at "ev"
theorem F_eq_p (n : Nat) (q r : Rat) : d_Ratio___eq__.F (tab prg (n+1)) 60 [.dat (ratD q), .dat (prD r)] = some (.dat (.bl false), [.dat (ratD q), .dat (prD r)]) := by
  rw [den_Ratio___eq__]
  walk_at "ev"
def repS (q : Rat) : Str := Str.ofString "Ratio(" ++ Str.ofString (toString q.num) ++ Str.ofString ", " ++ Str.ofString (toString (q.den : Int)) ++ Str.ofString ")"
theorem F_repr (n : Nat) (q : Rat) (h1 : q.num.natAbs.log2 < 1920) (h2 : (q.den : Int).natAbs.log2 < 1920) : d_Ratio___repr__.F (tab prg (n+1)) 60 [.dat (ratD q)] = some (.dat (.str (repS q)), [.dat (ratD q)]) := by
  unfold repS
  rw [← Str.empty_append (Str.ofString "Ratio("), den_Ratio___repr__]
  walk_at "ev"
end K51
end

section
set_option Elab.async false
set_option linter.all false
set_option maxRecDepth 100000
set_option maxHeartbeats 4000000
namespace K51
open PySem L2 Den PyProof.Rows
local macro_rules | `(tactic| walk_at "rf") => `(tactic| first
  | ((with_reducible show RV.cont _ _ = some _); exact rfl)
  | ((with_reducible show RV.dt _ = some _); exact rfl)
  | ((with_reducible show RV.cls _ = _); exact rfl)
  | ((with_reducible show RV.objf _ = _); exact rfl)
  | ((with_reducible show passE _ _ _ = some _); exact rfl)
  | ((with_reducible show BackAt _ _ _ _ _); first | exact BackAt.nil | apply BackAt.dat | apply BackAt.slot | apply BackAt.own)
  | ((with_reducible show onceB _ _ _ = true); exact rfl)
  | ((with_reducible show ownB _ _ _ = true); exact rfl)
  | ((with_reducible show pinned _ _ _ = false); exact rfl)
  | ((with_reducible show dts _ = some _); exact rfl)
  | ((with_reducible show conts _ _ = some _); exact rfl)
  | ((with_reducible show setSV _ _ = some _); exact rfl)
  | ((with_reducible show retK _ _ _ = some _); exact rfl)
  | ((with_reducible show fnK _ _ = some _); exact rfl)
  | ((with_reducible show List.length _ = _); exact rfl)
  | ((with_reducible show pick _ _ = _); exact rfl)
  | ((with_reducible show Nat.ble _ _ = true); exact rfl)
  | ((with_reducible show Nat.blt _ _ = true); exact rfl)
  | ((with_reducible show truthD _ = some _); exact rfl)
  | ((with_reducible show sideB _ _ = true); exact rfl)
  | ((with_reducible show intB _ = true); exact rfl)
  | ((with_reducible show eqSideB _ _ = true); exact rfl)
  | ((with_reducible show itemsD _ = some _); exact rfl)
  | ((with_reducible show putD _ _ _ = _); exact rfl)
  | ((with_reducible show List.lookup _ _ = _); exact rfl)
  | ((with_reducible show getElem? _ _ = some _); exact rfl)
  | with_reducible exact ixN0
  | with_reducible exact ixN1)
local macro_rules | `(tactic| walk_at "ln") => `(tactic| repeat' (first | with_reducible exact Ln.num (by walk_at "bd") | with_reducible exact Ln.lit | with_reducible exact Ln.emp | with_reducible apply Ln.app))
local macro_rules | `(tactic| walk_at "sa") => `(tactic| repeat' (first | with_reducible exact AppAt.nil | with_reducible apply AppAt.cons | with_reducible exact ZipAt.nil | with_reducible apply ZipAt.cons))
local macro_rules | `(tactic| walk_at "pr") => `(tactic| first
  | ((with_reducible apply ev_mul); walk_at "bd")
  | ((with_reducible apply ev_fdiv) <;> walk_at "bd")
  | ((with_reducible apply ev_mod); walk_at "bd")
  | ((with_reducible apply ev_divmod) <;> walk_at "bd")
  | ((with_reducible apply ev_pow) <;> walk_at "bd")
  | ((with_reducible apply ev_addS); exact Ln.ok2 (by walk_at "ln") (by walk_at "ln") rfl)
  | ((with_reducible apply ev_addL); walk_at "sa"; exact rfl)
  | ((with_reducible apply ev_append); walk_at "sa"; exact rfl)
  | ((with_reducible apply ev_strI); walk_at "bd")
  | with_reducible exact ev_twice
  | ((with_reducible show addD _ _ = some _); exact rfl)
  | ((with_reducible show subD _ _ = some _); exact rfl)
  | ((with_reducible show cmpD _ _ _ _ = some _); exact rfl)
  | ((with_reducible show isD _ _ _ = some _); exact rfl)
  | ((with_reducible show ixD _ _ = some _); exact rfl)
  | ((with_reducible show absD _ = some _); exact rfl)
  | ((with_reducible show max2D _ = some _); exact rfl)
  | ((with_reducible show min2D _ = some _); exact rfl)
  | ((with_reducible show int1D _ = some _); exact rfl)
  | ((with_reducible show lenD _ = some _); exact rfl)
  | ((with_reducible show gcdD _ = some _); exact rfl)
  | ((with_reducible show allD _ = some _); exact rfl)
  | ((with_reducible show isi2D _ _ = some _); exact rfl)
  | ((with_reducible show negD _ = some _); exact rfl)
  | ((with_reducible show appendD _ _ = some _); exact rfl)
  | ((with_reducible show eqD _ _ = some _); exact rfl)
  | ((with_reducible show neD _ _ = some _); exact rfl)
  | ((with_reducible show mul3D _ _ = some _); exact rfl))
local macro_rules | `(tactic| walk_at "tt") => `(tactic| first | with_reducible exact bne_self _ | exact rfl | assumption | (simp only [Bool.not_eq_true', Bool.not_eq_false', Bool.not_true, Bool.not_false, decide_eq_true_eq, decide_eq_false_iff_not, beq_iff_eq, bne_iff_ne, beq_eq_false_iff_ne, Bool.and_eq_true, Bool.and_true, Bool.true_and, if_true, Bool.false_eq_true, if_false]; first | done | assumption | omega) | (simp [*]; done))
local macro_rules | `(tactic| walk_at "ev1") => `(tactic| first
  | with_reducible exact ev_c
  | ((with_reducible show some _ = some _); with_reducible exact rfl)
  | ((with_reducible apply ev_vd); exact rfl)
  | ((with_reducible apply ev_vo); exact rfl)
  | ((with_reducible apply ev_vb); exact rfl)
  | with_reducible exact ev_aNil
  | with_reducible apply ev_aCons
  | with_reducible apply ev_aApp
  | with_reducible apply ev_aSel
  | with_reducible apply tail_of
  | with_reducible apply ev_binV
  | ((with_reducible apply binK_l (c := 0)); exact rfl)
  | ((with_reducible apply binK_r (c := 0)); exact rfl; exact rfl)
  | ((with_reducible apply binK_d); exact rfl; exact rfl)
  | with_reducible apply ev_bin
  | with_reducible apply ev_unV
  | ((with_reducible apply unK_l (c := 0)); exact rfl)
  | ((with_reducible apply unK_d); exact rfl)
  | with_reducible apply ev_cmpV
  | ((with_reducible apply cmpK_l (c := 0)); exact rfl)
  | ((with_reducible apply cmpK_d); exact rfl)
  | with_reducible apply ev_attrV
  | ((with_reducible apply attrK_l (c := 0)); exact rfl; walk_at "tb")
  | ((with_reducible apply attrK_f (c := 0)); exact rfl; walk_at "tb")
  | ((with_reducible apply attrK_s); exact rfl)
  | with_reducible apply fldV_of
  | with_reducible apply ev_reprV
  | ((with_reducible apply reprK_l (c := 0)); exact rfl)
  | ((with_reducible apply reprK_d); exact rfl)
  | with_reducible apply ev_fnS
  | with_reducible apply ev_cm
  | with_reducible apply ev_mkS
  | with_reducible apply ev_methS
  | with_reducible apply ev_call
  | with_reducible apply ev_tup
  | with_reducible apply ev_lst
  | with_reducible apply ev_not
  | ((with_reducible apply iteK_t); walk_at "tt")
  | ((with_reducible apply iteK_f); walk_at "tt")
  | with_reducible apply ev_if
  | with_reducible apply ev_and
  | with_reducible apply ev_or
  | with_reducible apply ev_bVal
  | with_reducible apply ev_bTruth
  | with_reducible apply ev_bNot
  | with_reducible apply ev_bAnd
  | with_reducible apply ev_bOr)
local macro_rules | `(tactic| walk_at "ev2") => `(tactic| first
  | with_reducible apply ev_seq
  | with_reducible apply seqK_nx
  | ((with_reducible show seqK _ _ = some _); exact rfl)
  | with_reducible apply ev_set
  | with_reducible apply ev_sif
  | with_reducible apply ev_ret
  | with_reducible exact ev_snil
  | with_reducible apply ev_par2
  | with_reducible apply ev_par3
  | with_reducible apply ev_asg
  | with_reducible apply ev_exp
  | with_reducible apply ev_mut
  | with_reducible apply ev_fld
  | with_reducible apply ev_gset
  | with_reducible apply ev_gtup
  | with_reducible apply ev_gsc
  | with_reducible exact ev_gsn
  | with_reducible apply ev_gix
  | with_reducible exact SetAt.zero
  | with_reducible apply SetAt.succ
  | with_reducible exact Pad.nil
  | with_reducible apply Pad.cons
  | with_reducible apply Pad.und
  | with_reducible exact WipeAt.nil
  | with_reducible apply WipeAt.cons
  | with_reducible exact fz_nil
  | ((with_reducible apply fz_own); exact rfl)
  | with_reducible apply ev_fz
  | with_reducible apply ev_lc
  | with_reducible exact lc_nil
  | with_reducible apply lc_cons
  | with_reducible apply ev_zipA
  | with_reducible exact ZipAt.nil
  | with_reducible apply ZipAt.cons
  | with_reducible exact ev_jsN
  | with_reducible apply ev_jsC
  | ((with_reducible show _ ≤ sizeLine); exact Ln.ok (by walk_at "ln") rfl)
  | ((with_reducible show Nat.log2 _ < 1920); walk_at "bd")
  | with_reducible apply ev_fmtI
  | with_reducible apply ev_walk
  | with_reducible apply ev_fn)
local macro_rules | `(tactic| walk_at "ev") => `(tactic| repeat' (first | walk_at "rf" | walk_at "ev1" | walk_at "ev2" | walk_at "tb" | walk_at "call" | walk_at "pr"))
local macro_rules | `(tactic| walk_at "bd") => `(tactic| first | assumption | decide | omega)
local macro_rules | `(tactic| walk_at "tb") => `(tactic| first | with_reducible exact tb_0 _ | with_reducible exact tb_1 _ | with_reducible exact tb_2 _ | with_reducible exact tb_3 _ | with_reducible exact tb_4 _ | with_reducible exact tb_5 _ | with_reducible exact tb_6 _ | with_reducible exact tb_7 _ | with_reducible exact tb_8 _ | with_reducible exact tb_9 _ | with_reducible exact tb_10 _ | with_reducible exact tb_11 _ | with_reducible exact tb_12 _ | with_reducible exact tb_13 _ | with_reducible exact tb_14 _ | with_reducible exact tb_15 _ | with_reducible exact tb_16 _ | with_reducible exact tb_17 _)
abbrev natI (x : Nat) : D := .int (x : Int)
/-- the loop of the common divisor -/
theorem eu_go {c : BF} {b : SF} {np : Nat} (hc : ∀ x y : Nat, c [.dat (natI x), .dat (natI y)] = some (decide (y ≠ 0), [.dat (natI x), .dat (natI y)])) (ho : ∀ x y : Nat, ownB np [.dat (natI x), .dat (natI y)] [.dat (natI x), .dat (natI y)] = true)
    (hb : ∀ x y : Nat, y ≠ 0 → b [.dat (natI x), .dat (natI y)] = some (.nx [.dat (natI y), .dat (natI (x % y))])) : ∀ (m x y f : Nat), y < 2 ^ m → 2 * m + 2 ≤ f → whileF np c b f [.dat (natI x), .dat (natI y)] = some (.nx [.dat (natI (Nat.gcd x y)), .dat (natI 0)]) := by
  have z : ∀ f x, whileF np c b (f + 1) [.dat (natI x), .dat (natI 0)] = some (.nx [.dat (natI (Nat.gcd x 0)), .dat (natI 0)]) := fun f x => by
    unfold whileF
    rw [hc]
    simp only [Option.bind_some, ho, if_true, ne_eq, not_true_eq_false, decide_false, Bool.false_eq_true, if_false, Nat.gcd_zero_right]
  have st : ∀ f x y, y ≠ 0 → whileF np c b (f + 1) [.dat (natI x), .dat (natI y)] = whileF np c b f [.dat (natI y), .dat (natI (x % y))] := fun f x y h => by
    rw [whileF, hc]
    simp only [Option.bind_some, ho, if_true, ne_eq, h, not_false_eq_true, decide_true, hb x y h]
  intro m
  induction m with
  | zero =>
    intro x y f h hf
    have : y = 0 := by simpa using h
    subst this
    obtain ⟨f, rfl⟩ : ∃ g, f = g + 1 := ⟨f - 1, by omega⟩
    exact z f x
  | succ m ih =>
    intro x y f h hf
    obtain ⟨f, rfl⟩ : ∃ g, f = g + 2 := ⟨f - 2, by omega⟩
    by_cases hy : y = 0
    · subst hy; exact z (f + 1) x
    · rw [st (f + 1) x y hy, Nat.gcd_comm x y, Nat.gcd_rec y x, Nat.gcd_comm]
      by_cases hz : x % y = 0
      · rw [hz]; exact z f y
      · have l1 : x % y < y := Nat.mod_lt _ (by omega)
        have l2 : y % (x % y) < x % y := Nat.mod_lt _ (by omega)
        have l3 : y % (x % y) + (x % y) ≤ y := by
          have := Nat.div_add_mod y (x % y)
          have h1 : 1 ≤ y / (x % y) := (Nat.one_le_div_iff (by omega)).mpr (by omega)
          have h2 : (x % y) * 1 ≤ (x % y) * (y / (x % y)) := Nat.mul_le_mul_left _ h1
          omega
        have e2 : 2 ^ (m + 1) = 2 * 2 ^ m := by rw [Nat.pow_succ, Nat.mul_comm]
        rw [st f y (x % y) hz, Nat.gcd_comm y (x % y), Nat.gcd_rec (x % y) y, Nat.gcd_comm]
        exact ih _ _ _ (by omega) (by omega)
theorem absI (a : Int) : (if a < 0 then -a else a) = (a.natAbs : Int) := by split <;> omega
theorem F_common (n : Nat) (a b : Int) (hb : b.natAbs < 2 ^ 2000) : d__law_common.F (tab prg (n+1)) 60 [.dat (.int a), .dat (.int b)] = some (.dat (.int (gcdI a b)), [.dat (.int a), .dat (.int b)]) := by
  rw [den__law_common]
  refine ev_fn (e0 := [.dat (.int a), .dat (.int b)]) (.cons (.cons .nil)) (o := .rt (.dat (.int (gcdI a b))) [.dat (.int (gcdI a b)), .dat (natI 0)]) ?_ rfl
  refine ev_seq (o1 := .nx [.dat (natI a.natAbs), .dat (natI b.natAbs)]) ?_ (seqK_nx (ev_seq (o1 := .nx [.dat (.int (gcdI a b)), .dat (natI 0)]) ?_ (seqK_nx ?_)))
  · unfold natI
    rw [← absI a, ← absI b]
    walk_at "ev"
  · refine eu_go (m := 2000) (fun x y => ?_) (fun x y => rfl) (fun x y h => ?_) _ _ _ hb (by decide)
    · have : (!((y : Int) == 0)) = decide (y ≠ 0) := by
        by_cases h : y = 0
        · subst h; rfl
        · have h' : ((y : Int) == 0) = false := by rw [beq_eq_false_iff_ne]; omega
          rw [h']; simp [h]
      rw [← this]
      walk_at "ev"
    · have hp : 0 < (y : Int) := by omega
      unfold natI
      rw [Int.natCast_emod]
      walk_at "ev"
  · walk_at "ev"
end K51
end

section
set_option Elab.async false
set_option linter.all false
set_option maxRecDepth 100000
set_option maxHeartbeats 4000000
namespace K51
open PySem L2 Den PyProof.Rows
local macro_rules | `(tactic| walk_at "rf") => `(tactic| first
  | ((with_reducible show RV.cont _ _ = some _); exact rfl)
  | ((with_reducible show RV.dt _ = some _); exact rfl)
  | ((with_reducible show RV.cls _ = _); exact rfl)
  | ((with_reducible show RV.objf _ = _); exact rfl)
  | ((with_reducible show passE _ _ _ = some _); exact rfl)
  | ((with_reducible show BackAt _ _ _ _ _); first | exact BackAt.nil | apply BackAt.dat | apply BackAt.slot | apply BackAt.own)
  | ((with_reducible show onceB _ _ _ = true); exact rfl)
  | ((with_reducible show ownB _ _ _ = true); exact rfl)
  | ((with_reducible show pinned _ _ _ = false); exact rfl)
  | ((with_reducible show dts _ = some _); exact rfl)
  | ((with_reducible show conts _ _ = some _); exact rfl)
  | ((with_reducible show setSV _ _ = some _); exact rfl)
  | ((with_reducible show retK _ _ _ = some _); exact rfl)
  | ((with_reducible show fnK _ _ = some _); exact rfl)
  | ((with_reducible show List.length _ = _); exact rfl)
  | ((with_reducible show pick _ _ = _); exact rfl)
  | ((with_reducible show Nat.ble _ _ = true); exact rfl)
  | ((with_reducible show Nat.blt _ _ = true); exact rfl)
  | ((with_reducible show truthD _ = some _); exact rfl)
  | ((with_reducible show sideB _ _ = true); exact rfl)
  | ((with_reducible show intB _ = true); exact rfl)
  | ((with_reducible show eqSideB _ _ = true); exact rfl)
  | ((with_reducible show itemsD _ = some _); exact rfl)
  | ((with_reducible show putD _ _ _ = _); exact rfl)
  | ((with_reducible show List.lookup _ _ = _); exact rfl)
  | ((with_reducible show getElem? _ _ = some _); exact rfl)
  | with_reducible exact ixN0
  | with_reducible exact ixN1)
local macro_rules | `(tactic| walk_at "ln") => `(tactic| repeat' (first | with_reducible exact Ln.num (by walk_at "bd") | with_reducible exact Ln.lit | with_reducible exact Ln.emp | with_reducible apply Ln.app))
local macro_rules | `(tactic| walk_at "sa") => `(tactic| repeat' (first | with_reducible exact AppAt.nil | with_reducible apply AppAt.cons | with_reducible exact ZipAt.nil | with_reducible apply ZipAt.cons))
local macro_rules | `(tactic| walk_at "pr") => `(tactic| first
  | ((with_reducible apply ev_mul); walk_at "bd")
  | ((with_reducible apply ev_fdiv) <;> walk_at "bd")
  | ((with_reducible apply ev_mod); walk_at "bd")
  | ((with_reducible apply ev_divmod) <;> walk_at "bd")
  | ((with_reducible apply ev_pow) <;> walk_at "bd")
  | ((with_reducible apply ev_addS); exact Ln.ok2 (by walk_at "ln") (by walk_at "ln") rfl)
  | ((with_reducible apply ev_addL); walk_at "sa"; exact rfl)
  | ((with_reducible apply ev_append); walk_at "sa"; exact rfl)
  | ((with_reducible apply ev_strI); walk_at "bd")
  | with_reducible exact ev_twice
  | ((with_reducible show addD _ _ = some _); exact rfl)
  | ((with_reducible show subD _ _ = some _); exact rfl)
  | ((with_reducible show cmpD _ _ _ _ = some _); exact rfl)
  | ((with_reducible show isD _ _ _ = some _); exact rfl)
  | ((with_reducible show ixD _ _ = some _); exact rfl)
  | ((with_reducible show absD _ = some _); exact rfl)
  | ((with_reducible show max2D _ = some _); exact rfl)
  | ((with_reducible show min2D _ = some _); exact rfl)
  | ((with_reducible show int1D _ = some _); exact rfl)
  | ((with_reducible show lenD _ = some _); exact rfl)
  | ((with_reducible show gcdD _ = some _); exact rfl)
  | ((with_reducible show allD _ = some _); exact rfl)
  | ((with_reducible show isi2D _ _ = some _); exact rfl)
  | ((with_reducible show negD _ = some _); exact rfl)
  | ((with_reducible show appendD _ _ = some _); exact rfl)
  | ((with_reducible show eqD _ _ = some _); exact rfl)
  | ((with_reducible show neD _ _ = some _); exact rfl)
  | ((with_reducible show mul3D _ _ = some _); exact rfl))
local macro_rules | `(tactic| walk_at "tt") => `(tactic| first | with_reducible exact bne_self _ | exact rfl | assumption | (simp only [Bool.not_eq_true', Bool.not_eq_false', Bool.not_true, Bool.not_false, decide_eq_true_eq, decide_eq_false_iff_not, beq_iff_eq, bne_iff_ne, beq_eq_false_iff_ne, Bool.and_eq_true, Bool.and_true, Bool.true_and, if_true, Bool.false_eq_true, if_false]; first | done | assumption | omega) | (simp [*]; done))
local macro_rules | `(tactic| walk_at "ev1") => `(tactic| first
  | with_reducible exact ev_c
  | ((with_reducible show some _ = some _); with_reducible exact rfl)
  | ((with_reducible apply ev_vd); exact rfl)
  | ((with_reducible apply ev_vo); exact rfl)
  | ((with_reducible apply ev_vb); exact rfl)
  | with_reducible exact ev_aNil
  | with_reducible apply ev_aCons
  | with_reducible apply ev_aApp
  | with_reducible apply ev_aSel
  | with_reducible apply tail_of
  | with_reducible apply ev_binV
  | ((with_reducible apply binK_l (c := 0)); exact rfl)
  | ((with_reducible apply binK_r (c := 0)); exact rfl; exact rfl)
  | ((with_reducible apply binK_d); exact rfl; exact rfl)
  | with_reducible apply ev_bin
  | with_reducible apply ev_unV
  | ((with_reducible apply unK_l (c := 0)); exact rfl)
  | ((with_reducible apply unK_d); exact rfl)
  | with_reducible apply ev_cmpV
  | ((with_reducible apply cmpK_l (c := 0)); exact rfl)
  | ((with_reducible apply cmpK_d); exact rfl)
  | with_reducible apply ev_attrV
  | ((with_reducible apply attrK_l (c := 0)); exact rfl; walk_at "tb")
  | ((with_reducible apply attrK_f (c := 0)); exact rfl; walk_at "tb")
  | ((with_reducible apply attrK_s); exact rfl)
  | with_reducible apply fldV_of
  | with_reducible apply ev_reprV
  | ((with_reducible apply reprK_l (c := 0)); exact rfl)
  | ((with_reducible apply reprK_d); exact rfl)
  | with_reducible apply ev_fnS
  | with_reducible apply ev_cm
  | with_reducible apply ev_mkS
  | with_reducible apply ev_methS
  | with_reducible apply ev_call
  | with_reducible apply ev_tup
  | with_reducible apply ev_lst
  | with_reducible apply ev_not
  | ((with_reducible apply iteK_t); walk_at "tt")
  | ((with_reducible apply iteK_f); walk_at "tt")
  | with_reducible apply ev_if
  | with_reducible apply ev_and
  | with_reducible apply ev_or
  | with_reducible apply ev_bVal
  | with_reducible apply ev_bTruth
  | with_reducible apply ev_bNot
  | with_reducible apply ev_bAnd
  | with_reducible apply ev_bOr)
local macro_rules | `(tactic| walk_at "ev2") => `(tactic| first
  | with_reducible apply ev_seq
  | with_reducible apply seqK_nx
  | ((with_reducible show seqK _ _ = some _); exact rfl)
  | with_reducible apply ev_set
  | with_reducible apply ev_sif
  | with_reducible apply ev_ret
  | with_reducible exact ev_snil
  | with_reducible apply ev_par2
  | with_reducible apply ev_par3
  | with_reducible apply ev_asg
  | with_reducible apply ev_exp
  | with_reducible apply ev_mut
  | with_reducible apply ev_fld
  | with_reducible apply ev_gset
  | with_reducible apply ev_gtup
  | with_reducible apply ev_gsc
  | with_reducible exact ev_gsn
  | with_reducible apply ev_gix
  | with_reducible exact SetAt.zero
  | with_reducible apply SetAt.succ
  | with_reducible exact Pad.nil
  | with_reducible apply Pad.cons
  | with_reducible apply Pad.und
  | with_reducible exact WipeAt.nil
  | with_reducible apply WipeAt.cons
  | with_reducible exact fz_nil
  | ((with_reducible apply fz_own); exact rfl)
  | with_reducible apply ev_fz
  | with_reducible apply ev_lc
  | with_reducible exact lc_nil
  | with_reducible apply lc_cons
  | with_reducible apply ev_zipA
  | with_reducible exact ZipAt.nil
  | with_reducible apply ZipAt.cons
  | with_reducible exact ev_jsN
  | with_reducible apply ev_jsC
  | ((with_reducible show _ ≤ sizeLine); exact Ln.ok (by walk_at "ln") rfl)
  | ((with_reducible show Nat.log2 _ < 1920); walk_at "bd")
  | with_reducible apply ev_fmtI
  | with_reducible apply ev_walk
  | with_reducible apply ev_fn)
local macro_rules | `(tactic| walk_at "ev") => `(tactic| repeat' (first | walk_at "rf" | walk_at "ev1" | walk_at "ev2" | walk_at "tb" | walk_at "call" | walk_at "pr"))
local macro_rules | `(tactic| walk_at "bd") => `(tactic| first | assumption | decide | omega)
local macro_rules | `(tactic| walk_at "tb") => `(tactic| first | with_reducible exact tb_0 _ | with_reducible exact tb_1 _ | with_reducible exact tb_2 _ | with_reducible exact tb_3 _ | with_reducible exact tb_4 _ | with_reducible exact tb_5 _ | with_reducible exact tb_6 _ | with_reducible exact tb_7 _ | with_reducible exact tb_8 _ | with_reducible exact tb_9 _ | with_reducible exact tb_10 _ | with_reducible exact tb_11 _ | with_reducible exact tb_12 _ | with_reducible exact tb_13 _ | with_reducible exact tb_14 _ | with_reducible exact tb_15 _ | with_reducible exact tb_16 _ | with_reducible exact tb_17 _)
local macro_rules | `(tactic| walk_at "call") => `(tactic| first | ((with_reducible apply F_common); walk_at "bd"))
theorem F_lowest (n : Nat) (a b : Int) (h : b ≠ 0) (hb : b.natAbs < 2 ^ 2000) : d__law_lowest.F (tab prg (n+2)) 60 [.dat (.int a), .dat (.int b)] = some (.dat (prD (Rat.divInt a b)), [.dat (.int a), .dat (.int b)]) := by
  unfold prD
  have hl : b.natAbs.log2 < 9000 := Nat.lt_of_lt_of_le (log_lt hb (by decide)) (by decide)
  have hg := gcd_pos (a := a) h
  have hgl := gcd_log (a := a) h hl
  have m1 : (gcdI a b).natAbs.log2 + (1 : Int).natAbs.log2 < 1000000 := by have : (1 : Int).natAbs.log2 = 0 := rfl; omega
  have m2 : (gcdI a b).natAbs.log2 + (-1 : Int).natAbs.log2 < 1000000 := by have : (-1 : Int).natAbs.log2 = 0 := rfl; omega
  rcases Int.lt_or_lt_of_ne h with g | g
  · have e : gcdI a b * -1 = -gcdI a b := by rw [Int.mul_neg, Int.mul_one]
    have h1 : gcdI a b * -1 ≠ 0 := by rw [e]; omega
    have h2 : (gcdI a b * -1).natAbs.log2 < 9000 := by rw [e, Int.natAbs_neg]; exact hgl
    have hp : ¬ 0 < b := by omega
    rw [← (low_n g).1, ← (low_n g).2, ← e, den__law_lowest]
    walk_at "ev"
  · have e : gcdI a b * 1 = gcdI a b := Int.mul_one _
    have h1 : gcdI a b * 1 ≠ 0 := by rw [e]; omega
    have h2 : (gcdI a b * 1).natAbs.log2 < 9000 := by rw [e]; exact hgl
    rw [← (low_p g).1, ← (low_p g).2, ← e, den__law_lowest]
    walk_at "ev"
/-! the pot -/
abbrev potD (p : Int × Int) : D := .lst [.int p.1, .int p.2]
def POK (p : Int × Int) : Prop := 0 ≤ p.2 ∧ p.2 < 2 ^ 32
theorem log32 {x : Int} (h0 : 0 ≤ x) (h : x < 2 ^ 32) : x.natAbs.log2 < 1000 := Nat.lt_of_lt_of_le (log_lt (k := 32) (by omega) (by decide)) (by decide)
theorem F_draw (n : Nat) (p : Int × Int) (s : Int) (hp : POK p) (h0 : 0 < s) (h1 : s < 1073741824) : ∃ v q, d__law_draw.F (tab prg (n+1)) 60 [.own (potD p), .dat (.int s)] = some (.dat (.int v), [.own (potD q), .dat (.int s)]) ∧ 0 ≤ v ∧ v < s ∧ POK q := by
  obtain ⟨a, b⟩ := p
  obtain ⟨p0, p1⟩ := hp
  dsimp only at p0 p1
  by_cases h : 0 < a
  · refine ⟨a % s, (a / s, b), ?_, Int.emod_nonneg _ (by omega), Int.emod_lt_of_pos _ h0, p0, p1⟩
    rw [den__law_draw]
    walk_at "ev"
  · have hb : b.natAbs.log2 + (48271 : Int).natAbs.log2 < 1000000 := by have := log32 p0 p1; have : (48271 : Int).natAbs.log2 < 100 := by decide
                                                                        omega
    let c : Int := (b * 48271 + 288) % 2147483587
    have c0 : 0 ≤ c := Int.emod_nonneg _ (by decide)
    have c1 : c < 2147483587 := Int.emod_lt_of_pos _ (by decide)
    have hc := log32 c0 (by omega)
    have hcc : c.natAbs.log2 + c.natAbs.log2 < 1000000 := by omega
    refine ⟨(c * c % 2147483549).fdiv 25 % s, (a, c), ?_, Int.emod_nonneg _ (by omega), Int.emod_lt_of_pos _ h0, c0, by dsimp only; omega⟩
    rw [den__law_draw]
    walk_at "ev"
end K51
end

section
set_option Elab.async false
set_option linter.all false
set_option maxRecDepth 100000
set_option maxHeartbeats 4000000
namespace K51
open PySem L2 Den PyProof.Rows
local macro_rules | `(tactic| walk_at "rf") => `(tactic| first
  | ((with_reducible show RV.cont _ _ = some _); exact rfl)
  | ((with_reducible show RV.dt _ = some _); exact rfl)
  | ((with_reducible show RV.cls _ = _); exact rfl)
  | ((with_reducible show RV.objf _ = _); exact rfl)
  | ((with_reducible show passE _ _ _ = some _); exact rfl)
  | ((with_reducible show BackAt _ _ _ _ _); first | exact BackAt.nil | apply BackAt.dat | apply BackAt.slot | apply BackAt.own)
  | ((with_reducible show onceB _ _ _ = true); exact rfl)
  | ((with_reducible show ownB _ _ _ = true); exact rfl)
  | ((with_reducible show pinned _ _ _ = false); exact rfl)
  | ((with_reducible show dts _ = some _); exact rfl)
  | ((with_reducible show conts _ _ = some _); exact rfl)
  | ((with_reducible show setSV _ _ = some _); exact rfl)
  | ((with_reducible show retK _ _ _ = some _); exact rfl)
  | ((with_reducible show fnK _ _ = some _); exact rfl)
  | ((with_reducible show List.length _ = _); exact rfl)
  | ((with_reducible show pick _ _ = _); exact rfl)
  | ((with_reducible show Nat.ble _ _ = true); exact rfl)
  | ((with_reducible show Nat.blt _ _ = true); exact rfl)
  | ((with_reducible show truthD _ = some _); exact rfl)
  | ((with_reducible show sideB _ _ = true); exact rfl)
  | ((with_reducible show intB _ = true); exact rfl)
  | ((with_reducible show eqSideB _ _ = true); exact rfl)
  | ((with_reducible show itemsD _ = some _); exact rfl)
  | ((with_reducible show putD _ _ _ = _); exact rfl)
  | ((with_reducible show List.lookup _ _ = _); exact rfl)
  | ((with_reducible show getElem? _ _ = some _); exact rfl)
  | with_reducible exact ixN0
  | with_reducible exact ixN1)
local macro_rules | `(tactic| walk_at "ln") => `(tactic| repeat' (first | with_reducible exact Ln.num (by walk_at "bd") | with_reducible exact Ln.lit | with_reducible exact Ln.emp | with_reducible apply Ln.app))
local macro_rules | `(tactic| walk_at "sa") => `(tactic| repeat' (first | with_reducible exact AppAt.nil | with_reducible apply AppAt.cons | with_reducible exact ZipAt.nil | with_reducible apply ZipAt.cons))
local macro_rules | `(tactic| walk_at "pr") => `(tactic| first
  | ((with_reducible apply ev_mul); walk_at "bd")
  | ((with_reducible apply ev_fdiv) <;> walk_at "bd")
  | ((with_reducible apply ev_mod); walk_at "bd")
  | ((with_reducible apply ev_divmod) <;> walk_at "bd")
  | ((with_reducible apply ev_pow) <;> walk_at "bd")
  | ((with_reducible apply ev_addS); exact Ln.ok2 (by walk_at "ln") (by walk_at "ln") rfl)
  | ((with_reducible apply ev_addL); walk_at "sa"; exact rfl)
  | ((with_reducible apply ev_append); walk_at "sa"; exact rfl)
  | ((with_reducible apply ev_strI); walk_at "bd")
  | with_reducible exact ev_twice
  | ((with_reducible show addD _ _ = some _); exact rfl)
  | ((with_reducible show subD _ _ = some _); exact rfl)
  | ((with_reducible show cmpD _ _ _ _ = some _); exact rfl)
  | ((with_reducible show isD _ _ _ = some _); exact rfl)
  | ((with_reducible show ixD _ _ = some _); exact rfl)
  | ((with_reducible show absD _ = some _); exact rfl)
  | ((with_reducible show max2D _ = some _); exact rfl)
  | ((with_reducible show min2D _ = some _); exact rfl)
  | ((with_reducible show int1D _ = some _); exact rfl)
  | ((with_reducible show lenD _ = some _); exact rfl)
  | ((with_reducible show gcdD _ = some _); exact rfl)
  | ((with_reducible show allD _ = some _); exact rfl)
  | ((with_reducible show isi2D _ _ = some _); exact rfl)
  | ((with_reducible show negD _ = some _); exact rfl)
  | ((with_reducible show appendD _ _ = some _); exact rfl)
  | ((with_reducible show eqD _ _ = some _); exact rfl)
  | ((with_reducible show neD _ _ = some _); exact rfl)
  | ((with_reducible show mul3D _ _ = some _); exact rfl))
local macro_rules | `(tactic| walk_at "tt") => `(tactic| first | with_reducible exact bne_self _ | exact rfl | assumption | (simp only [Bool.not_eq_true', Bool.not_eq_false', Bool.not_true, Bool.not_false, decide_eq_true_eq, decide_eq_false_iff_not, beq_iff_eq, bne_iff_ne, beq_eq_false_iff_ne, Bool.and_eq_true, Bool.and_true, Bool.true_and, if_true, Bool.false_eq_true, if_false]; first | done | assumption | omega) | (simp [*]; done))
local macro_rules | `(tactic| walk_at "ev1") => `(tactic| first
  | with_reducible exact ev_c
  | ((with_reducible show some _ = some _); with_reducible exact rfl)
  | ((with_reducible apply ev_vd); exact rfl)
  | ((with_reducible apply ev_vo); exact rfl)
  | ((with_reducible apply ev_vb); exact rfl)
  | with_reducible exact ev_aNil
  | with_reducible apply ev_aCons
  | with_reducible apply ev_aApp
  | with_reducible apply ev_aSel
  | with_reducible apply tail_of
  | with_reducible apply ev_binV
  | ((with_reducible apply binK_l (c := 0)); exact rfl)
  | ((with_reducible apply binK_r (c := 0)); exact rfl; exact rfl)
  | ((with_reducible apply binK_d); exact rfl; exact rfl)
  | with_reducible apply ev_bin
  | with_reducible apply ev_unV
  | ((with_reducible apply unK_l (c := 0)); exact rfl)
  | ((with_reducible apply unK_d); exact rfl)
  | with_reducible apply ev_cmpV
  | ((with_reducible apply cmpK_l (c := 0)); exact rfl)
  | ((with_reducible apply cmpK_d); exact rfl)
  | with_reducible apply ev_attrV
  | ((with_reducible apply attrK_l (c := 0)); exact rfl; walk_at "tb")
  | ((with_reducible apply attrK_f (c := 0)); exact rfl; walk_at "tb")
  | ((with_reducible apply attrK_s); exact rfl)
  | with_reducible apply fldV_of
  | with_reducible apply ev_reprV
  | ((with_reducible apply reprK_l (c := 0)); exact rfl)
  | ((with_reducible apply reprK_d); exact rfl)
  | with_reducible apply ev_fnS
  | with_reducible apply ev_cm
  | with_reducible apply ev_mkS
  | with_reducible apply ev_methS
  | with_reducible apply ev_call
  | with_reducible apply ev_tup
  | with_reducible apply ev_lst
  | with_reducible apply ev_not
  | ((with_reducible apply iteK_t); walk_at "tt")
  | ((with_reducible apply iteK_f); walk_at "tt")
  | with_reducible apply ev_if
  | with_reducible apply ev_and
  | with_reducible apply ev_or
  | with_reducible apply ev_bVal
  | with_reducible apply ev_bTruth
  | with_reducible apply ev_bNot
  | with_reducible apply ev_bAnd
  | with_reducible apply ev_bOr)
local macro_rules | `(tactic| walk_at "ev2") => `(tactic| first
  | with_reducible apply ev_seq
  | with_reducible apply seqK_nx
  | ((with_reducible show seqK _ _ = some _); exact rfl)
  | with_reducible apply ev_set
  | with_reducible apply ev_sif
  | with_reducible apply ev_ret
  | with_reducible exact ev_snil
  | with_reducible apply ev_par2
  | with_reducible apply ev_par3
  | with_reducible apply ev_asg
  | with_reducible apply ev_exp
  | with_reducible apply ev_mut
  | with_reducible apply ev_fld
  | with_reducible apply ev_gset
  | with_reducible apply ev_gtup
  | with_reducible apply ev_gsc
  | with_reducible exact ev_gsn
  | with_reducible apply ev_gix
  | with_reducible exact SetAt.zero
  | with_reducible apply SetAt.succ
  | with_reducible exact Pad.nil
  | with_reducible apply Pad.cons
  | with_reducible apply Pad.und
  | with_reducible exact WipeAt.nil
  | with_reducible apply WipeAt.cons
  | with_reducible exact fz_nil
  | ((with_reducible apply fz_own); exact rfl)
  | with_reducible apply ev_fz
  | with_reducible apply ev_lc
  | with_reducible exact lc_nil
  | with_reducible apply lc_cons
  | with_reducible apply ev_zipA
  | with_reducible exact ZipAt.nil
  | with_reducible apply ZipAt.cons
  | with_reducible exact ev_jsN
  | with_reducible apply ev_jsC
  | ((with_reducible show _ ≤ sizeLine); exact Ln.ok (by walk_at "ln") rfl)
  | ((with_reducible show Nat.log2 _ < 1920); walk_at "bd")
  | with_reducible apply ev_fmtI
  | with_reducible apply ev_walk
  | with_reducible apply ev_fn)
local macro_rules | `(tactic| walk_at "ev") => `(tactic| repeat' (first | walk_at "rf" | walk_at "ev1" | walk_at "ev2" | walk_at "tb" | walk_at "call" | walk_at "pr"))
local macro_rules | `(tactic| walk_at "bd") => `(tactic| first | assumption | decide | omega)
local macro_rules | `(tactic| walk_at "tb") => `(tactic| first | with_reducible exact tb_0 _ | with_reducible exact tb_1 _ | with_reducible exact tb_2 _ | with_reducible exact tb_3 _ | with_reducible exact tb_4 _ | with_reducible exact tb_5 _ | with_reducible exact tb_6 _ | with_reducible exact tb_7 _ | with_reducible exact tb_8 _ | with_reducible exact tb_9 _ | with_reducible exact tb_10 _ | with_reducible exact tb_11 _ | with_reducible exact tb_12 _ | with_reducible exact tb_13 _ | with_reducible exact tb_14 _ | with_reducible exact tb_15 _ | with_reducible exact tb_16 _ | with_reducible exact tb_17 _)
local macro_rules | `(tactic| walk_at "call") => `(tactic| first | with_reducible assumption | ((with_reducible apply F_lowest) <;> walk_at "bd") | with_reducible apply F_pair | with_reducible apply F_above | with_reducible apply F_below | ((with_reducible apply F_repr) <;> walk_at "bd"))
theorem F_pick (n : Nat) (p : Int × Int) (xs : List D) (hp : POK p) (h0 : 0 < xs.length) (h1 : xs.length < 1000000) : ∃ i q, d__law_pick.F (tab prg (n+2)) 60 [.own (potD p), .dat (.lst xs)] = some (.dat (xs.getD i .non), [.own (potD q), .dat (.lst xs)]) ∧ i < xs.length ∧ POK q := by
  obtain ⟨v, q, h, v0, v1, hq⟩ := F_draw n p xs.length hp (by omega) (by omega)
  have ha := ev_at (xs := xs) v0 v1
  refine ⟨v.toNat, q, ?_, by omega, hq⟩
  rw [den__law_pick]
  walk_at "ev"
theorem getD_mem {xs : List D} {i : Nat} (h : i < xs.length) : xs.getD i .non ∈ xs := by
  rw [List.getD_eq_getElem?_getD, List.getElem?_eq_getElem h]
  exact List.getElem_mem h
def NumB (v : Int) : Prop := v.natAbs ≤ 10 ^ 20
theorem F_number (n : Nat) (p : Int × Int) (hp : POK p) : ∃ v q, d__law_number.F (tab prg (n+3)) 60 [.own (potD p)] = some (.dat (.int v), [.own (potD q)]) ∧ NumB v ∧ POK q := by
  obtain ⟨v1, q1, c1, v10, v11, hq1⟩ := F_draw (n+1) p 1000 hp (by decide) (by decide)
  obtain ⟨v2, q2, c2, v20, v21, hq2⟩ := F_draw (n+1) q1 3 hq1 (by decide) (by decide)
  by_cases h : 0 < v2
  · let L : List D := [.int 0, .int 1, .int (-1), .int 2, .int 3, .int (-4), .int 6, .int 9, .int (-12), .int (10 ^ Int.toNat 20), .int ((-(10 ^ Int.toNat 20))), .int (10 ^ Int.toNat 19 + v1)]
    obtain ⟨i, q3, c3, hi, hq3⟩ := F_pick n q2 L hq2 (by show 0 < 12; decide) (by show 12 < 1000000; decide)
    have hm := getD_mem hi
    have hv : ∃ v, L.getD i .non = .int v ∧ NumB v := by
      simp only [L, List.mem_cons, List.not_mem_nil, or_false] at hm
      rcases hm with e | e | e | e | e | e | e | e | e | e | e | e <;> refine ⟨_, e, ?_⟩ <;> (first | (unfold NumB; decide) | (show (10 ^ 19 + v1 : Int).natAbs ≤ 10 ^ 20; omega))
    obtain ⟨v, e, hb⟩ := hv
    rw [e] at c3
    refine ⟨v, q3, ?_, hb, hq3⟩
    rw [den__law_number]
    walk_at "ev"
  · obtain ⟨v3, q3, c3, v30, v31, hq3⟩ := F_draw (n+1) q2 2000 hq2 (by decide) (by decide)
    refine ⟨v3 - 1000, q3, ?_, by unfold NumB; omega, hq3⟩
    rw [den__law_number]
    walk_at "ev"
end K51
end

section
set_option Elab.async false
set_option linter.all false
set_option maxRecDepth 100000
set_option maxHeartbeats 4000000
namespace K51
open PySem L2 Den PyProof.Rows
local macro_rules | `(tactic| walk_at "rf") => `(tactic| first
  | ((with_reducible show RV.cont _ _ = some _); exact rfl)
  | ((with_reducible show RV.dt _ = some _); exact rfl)
  | ((with_reducible show RV.cls _ = _); exact rfl)
  | ((with_reducible show RV.objf _ = _); exact rfl)
  | ((with_reducible show passE _ _ _ = some _); exact rfl)
  | ((with_reducible show BackAt _ _ _ _ _); first | exact BackAt.nil | apply BackAt.dat | apply BackAt.slot | apply BackAt.own)
  | ((with_reducible show onceB _ _ _ = true); exact rfl)
  | ((with_reducible show ownB _ _ _ = true); exact rfl)
  | ((with_reducible show pinned _ _ _ = false); exact rfl)
  | ((with_reducible show dts _ = some _); exact rfl)
  | ((with_reducible show conts _ _ = some _); exact rfl)
  | ((with_reducible show setSV _ _ = some _); exact rfl)
  | ((with_reducible show retK _ _ _ = some _); exact rfl)
  | ((with_reducible show fnK _ _ = some _); exact rfl)
  | ((with_reducible show List.length _ = _); exact rfl)
  | ((with_reducible show pick _ _ = _); exact rfl)
  | ((with_reducible show Nat.ble _ _ = true); exact rfl)
  | ((with_reducible show Nat.blt _ _ = true); exact rfl)
  | ((with_reducible show truthD _ = some _); exact rfl)
  | ((with_reducible show sideB _ _ = true); exact rfl)
  | ((with_reducible show intB _ = true); exact rfl)
  | ((with_reducible show eqSideB _ _ = true); exact rfl)
  | ((with_reducible show itemsD _ = some _); exact rfl)
  | ((with_reducible show putD _ _ _ = _); exact rfl)
  | ((with_reducible show List.lookup _ _ = _); exact rfl)
  | ((with_reducible show getElem? _ _ = some _); exact rfl)
  | with_reducible exact ixN0
  | with_reducible exact ixN1)
local macro_rules | `(tactic| walk_at "ln") => `(tactic| repeat' (first | with_reducible exact Ln.num (by walk_at "bd") | with_reducible exact Ln.lit | with_reducible exact Ln.emp | with_reducible apply Ln.app))
local macro_rules | `(tactic| walk_at "sa") => `(tactic| repeat' (first | with_reducible exact AppAt.nil | with_reducible apply AppAt.cons | with_reducible exact ZipAt.nil | with_reducible apply ZipAt.cons))
local macro_rules | `(tactic| walk_at "pr") => `(tactic| first
  | ((with_reducible apply ev_mul); walk_at "bd")
  | ((with_reducible apply ev_fdiv) <;> walk_at "bd")
  | ((with_reducible apply ev_mod); walk_at "bd")
  | ((with_reducible apply ev_divmod) <;> walk_at "bd")
  | ((with_reducible apply ev_pow) <;> walk_at "bd")
  | ((with_reducible apply ev_addS); exact Ln.ok2 (by walk_at "ln") (by walk_at "ln") rfl)
  | ((with_reducible apply ev_addL); walk_at "sa"; exact rfl)
  | ((with_reducible apply ev_append); walk_at "sa"; exact rfl)
  | ((with_reducible apply ev_strI); walk_at "bd")
  | with_reducible exact ev_twice
  | ((with_reducible show addD _ _ = some _); exact rfl)
  | ((with_reducible show subD _ _ = some _); exact rfl)
  | ((with_reducible show cmpD _ _ _ _ = some _); exact rfl)
  | ((with_reducible show isD _ _ _ = some _); exact rfl)
  | ((with_reducible show ixD _ _ = some _); exact rfl)
  | ((with_reducible show absD _ = some _); exact rfl)
  | ((with_reducible show max2D _ = some _); exact rfl)
  | ((with_reducible show min2D _ = some _); exact rfl)
  | ((with_reducible show int1D _ = some _); exact rfl)
  | ((with_reducible show lenD _ = some _); exact rfl)
  | ((with_reducible show gcdD _ = some _); exact rfl)
  | ((with_reducible show allD _ = some _); exact rfl)
  | ((with_reducible show isi2D _ _ = some _); exact rfl)
  | ((with_reducible show negD _ = some _); exact rfl)
  | ((with_reducible show appendD _ _ = some _); exact rfl)
  | ((with_reducible show eqD _ _ = some _); exact rfl)
  | ((with_reducible show neD _ _ = some _); exact rfl)
  | ((with_reducible show mul3D _ _ = some _); exact rfl))
local macro_rules | `(tactic| walk_at "tt") => `(tactic| first | with_reducible exact bne_self _ | with_reducible assumption | exact rfl | assumption | (simp only [Bool.not_eq_true', Bool.not_eq_false', Bool.not_true, Bool.not_false, decide_eq_true_eq, decide_eq_false_iff_not, beq_iff_eq, bne_iff_ne, beq_eq_false_iff_ne, Bool.and_eq_true, Bool.and_true, Bool.true_and, if_true, Bool.false_eq_true, if_false]; first | done | assumption | omega) | (simp [*]; done))
local macro_rules | `(tactic| walk_at "ev1") => `(tactic| first
  | with_reducible exact ev_c
  | ((with_reducible show some _ = some _); with_reducible exact rfl)
  | ((with_reducible apply ev_vd); exact rfl)
  | ((with_reducible apply ev_vo); exact rfl)
  | ((with_reducible apply ev_vb); exact rfl)
  | with_reducible exact ev_aNil
  | with_reducible apply ev_aCons
  | with_reducible apply ev_aApp
  | with_reducible apply ev_aSel
  | with_reducible apply tail_of
  | with_reducible apply ev_binV
  | ((with_reducible apply binK_l (c := 0)); exact rfl)
  | ((with_reducible apply binK_r (c := 0)); exact rfl; exact rfl)
  | ((with_reducible apply binK_d); exact rfl; exact rfl)
  | with_reducible apply ev_bin
  | with_reducible apply ev_unV
  | ((with_reducible apply unK_l (c := 0)); exact rfl)
  | ((with_reducible apply unK_d); exact rfl)
  | with_reducible apply ev_cmpV
  | ((with_reducible apply cmpK_l (c := 0)); exact rfl)
  | ((with_reducible apply cmpK_d); exact rfl)
  | with_reducible apply ev_attrV
  | ((with_reducible apply attrK_l (c := 0)); exact rfl; walk_at "tb")
  | ((with_reducible apply attrK_f (c := 0)); exact rfl; walk_at "tb")
  | ((with_reducible apply attrK_s); exact rfl)
  | with_reducible apply fldV_of
  | with_reducible apply ev_reprV
  | ((with_reducible apply reprK_l (c := 0)); exact rfl)
  | ((with_reducible apply reprK_d); exact rfl)
  | with_reducible apply ev_fnS
  | with_reducible apply ev_cm
  | with_reducible apply ev_mkS
  | with_reducible apply ev_methS
  | with_reducible apply ev_call
  | with_reducible apply ev_tup
  | with_reducible apply ev_lst
  | with_reducible apply ev_not
  | ((with_reducible apply iteK_t); walk_at "tt")
  | ((with_reducible apply iteK_f); walk_at "tt")
  | with_reducible apply ev_if
  | with_reducible apply ev_and
  | with_reducible apply ev_or
  | with_reducible apply ev_bVal
  | with_reducible apply ev_bTruth
  | with_reducible apply ev_bNot
  | with_reducible apply ev_bAnd
  | with_reducible apply ev_bOr)
local macro_rules | `(tactic| walk_at "ev2") => `(tactic| first
  | with_reducible apply ev_seq
  | with_reducible apply seqK_nx
  | ((with_reducible show seqK _ _ = some _); exact rfl)
  | with_reducible apply ev_set
  | with_reducible apply ev_sif
  | with_reducible apply ev_ret
  | with_reducible exact ev_snil
  | with_reducible apply ev_par2
  | with_reducible apply ev_par3
  | with_reducible apply ev_asg
  | with_reducible apply ev_exp
  | with_reducible apply ev_mut
  | with_reducible apply ev_fld
  | with_reducible apply ev_gset
  | with_reducible apply ev_gtup
  | with_reducible apply ev_gsc
  | with_reducible exact ev_gsn
  | with_reducible apply ev_gix
  | with_reducible exact SetAt.zero
  | with_reducible apply SetAt.succ
  | with_reducible exact Pad.nil
  | with_reducible apply Pad.cons
  | with_reducible apply Pad.und
  | with_reducible exact WipeAt.nil
  | with_reducible apply WipeAt.cons
  | with_reducible exact fz_nil
  | ((with_reducible apply fz_own); exact rfl)
  | with_reducible apply ev_fz
  | with_reducible apply ev_lc
  | with_reducible exact lc_nil
  | with_reducible apply lc_cons
  | with_reducible apply ev_zipA
  | with_reducible exact ZipAt.nil
  | with_reducible apply ZipAt.cons
  | with_reducible exact ev_jsN
  | with_reducible apply ev_jsC
  | ((with_reducible show _ ≤ sizeLine); exact Ln.ok (by walk_at "ln") rfl)
  | ((with_reducible show Nat.log2 _ < 1920); walk_at "bd")
  | with_reducible apply ev_fmtI
  | with_reducible apply ev_walk
  | with_reducible apply ev_fn)
local macro_rules | `(tactic| walk_at "ev") => `(tactic| repeat' (first | walk_at "rf" | walk_at "ev1" | walk_at "ev2" | walk_at "tb" | walk_at "call" | walk_at "pr"))
local macro_rules | `(tactic| walk_at "bd") => `(tactic| first | assumption | decide | omega)
local macro_rules | `(tactic| walk_at "tb") => `(tactic| first | with_reducible exact tb_0 _ | with_reducible exact tb_1 _ | with_reducible exact tb_2 _ | with_reducible exact tb_3 _ | with_reducible exact tb_4 _ | with_reducible exact tb_5 _ | with_reducible exact tb_6 _ | with_reducible exact tb_7 _ | with_reducible exact tb_8 _ | with_reducible exact tb_9 _ | with_reducible exact tb_10 _ | with_reducible exact tb_11 _ | with_reducible exact tb_12 _ | with_reducible exact tb_13 _ | with_reducible exact tb_14 _ | with_reducible exact tb_15 _ | with_reducible exact tb_16 _ | with_reducible exact tb_17 _)
theorem beq_self (s : Str) : (s == s) = true := by simp
theorem reprL {a b : Int} (h1 : a.natAbs.log2 < 1920) (h2 : b.natAbs.log2 < 1920) : reprD [.lst [.int a, .int b]] = some (.dat (.str (PyData.shown (.list [.int a, .int b])))) := by
  have l1 := (Ln.num h1).le
  have l2 := (Ln.num h2).le
  have hs : (PyData.shown (.list [.int a, .int b])).length ≤ sizeLine := by
    refine Ln.ok (k := 1 + 0 + 1921 + 2 + 1921 + 1) ⟨?_⟩ (by decide)
    have e : PyData.shown (.list [.int a, .int b]) = Str.ofString "[" ++ Str.ofString "" ++ Str.ofString (toString a) ++ Str.ofString ", " ++ Str.ofString (toString b) ++ Str.ofString "]" := rfl
    rw [e]
    simp only [strLen_append]
    have c1 : (Str.ofString "[").length = 1 := rfl
    have c2 : (Str.ofString "").length = 0 := rfl
    have c3 : (Str.ofString ", ").length = 2 := rfl
    have c4 : (Str.ofString "]").length = 1 := rfl
    omega
  have hd : PyData.depth (.list [.int a, .int b]) ≤ 64 := by simp [PyData.depth, PyData.depthAll]
  have hh : PyData.showable (.list [.int a, .int b]) = true := by simp [PyData.showable, PyData.showableAll, h1, h2]
  show ((showD (.lst [.int a, .int b])).map fun x => RV.dat (.str x)) = _
  have : showD (.lst [.int a, .int b]) = some (PyData.shown (.list [.int a, .int b])) := by
    show (if PyData.showable (.list [.int a, .int b]) && (decide (PyData.depth (.list [.int a, .int b]) ≤ 64) && decide ((PyData.shown (.list [.int a, .int b])).length ≤ sizeLine)) then some _ else none) = _
    rw [hh, decide_eq_true hd, decide_eq_true hs]; rfl
  rw [this]; rfl
theorem reprT {a b : Int} (h1 : a.natAbs.log2 < 1920) (h2 : b.natAbs.log2 < 1920) : reprD [.tup [.int a, .int b]] = some (.dat (.str (PyData.shown (.tuple [.int a, .int b])))) := by
  have l1 := (Ln.num h1).le
  have l2 := (Ln.num h2).le
  have hs : (PyData.shown (.tuple [.int a, .int b])).length ≤ sizeLine := by
    refine Ln.ok (k := 1 + (1921 + 2 + 1921) + 1) ⟨?_⟩ (by decide)
    have e : PyData.shown (.tuple [.int a, .int b]) = Str.ofString "(" ++ (Str.join (Str.ofString ", ") [Str.ofString (toString a), Str.ofString (toString b)]) ++ Str.ofString ")" := rfl
    have j := PySem.join_length_add [Str.ofString (toString a), Str.ofString (toString b)] (by simp)
    rw [e]
    simp only [strLen_append]
    have c1 : (Str.ofString "(").length = 1 := rfl
    have c4 : (Str.ofString ")").length = 1 := rfl
    simp only [PySem.piled_cons, PySem.piled_nil] at j
    omega
  have hd : PyData.depth (.tuple [.int a, .int b]) ≤ 64 := by simp [PyData.depth, PyData.depthAll]
  have hh : PyData.showable (.tuple [.int a, .int b]) = true := by simp [PyData.showable, PyData.showableAll, h1, h2]
  show ((showD (.tup [.int a, .int b])).map fun x => RV.dat (.str x)) = _
  have : showD (.tup [.int a, .int b]) = some (PyData.shown (.tuple [.int a, .int b])) := by
    show (if PyData.showable (.tuple [.int a, .int b]) && (decide (PyData.depth (.tuple [.int a, .int b]) ≤ 64) && decide ((PyData.shown (.tuple [.int a, .int b])).length ≤ sizeLine)) then some _ else none) = _
    rw [hh, decide_eq_true hd, decide_eq_true hs]; rfl
  rw [this]; rfl
local macro_rules | `(tactic| walk_at "call") => `(tactic| first | with_reducible exact reprL (by walk_at "bd") (by walk_at "bd") | with_reducible exact reprT (by walk_at "bd") (by walk_at "bd") | ((with_reducible apply F_lowest) <;> walk_at "bd") | with_reducible apply F_pair | with_reducible apply F_above | with_reducible apply F_below | ((with_reducible apply F_repr) <;> walk_at "bd"))
def Due (q : Rat) (c d : Int) : Prop := c = q.num ∧ d = (q.den : Int)
local macro_rules | `(tactic| walk_at "tt") => `(tactic| first | with_reducible exact beq_self _ | with_reducible exact bne_self _)
theorem F_is (n : Nat) (q : Rat) (c d : Int) (h : Due q c d) (hq : Bd 1900 q) : d__law_is.F (tab prg (n+2)) 60 [.dat (ratD q), .dat (.tup [.int c, .int d])] = some (.dat (.bl true), [.dat (ratD q), .dat (.tup [.int c, .int d])]) := by
  obtain ⟨rfl, rfl⟩ := h
  have h1 : q.num.natAbs.log2 < 1920 := Nat.lt_trans (log_lt hq.n (by decide)) (by decide)
  have h2 : (q.den : Int).natAbs.log2 < 1920 := Nat.lt_trans (log_lt (x := (q.den : Int).natAbs) hq.d (by decide)) (by decide)
  have hb : (repS q == repS q) = true := beq_self_eq_true _
  rw [den__law_is, ← hb]
  walk_at "ev"
structure Sm (x : Int) : Prop where
  lt : x.natAbs < 2 ^ 900
theorem Sm.l {x y : Int} (h : Sm x) (h' : Sm y) : x.natAbs.log2 + y.natAbs.log2 < 1000000 := by
  have := log_lt h.lt (by decide); have := log_lt h'.lt (by decide); omega
theorem Sm.m {x y : Int} (h : Sm x) (h' : Sm y) : (x * y).natAbs < 2 ^ 2000 := by
  rw [Int.natAbs_mul]
  exact Nat.lt_of_lt_of_le (mul_lt2 h.lt h'.lt) (Nat.pow_le_pow_right (by decide) (by decide))
local macro_rules | `(tactic| walk_at "bd") => `(tactic| first | assumption | exact Sm.l (by assumption) (by assumption) | exact Sm.m (by assumption) (by assumption) | exact Int.mul_ne_zero (by assumption) (by assumption))
theorem F_sum (n : Nat) (a b c d : Int) (hb : b ≠ 0) (hd : d ≠ 0) (sa : Sm a) (sb : Sm b) (sc : Sm c) (sd : Sm d) : d__law_sum.F (tab prg (n+3)) 60 [.dat (.tup [.int a, .int b]), .dat (.tup [.int c, .int d])] = some (.dat (prD (Rat.divInt (a * d + c * b) (b * d))), [.dat (.tup [.int a, .int b]), .dat (.tup [.int c, .int d])]) := by
  rw [den__law_sum]
  walk_at "ev"
theorem F_times (n : Nat) (a b c d : Int) (hb : b ≠ 0) (hd : d ≠ 0) (sa : Sm a) (sb : Sm b) (sc : Sm c) (sd : Sm d) : d__law_times.F (tab prg (n+3)) 60 [.dat (.tup [.int a, .int b]), .dat (.tup [.int c, .int d])] = some (.dat (prD (Rat.divInt (a * c) (b * d))), [.dat (.tup [.int a, .int b]), .dat (.tup [.int c, .int d])]) := by
  rw [den__law_times]
  walk_at "ev"
end K51
end

section
set_option Elab.async false
set_option linter.all false
set_option maxRecDepth 100000
set_option maxHeartbeats 4000000
namespace K51
open PySem L2 Den PyProof.Rows
local macro_rules | `(tactic| walk_at "rf") => `(tactic| first
  | ((with_reducible show RV.cont _ _ = some _); exact rfl)
  | ((with_reducible show RV.dt _ = some _); exact rfl)
  | ((with_reducible show RV.cls _ = _); exact rfl)
  | ((with_reducible show RV.objf _ = _); exact rfl)
  | ((with_reducible show passE _ _ _ = some _); exact rfl)
  | ((with_reducible show BackAt _ _ _ _ _); first | exact BackAt.nil | apply BackAt.dat | apply BackAt.slot | apply BackAt.own)
  | ((with_reducible show onceB _ _ _ = true); exact rfl)
  | ((with_reducible show ownB _ _ _ = true); exact rfl)
  | ((with_reducible show pinned _ _ _ = false); exact rfl)
  | ((with_reducible show dts _ = some _); exact rfl)
  | ((with_reducible show conts _ _ = some _); exact rfl)
  | ((with_reducible show setSV _ _ = some _); exact rfl)
  | ((with_reducible show retK _ _ _ = some _); exact rfl)
  | ((with_reducible show fnK _ _ = some _); exact rfl)
  | ((with_reducible show List.length _ = _); exact rfl)
  | ((with_reducible show pick _ _ = _); exact rfl)
  | ((with_reducible show Nat.ble _ _ = true); exact rfl)
  | ((with_reducible show Nat.blt _ _ = true); exact rfl)
  | ((with_reducible show truthD _ = some _); exact rfl)
  | ((with_reducible show sideB _ _ = true); exact rfl)
  | ((with_reducible show intB _ = true); exact rfl)
  | ((with_reducible show eqSideB _ _ = true); exact rfl)
  | ((with_reducible show itemsD _ = some _); exact rfl)
  | ((with_reducible show putD _ _ _ = _); exact rfl)
  | ((with_reducible show List.lookup _ _ = _); exact rfl)
  | ((with_reducible show getElem? _ _ = some _); exact rfl)
  | with_reducible exact ixN0
  | with_reducible exact ixN1)
local macro_rules | `(tactic| walk_at "ln") => `(tactic| repeat' (first | with_reducible exact Ln.num (by walk_at "bd") | with_reducible exact Ln.lit | with_reducible exact Ln.emp | with_reducible apply Ln.app))
local macro_rules | `(tactic| walk_at "sa") => `(tactic| repeat' (first | with_reducible exact AppAt.nil | with_reducible apply AppAt.cons | with_reducible exact ZipAt.nil | with_reducible apply ZipAt.cons))
local macro_rules | `(tactic| walk_at "pr") => `(tactic| first
  | ((with_reducible apply ev_mul); walk_at "bd")
  | ((with_reducible apply ev_fdiv) <;> walk_at "bd")
  | ((with_reducible apply ev_mod); walk_at "bd")
  | ((with_reducible apply ev_divmod) <;> walk_at "bd")
  | ((with_reducible apply ev_pow) <;> walk_at "bd")
  | ((with_reducible apply ev_addS); exact Ln.ok2 (by walk_at "ln") (by walk_at "ln") rfl)
  | ((with_reducible apply ev_addL); walk_at "sa"; exact rfl)
  | ((with_reducible apply ev_append); walk_at "sa"; exact rfl)
  | ((with_reducible apply ev_strI); walk_at "bd")
  | with_reducible exact ev_twice
  | ((with_reducible show addD _ _ = some _); exact rfl)
  | ((with_reducible show subD _ _ = some _); exact rfl)
  | ((with_reducible show cmpD _ _ _ _ = some _); exact rfl)
  | ((with_reducible show isD _ _ _ = some _); exact rfl)
  | ((with_reducible show ixD _ _ = some _); exact rfl)
  | ((with_reducible show absD _ = some _); exact rfl)
  | ((with_reducible show max2D _ = some _); exact rfl)
  | ((with_reducible show min2D _ = some _); exact rfl)
  | ((with_reducible show int1D _ = some _); exact rfl)
  | ((with_reducible show lenD _ = some _); exact rfl)
  | ((with_reducible show gcdD _ = some _); exact rfl)
  | ((with_reducible show allD _ = some _); exact rfl)
  | ((with_reducible show isi2D _ _ = some _); exact rfl)
  | ((with_reducible show negD _ = some _); exact rfl)
  | ((with_reducible show appendD _ _ = some _); exact rfl)
  | ((with_reducible show eqD _ _ = some _); exact rfl)
  | ((with_reducible show neD _ _ = some _); exact rfl)
  | ((with_reducible show mul3D _ _ = some _); exact rfl))
local macro_rules | `(tactic| walk_at "tt") => `(tactic| first | with_reducible exact bne_self _ | with_reducible assumption | exact rfl | assumption | (simp only [Bool.not_eq_true', Bool.not_eq_false', Bool.not_true, Bool.not_false, decide_eq_true_eq, decide_eq_false_iff_not, beq_iff_eq, bne_iff_ne, beq_eq_false_iff_ne, Bool.and_eq_true, Bool.and_true, Bool.true_and, if_true, Bool.false_eq_true, if_false]; first | done | assumption | omega) | (simp [*]; done))
local macro_rules | `(tactic| walk_at "ev1") => `(tactic| first
  | with_reducible exact ev_c
  | ((with_reducible show some _ = some _); with_reducible exact rfl)
  | ((with_reducible apply ev_vd); exact rfl)
  | ((with_reducible apply ev_vo); exact rfl)
  | ((with_reducible apply ev_vb); exact rfl)
  | with_reducible exact ev_aNil
  | with_reducible apply ev_aCons
  | with_reducible apply ev_aApp
  | with_reducible apply ev_aSel
  | with_reducible apply tail_of
  | with_reducible apply ev_binV
  | ((with_reducible apply binK_l (c := 0)); exact rfl)
  | ((with_reducible apply binK_r (c := 0)); exact rfl; exact rfl)
  | ((with_reducible apply binK_d); exact rfl; exact rfl)
  | with_reducible apply ev_bin
  | with_reducible apply ev_unV
  | ((with_reducible apply unK_l (c := 0)); exact rfl)
  | ((with_reducible apply unK_d); exact rfl)
  | with_reducible apply ev_cmpV
  | ((with_reducible apply cmpK_l (c := 0)); exact rfl)
  | ((with_reducible apply cmpK_d); exact rfl)
  | with_reducible apply ev_attrV
  | ((with_reducible apply attrK_l (c := 0)); exact rfl; walk_at "tb")
  | ((with_reducible apply attrK_f (c := 0)); exact rfl; walk_at "tb")
  | ((with_reducible apply attrK_s); exact rfl)
  | with_reducible apply fldV_of
  | with_reducible apply ev_reprV
  | ((with_reducible apply reprK_l (c := 0)); exact rfl)
  | ((with_reducible apply reprK_d); exact rfl)
  | with_reducible apply ev_fnS
  | with_reducible apply ev_cm
  | with_reducible apply ev_mkS
  | with_reducible apply ev_methS
  | with_reducible apply ev_call
  | with_reducible apply ev_tup
  | with_reducible apply ev_lst
  | with_reducible apply ev_not
  | ((with_reducible apply iteK_t); walk_at "tt")
  | ((with_reducible apply iteK_f); walk_at "tt")
  | with_reducible apply ev_if
  | with_reducible apply ev_and
  | with_reducible apply ev_or
  | with_reducible apply ev_bVal
  | with_reducible apply ev_bTruth
  | with_reducible apply ev_bNot
  | with_reducible apply ev_bAnd
  | with_reducible apply ev_bOr)
local macro_rules | `(tactic| walk_at "ev2") => `(tactic| first
  | with_reducible apply ev_seq
  | with_reducible apply seqK_nx
  | ((with_reducible show seqK _ _ = some _); exact rfl)
  | with_reducible apply ev_set
  | with_reducible apply ev_sif
  | with_reducible apply ev_ret
  | with_reducible exact ev_snil
  | with_reducible apply ev_par2
  | with_reducible apply ev_par3
  | with_reducible apply ev_asg
  | with_reducible apply ev_exp
  | with_reducible apply ev_mut
  | with_reducible apply ev_fld
  | with_reducible apply ev_gset
  | with_reducible apply ev_gtup
  | with_reducible apply ev_gsc
  | with_reducible exact ev_gsn
  | with_reducible apply ev_gix
  | with_reducible exact SetAt.zero
  | with_reducible apply SetAt.succ
  | with_reducible exact Pad.nil
  | with_reducible apply Pad.cons
  | with_reducible apply Pad.und
  | with_reducible exact WipeAt.nil
  | with_reducible apply WipeAt.cons
  | with_reducible exact fz_nil
  | ((with_reducible apply fz_own); exact rfl)
  | with_reducible apply ev_fz
  | with_reducible apply ev_lc
  | with_reducible exact lc_nil
  | with_reducible apply lc_cons
  | with_reducible apply ev_zipA
  | with_reducible exact ZipAt.nil
  | with_reducible apply ZipAt.cons
  | with_reducible exact ev_jsN
  | with_reducible apply ev_jsC
  | ((with_reducible show _ ≤ sizeLine); exact Ln.ok (by walk_at "ln") rfl)
  | ((with_reducible show Nat.log2 _ < 1920); walk_at "bd")
  | with_reducible apply ev_fmtI
  | with_reducible apply ev_walk
  | with_reducible apply ev_fn)
local macro_rules | `(tactic| walk_at "ev") => `(tactic| repeat' (first | walk_at "rf" | walk_at "ev1" | walk_at "ev2" | walk_at "tb" | walk_at "call" | walk_at "pr"))
local macro_rules | `(tactic| walk_at "bd") => `(tactic| first | assumption | decide | omega)
local macro_rules | `(tactic| walk_at "tb") => `(tactic| first | with_reducible exact tb_0 _ | with_reducible exact tb_1 _ | with_reducible exact tb_2 _ | with_reducible exact tb_3 _ | with_reducible exact tb_4 _ | with_reducible exact tb_5 _ | with_reducible exact tb_6 _ | with_reducible exact tb_7 _ | with_reducible exact tb_8 _ | with_reducible exact tb_9 _ | with_reducible exact tb_10 _ | with_reducible exact tb_11 _ | with_reducible exact tb_12 _ | with_reducible exact tb_13 _ | with_reducible exact tb_14 _ | with_reducible exact tb_15 _ | with_reducible exact tb_16 _ | with_reducible exact tb_17 _)
local macro_rules | `(tactic| walk_at "call") => `(tactic| with_reducible apply F_is_integer)
theorem F_is_fraction (n : Nat) (q : Rat) : d_is_fraction.F (tab prg (n+2)) 60 [.dat (prD q)] = some (.dat (.bl true), [.dat (prD q)]) := by
  have h1 : 1 ≤ (q.den : Int) := by have := q.den_nz; omega
  have h2 : gcdI q.num q.den = 1 := by have := q.reduced; unfold Nat.Coprime at this; show ((Nat.gcd q.num.natAbs q.den : Nat) : Int) = 1; omega
  have h3 : (gcdI q.num q.den == 1) = true := by rw [h2]; rfl
  have e : d_is_fraction.F (tab prg (n+2)) 60 [.dat (prD q)] = some (.dat (.bl (gcdI q.num q.den == 1)), [.dat (prD q)]) := by
    rw [den_is_fraction]
    walk_at "ev"
  rw [e, h3]
theorem mkL_of (n : Nat) (A A' : PAF) : (((tab prg (n+1)).cid 0).bind fun ci => (ci.ini.shape 2 []).map fun sh => pMkS ci.c ci.ini.io ci.ini.F sh ci.ini.ds A A') = some (pMkS 0 [false, false] (d_Ratio___init__.F (tab prg n) 60) ⟨2, [], [0, 1]⟩ [.int 1] A A') := by kernel_rfl!
local macro_rules | `(tactic| walk_at "call") => `(tactic| first | with_reducible apply F_is_fraction | ((with_reducible apply F_init) <;> walk_at "bd") | ((with_reducible apply ev_mkL); exact rfl; with_reducible apply mkL_of))
theorem F_of (n : Nat) (q : Rat) (hb : Bd 2000 q) : d_Ratio_of.F (tab prg (n+3)) 60 [.dat (.kls 0), .dat (prD q)] = some (.own (ratD q), [.dat (.kls 0), .dat (prD q)]) := by
  have h1 := den_ne q
  have h2 : (q.den : Int).natAbs.log2 < 9000 := by have := hb.dl; omega
  have e := Rat.num_divInt_den q
  have key : d_Ratio_of.F (tab prg (n+3)) 60 [.dat (.kls 0), .dat (prD q)] = some (.own (ratD (Rat.divInt q.num q.den)), [.dat (.kls 0), .dat (prD q)]) := by
    rw [den_Ratio_of]
    walk_at "ev"
  rw [key, e]
end K51
end

section
set_option Elab.async false
set_option linter.all false
set_option maxRecDepth 100000
set_option maxHeartbeats 4000000
namespace K51
open PySem L2 Den PyProof.Rows
local macro_rules | `(tactic| walk_at "rf") => `(tactic| first
  | ((with_reducible show RV.cont _ _ = some _); exact rfl)
  | ((with_reducible show RV.dt _ = some _); exact rfl)
  | ((with_reducible show RV.cls _ = _); exact rfl)
  | ((with_reducible show RV.objf _ = _); exact rfl)
  | ((with_reducible show passE _ _ _ = some _); exact rfl)
  | ((with_reducible show BackAt _ _ _ _ _); first | exact BackAt.nil | apply BackAt.dat | apply BackAt.slot | apply BackAt.own)
  | ((with_reducible show onceB _ _ _ = true); exact rfl)
  | ((with_reducible show ownB _ _ _ = true); exact rfl)
  | ((with_reducible show pinned _ _ _ = false); exact rfl)
  | ((with_reducible show dts _ = some _); exact rfl)
  | ((with_reducible show conts _ _ = some _); exact rfl)
  | ((with_reducible show setSV _ _ = some _); exact rfl)
  | ((with_reducible show retK _ _ _ = some _); exact rfl)
  | ((with_reducible show fnK _ _ = some _); exact rfl)
  | ((with_reducible show List.length _ = _); exact rfl)
  | ((with_reducible show pick _ _ = _); exact rfl)
  | ((with_reducible show Nat.ble _ _ = true); exact rfl)
  | ((with_reducible show Nat.blt _ _ = true); exact rfl)
  | ((with_reducible show truthD _ = some _); exact rfl)
  | ((with_reducible show sideB _ _ = true); exact rfl)
  | ((with_reducible show intB _ = true); exact rfl)
  | ((with_reducible show eqSideB _ _ = true); exact rfl)
  | ((with_reducible show itemsD _ = some _); exact rfl)
  | ((with_reducible show putD _ _ _ = _); exact rfl)
  | ((with_reducible show List.lookup _ _ = _); exact rfl)
  | ((with_reducible show getElem? _ _ = some _); exact rfl)
  | with_reducible exact ixN0
  | with_reducible exact ixN1)
local macro_rules | `(tactic| walk_at "ln") => `(tactic| repeat' (first | with_reducible exact Ln.num (by walk_at "bd") | with_reducible exact Ln.lit | with_reducible exact Ln.emp | with_reducible apply Ln.app))
local macro_rules | `(tactic| walk_at "sa") => `(tactic| repeat' (first | with_reducible exact AppAt.nil | with_reducible apply AppAt.cons | with_reducible exact ZipAt.nil | with_reducible apply ZipAt.cons))
local macro_rules | `(tactic| walk_at "pr") => `(tactic| first
  | ((with_reducible apply ev_mul); walk_at "bd")
  | ((with_reducible apply ev_fdiv) <;> walk_at "bd")
  | ((with_reducible apply ev_mod); walk_at "bd")
  | ((with_reducible apply ev_divmod) <;> walk_at "bd")
  | ((with_reducible apply ev_pow) <;> walk_at "bd")
  | ((with_reducible apply ev_addS); exact Ln.ok2 (by walk_at "ln") (by walk_at "ln") rfl)
  | ((with_reducible apply ev_addL); walk_at "sa"; exact rfl)
  | ((with_reducible apply ev_append); walk_at "sa"; exact rfl)
  | ((with_reducible apply ev_strI); walk_at "bd")
  | with_reducible exact ev_twice
  | ((with_reducible show addD _ _ = some _); exact rfl)
  | ((with_reducible show subD _ _ = some _); exact rfl)
  | ((with_reducible show cmpD _ _ _ _ = some _); exact rfl)
  | ((with_reducible show isD _ _ _ = some _); exact rfl)
  | ((with_reducible show ixD _ _ = some _); exact rfl)
  | ((with_reducible show absD _ = some _); exact rfl)
  | ((with_reducible show max2D _ = some _); exact rfl)
  | ((with_reducible show min2D _ = some _); exact rfl)
  | ((with_reducible show int1D _ = some _); exact rfl)
  | ((with_reducible show lenD _ = some _); exact rfl)
  | ((with_reducible show gcdD _ = some _); exact rfl)
  | ((with_reducible show allD _ = some _); exact rfl)
  | ((with_reducible show isi2D _ _ = some _); exact rfl)
  | ((with_reducible show negD _ = some _); exact rfl)
  | ((with_reducible show appendD _ _ = some _); exact rfl)
  | ((with_reducible show eqD _ _ = some _); exact rfl)
  | ((with_reducible show neD _ _ = some _); exact rfl)
  | ((with_reducible show mul3D _ _ = some _); exact rfl))
local macro_rules | `(tactic| walk_at "tt") => `(tactic| first | with_reducible exact bne_self _ | with_reducible assumption | exact rfl | assumption | (simp only [Bool.not_eq_true', Bool.not_eq_false', Bool.not_true, Bool.not_false, decide_eq_true_eq, decide_eq_false_iff_not, beq_iff_eq, bne_iff_ne, beq_eq_false_iff_ne, Bool.and_eq_true, Bool.and_true, Bool.true_and, if_true, Bool.false_eq_true, if_false]; first | done | assumption | omega) | (simp [*]; done))
local macro_rules | `(tactic| walk_at "ev1") => `(tactic| first
  | with_reducible exact ev_c
  | ((with_reducible show some _ = some _); with_reducible exact rfl)
  | ((with_reducible apply ev_vd); exact rfl)
  | ((with_reducible apply ev_vo); exact rfl)
  | ((with_reducible apply ev_vb); exact rfl)
  | with_reducible exact ev_aNil
  | with_reducible apply ev_aCons
  | with_reducible apply ev_aApp
  | with_reducible apply ev_aSel
  | with_reducible apply tail_of
  | with_reducible apply ev_binV
  | ((with_reducible apply binK_l (c := 0)); exact rfl)
  | ((with_reducible apply binK_r (c := 0)); exact rfl; exact rfl)
  | ((with_reducible apply binK_d); exact rfl; exact rfl)
  | with_reducible apply ev_bin
  | with_reducible apply ev_unV
  | ((with_reducible apply unK_l (c := 0)); exact rfl)
  | ((with_reducible apply unK_d); exact rfl)
  | with_reducible apply ev_cmpV
  | ((with_reducible apply cmpK_l (c := 0)); exact rfl)
  | ((with_reducible apply cmpK_d); exact rfl)
  | with_reducible apply ev_attrV
  | ((with_reducible apply attrK_l (c := 0)); exact rfl; walk_at "tb")
  | ((with_reducible apply attrK_f (c := 0)); exact rfl; walk_at "tb")
  | ((with_reducible apply attrK_s); exact rfl)
  | with_reducible apply fldV_of
  | with_reducible apply ev_reprV
  | ((with_reducible apply reprK_l (c := 0)); exact rfl)
  | ((with_reducible apply reprK_d); exact rfl)
  | with_reducible apply ev_fnS
  | with_reducible apply ev_cm
  | with_reducible apply ev_mkS
  | with_reducible apply ev_methS
  | with_reducible apply ev_call
  | with_reducible apply ev_tup
  | with_reducible apply ev_lst
  | with_reducible apply ev_not
  | ((with_reducible apply iteK_t); walk_at "tt")
  | ((with_reducible apply iteK_f); walk_at "tt")
  | with_reducible apply ev_if
  | with_reducible apply ev_and
  | with_reducible apply ev_or
  | with_reducible apply ev_bVal
  | with_reducible apply ev_bTruth
  | with_reducible apply ev_bNot
  | with_reducible apply ev_bAnd
  | with_reducible apply ev_bOr)
local macro_rules | `(tactic| walk_at "ev2") => `(tactic| first
  | with_reducible apply ev_seq
  | with_reducible apply seqK_nx
  | ((with_reducible show seqK _ _ = some _); exact rfl)
  | with_reducible apply ev_set
  | with_reducible apply ev_sif
  | with_reducible apply ev_ret
  | with_reducible exact ev_snil
  | with_reducible apply ev_par2
  | with_reducible apply ev_par3
  | with_reducible apply ev_asg
  | with_reducible apply ev_exp
  | with_reducible apply ev_mut
  | with_reducible apply ev_fld
  | with_reducible apply ev_gset
  | with_reducible apply ev_gtup
  | with_reducible apply ev_gsc
  | with_reducible exact ev_gsn
  | with_reducible apply ev_gix
  | with_reducible exact SetAt.zero
  | with_reducible apply SetAt.succ
  | with_reducible exact Pad.nil
  | with_reducible apply Pad.cons
  | with_reducible apply Pad.und
  | with_reducible exact WipeAt.nil
  | with_reducible apply WipeAt.cons
  | with_reducible exact fz_nil
  | ((with_reducible apply fz_own); exact rfl)
  | with_reducible apply ev_fz
  | with_reducible apply ev_lc
  | with_reducible exact lc_nil
  | with_reducible apply lc_cons
  | with_reducible apply ev_zipA
  | with_reducible exact ZipAt.nil
  | with_reducible apply ZipAt.cons
  | with_reducible exact ev_jsN
  | with_reducible apply ev_jsC
  | ((with_reducible show _ ≤ sizeLine); exact Ln.ok (by walk_at "ln") rfl)
  | ((with_reducible show Nat.log2 _ < 1920); walk_at "bd")
  | with_reducible apply ev_fmtI
  | with_reducible apply ev_walk
  | with_reducible apply ev_fn)
local macro_rules | `(tactic| walk_at "ev") => `(tactic| repeat' (first | walk_at "rf" | walk_at "ev1" | walk_at "ev2" | walk_at "tb" | walk_at "call" | walk_at "pr"))
local macro_rules | `(tactic| walk_at "bd") => `(tactic| first | assumption | decide | omega)
local macro_rules | `(tactic| walk_at "tb") => `(tactic| first | with_reducible exact tb_0 _ | with_reducible exact tb_1 _ | with_reducible exact tb_2 _ | with_reducible exact tb_3 _ | with_reducible exact tb_4 _ | with_reducible exact tb_5 _ | with_reducible exact tb_6 _ | with_reducible exact tb_7 _ | with_reducible exact tb_8 _ | with_reducible exact tb_9 _ | with_reducible exact tb_10 _ | with_reducible exact tb_11 _ | with_reducible exact tb_12 _ | with_reducible exact tb_13 _ | with_reducible exact tb_14 _ | with_reducible exact tb_15 _ | with_reducible exact tb_16 _ | with_reducible exact tb_17 _)
section
variable {q r t : Rat} {k l : Nat} {i : Int}
theorem Bd.mono (h : Bd k q) (hk : Nat.ble k l = true) : Bd l q := by
  have := Nat.pow_le_pow_right (n := 2) (by decide) (Nat.le_of_ble_eq_true hk)
  exact ⟨Nat.lt_of_lt_of_le h.n this, Nat.lt_of_lt_of_le h.d this⟩
theorem Bd.of {a b : Int} (ha : a.natAbs < 2 ^ k) (hb : b.natAbs < 2 ^ k) (h : b ≠ 0) : Bd k (Rat.divInt a b) := by
  constructor
  · rw [Rat.num_divInt, Int.natAbs_ediv_of_dvd]
    · refine Nat.lt_of_le_of_lt (Nat.div_le_self _ _) ?_
      rw [Int.natAbs_mul, Int.natAbs_sign_of_ne_zero h, Nat.one_mul]; exact ha
    · exact Int.dvd_mul_of_dvd_right (Int.gcd_dvd_right ..)
  · rw [Rat.den_divInt, if_neg h]
    exact Nat.lt_of_le_of_lt (Nat.div_le_self _ _) hb
theorem Bd.mul (h : Bd k q) (h' : Bd l r) : Bd (k + l) (q * r) := by
  rw [← rat_mul]
  exact Bd.of (by rw [Int.natAbs_mul]; exact mul_lt2 h.n h'.n) (by rw [Int.natAbs_mul]; exact mul_lt2 h.d h'.d) b_ddz
theorem Bd.add (h : Bd k q) (h' : Bd l r) : Bd (k + l + 1) (q + r) := by
  rw [← rat_add]
  have e : 2 ^ (k + l + 1) = 2 ^ (k + l) + 2 ^ (k + l) := by rw [Nat.pow_succ]; omega
  have h1 : (q.num * (r.den : Int)).natAbs < 2 ^ (k + l) := by rw [Int.natAbs_mul]; exact mul_lt2 h.n h'.d
  have h2 : (r.num * (q.den : Int)).natAbs < 2 ^ (k + l) := by rw [Int.natAbs_mul, Nat.add_comm k l]; exact mul_lt2 h'.n h.d
  have h3 : ((q.den : Int) * (r.den : Int)).natAbs < 2 ^ (k + l) := by rw [Int.natAbs_mul]; exact mul_lt2 h.d h'.d
  exact Bd.of (by omega) (by omega) b_ddz
theorem Bd.div (h : Bd k q) (h' : Bd l r) (hz : r.num ≠ 0) : Bd (k + l) (q / r) := by
  rw [← rat_over]
  exact Bd.of (by rw [Int.natAbs_mul]; exact mul_lt2 h.n h'.d) (by rw [Int.natAbs_mul]; exact mul_lt2 h.d h'.n) (b_dnz hz)
theorem due_self : Due q q.num (q.den : Int) := ⟨rfl, rfl⟩
theorem due_of {a b : Int} (h : Rat.divInt a b = q) : Due q (Rat.divInt a b).num ((Rat.divInt a b).den : Int) := by rw [h]; exact ⟨rfl, rfl⟩
theorem due_add : Due (q + r) (Rat.divInt (q.num * r.den + r.num * q.den) ((q.den : Int) * (r.den : Int))).num ((Rat.divInt (q.num * r.den + r.num * q.den) ((q.den : Int) * (r.den : Int))).den : Int) := due_of (rat_add q r)
theorem due_add' : Due (r + q) (Rat.divInt (q.num * r.den + r.num * q.den) ((q.den : Int) * (r.den : Int))).num ((Rat.divInt (q.num * r.den + r.num * q.den) ((q.den : Int) * (r.den : Int))).den : Int) := due_of (by rw [Rat.add_comm]; exact rat_add q r)
theorem due_sub : Due (q + -r) (Rat.divInt (q.num * r.den + -r.num * q.den) ((q.den : Int) * (r.den : Int))).num ((Rat.divInt (q.num * r.den + -r.num * q.den) ((q.den : Int) * (r.den : Int))).den : Int) := due_of (rat_add q (-r))
theorem due_mul : Due (q * r) (Rat.divInt (q.num * r.num) ((q.den : Int) * (r.den : Int))).num ((Rat.divInt (q.num * r.num) ((q.den : Int) * (r.den : Int))).den : Int) := due_of (rat_mul q r)
theorem due_mul' : Due (r * q) (Rat.divInt (q.num * r.num) ((q.den : Int) * (r.den : Int))).num ((Rat.divInt (q.num * r.num) ((q.den : Int) * (r.den : Int))).den : Int) := due_of (by rw [Rat.mul_comm]; exact rat_mul q r)
theorem due_neg : Due (-r) (-r.num) (r.den : Int) := ⟨rfl, rfl⟩
theorem due_over : Due (q / r) (Rat.divInt (q.num * r.den) ((q.den : Int) * r.num)).num ((Rat.divInt (q.num * r.den) ((q.den : Int) * r.num)).den : Int) := due_of (rat_over q r)
theorem due_addi : Due (q + (i : Rat)) (Rat.divInt (q.num * 1 + i * q.den) ((q.den : Int) * 1)).num ((Rat.divInt (q.num * 1 + i * q.den) ((q.den : Int) * 1)).den : Int) := due_of (rat_add q (i : Rat))
theorem due_subi : Due (q + -(i : Rat)) (Rat.divInt (q.num * 1 + -i * q.den) ((q.den : Int) * 1)).num ((Rat.divInt (q.num * 1 + -i * q.den) ((q.den : Int) * 1)).den : Int) := due_of (rat_add q (-(i : Rat)))
theorem due_isub : Due ((i : Rat) + -q) (Rat.divInt (i * q.den + -q.num * 1) (1 * (q.den : Int))).num ((Rat.divInt (i * q.den + -q.num * 1) (1 * (q.den : Int))).den : Int) := due_of (rat_add (i : Rat) (-q))
theorem due_muli : Due (q * (i : Rat)) (Rat.divInt (q.num * i) ((q.den : Int) * 1)).num ((Rat.divInt (q.num * i) ((q.den : Int) * 1)).den : Int) := due_of (rat_mul q (i : Rat))
theorem due_overi : Due (q / (i : Rat)) (Rat.divInt q.num ((q.den : Int) * i)).num ((Rat.divInt q.num ((q.den : Int) * i)).den : Int) := due_of (by have := rat_over q (i : Rat); rw [show q.num * (((i : Rat).den : Nat) : Int) = q.num from Int.mul_one _] at this; exact this)
theorem due_int : Due (i : Rat) i 1 := ⟨rfl, rfl⟩
theorem Bd.sn (h : Bd 67 q) : Sm q.num := ⟨Nat.lt_of_lt_of_le h.n (Nat.pow_le_pow_right (by decide) (by decide))⟩
theorem Bd.sd (h : Bd 67 q) : Sm (q.den : Int) := ⟨Nat.lt_of_lt_of_le h.d (Nat.pow_le_pow_right (by decide) (by decide))⟩
theorem Sm.neg {x : Int} (h : Sm x) : Sm (-x) := ⟨by rw [Int.natAbs_neg]; exact h.lt⟩
theorem Sm.one : Sm 1 := ⟨by decide⟩
theorem eqPt {a b c d : Int} (h : a = c ∧ b = d) : eqD (.tup [.int a, .int b]) (.tup [.int c, .int d]) = some (.dat (.bl true)) := by
  obtain ⟨rfl, rfl⟩ := h
  have e : eqD (.tup [.int a, .int b]) (.tup [.int a, .int b]) = some (.dat (.bl (PyData.eqv (.tuple [.int a, .int b]) (.tuple [.int a, .int b])))) := rfl
  rw [e]
  simp [PyData.eqv, PyData.eqvAll]
theorem eqPf {a b c d : Int} (h : ¬(a = c ∧ b = d)) : eqD (.tup [.int a, .int b]) (.tup [.int c, .int d]) = some (.dat (.bl false)) := by
  have e : eqD (.tup [.int a, .int b]) (.tup [.int c, .int d]) = some (.dat (.bl (PyData.eqv (.tuple [.int a, .int b]) (.tuple [.int c, .int d])))) := rfl
  rw [e]
  simp only [PyData.eqv, PyData.eqvAll]
  simp
  intro h1 h2
  exact h ⟨h1, h2⟩
end
inductive NegAt : Bool → Bool → Bool → Prop
  | id {v : Bool} : NegAt false v v
  | tf : NegAt true true false
  | ft : NegAt true false true
  | any {v : Bool} : NegAt true v (!v)
theorem NegAt.eq {n v w : Bool} (h : NegAt n v w) : (if n then !v else v) = w := by cases h <;> rfl
theorem NegAt.eqn {v w : Bool} (h : NegAt true v w) : (!v) = w := by cases h <;> rfl
theorem cmpK_n {neg : Bool} {l : Nat → Option DF} {f : D → D → Option RV} {a b : RV} {c : Nat} {F : DF} {v w : Bool} {e2 e3 : Env'} (h1 : a.cls = some c) (h2 : l c = some F) (h3 : eqSideB c b = true) (h4 : fnTail [false, false] F [a, b] e2 = some (.dat (.bl v), e3)) (h5 : NegAt neg v w) : cmpK neg l f a b e2 = some (.dat (.bl w), e3) := by
  rw [← h5.eq]
  exact cmpK_l h1 h2 h3 h4
theorem ev_notN {P : PF} {env e1 : Env'} {a : RV} {x : D} {b w : Bool} (h1 : P env = some (a, e1)) (h2 : a.cont e1 = some x) (h3 : truthD x = some b) (h4 : NegAt true b w) : pNot P env = some (.dat (.bl w), e1) := by
  rw [← h4.eqn]
  exact ev_not h1 h2 h3
theorem reprB2 {a b : Bool} : reprD [.lst [.bl a, .bl b]] = some (.dat (.str (PyData.shown (.list [.bool a, .bool b])))) := by
  cases a <;> cases b <;> rfl
theorem reprB3 {a b c : Bool} : reprD [.lst [.bl a, .bl b, .bl c]] = some (.dat (.str (PyData.shown (.list [.bool a, .bool b, .bool c])))) := by
  cases a <;> cases b <;> cases c <;> rfl
theorem F_eq_b (n : Nat) (q r : Rat) (v : Bool) (h : q = r ↔ v = true) : d_Ratio___eq__.F (tab prg (n+1)) 60 [.dat (ratD q), .dat (ratD r)] = some (.dat (.bl v), [.dat (ratD q), .dat (ratD r)]) := by
  cases v with
  | true => exact F_eq_t n q r (h.mpr rfl)
  | false => exact F_eq_f n q r fun e => by cases h.mp e
theorem eqPb {a b c d : Int} {v : Bool} (h : (a = c ∧ b = d) ↔ v = true) : eqD (.tup [.int a, .int b]) (.tup [.int c, .int d]) = some (.dat (.bl v)) := by
  cases v with
  | true => exact eqPt (h.mpr rfl)
  | false => exact eqPf fun e => by cases h.mp e
end K51
end

section
set_option Elab.async false
set_option linter.all false
set_option maxRecDepth 100000
set_option maxHeartbeats 4000000
namespace K51
open PySem L2 Den PyProof.Rows
local macro_rules | `(tactic| walk_at "rf") => `(tactic| first
  | ((with_reducible show RV.cont _ _ = some _); exact rfl)
  | ((with_reducible show RV.dt _ = some _); exact rfl)
  | ((with_reducible show RV.cls _ = _); exact rfl)
  | ((with_reducible show RV.objf _ = _); exact rfl)
  | ((with_reducible show passE _ _ _ = some _); exact rfl)
  | ((with_reducible show BackAt _ _ _ _ _); first | exact BackAt.nil | apply BackAt.dat | apply BackAt.slot | apply BackAt.own)
  | ((with_reducible show onceB _ _ _ = true); exact rfl)
  | ((with_reducible show ownB _ _ _ = true); exact rfl)
  | ((with_reducible show pinned _ _ _ = false); exact rfl)
  | ((with_reducible show dts _ = some _); exact rfl)
  | ((with_reducible show conts _ _ = some _); exact rfl)
  | ((with_reducible show setSV _ _ = some _); exact rfl)
  | ((with_reducible show retK _ _ _ = some _); exact rfl)
  | ((with_reducible show fnK _ _ = some _); exact rfl)
  | ((with_reducible show List.length _ = _); exact rfl)
  | ((with_reducible show pick _ _ = _); exact rfl)
  | ((with_reducible show Nat.ble _ _ = true); exact rfl)
  | ((with_reducible show Nat.blt _ _ = true); exact rfl)
  | ((with_reducible show truthD _ = some _); exact rfl)
  | ((with_reducible show sideB _ _ = true); exact rfl)
  | ((with_reducible show intB _ = true); exact rfl)
  | ((with_reducible show eqSideB _ _ = true); exact rfl)
  | ((with_reducible show itemsD _ = some _); exact rfl)
  | ((with_reducible show putD _ _ _ = _); exact rfl)
  | ((with_reducible show List.lookup _ _ = _); exact rfl)
  | ((with_reducible show getElem? _ _ = some _); exact rfl)
  | with_reducible exact ixN0
  | with_reducible exact ixN1)
local macro_rules | `(tactic| walk_at "ln") => `(tactic| repeat' (first | with_reducible exact Ln.num (by walk_at "bd") | with_reducible exact Ln.lit | with_reducible exact Ln.emp | with_reducible apply Ln.app))
local macro_rules | `(tactic| walk_at "sa") => `(tactic| repeat' (first | with_reducible exact AppAt.nil | with_reducible apply AppAt.cons | with_reducible exact ZipAt.nil | with_reducible apply ZipAt.cons))
local macro_rules | `(tactic| walk_at "pr") => `(tactic| first
  | ((with_reducible apply ev_mul); walk_at "bd")
  | ((with_reducible apply ev_fdiv) <;> walk_at "bd")
  | ((with_reducible apply ev_mod); walk_at "bd")
  | ((with_reducible apply ev_divmod) <;> walk_at "bd")
  | ((with_reducible apply ev_pow) <;> walk_at "bd")
  | ((with_reducible apply ev_addS); exact Ln.ok2 (by walk_at "ln") (by walk_at "ln") rfl)
  | ((with_reducible apply ev_addL); walk_at "sa"; exact rfl)
  | ((with_reducible apply ev_append); walk_at "sa"; exact rfl)
  | ((with_reducible apply ev_strI); walk_at "bd")
  | with_reducible exact ev_twice
  | ((with_reducible show addD _ _ = some _); exact rfl)
  | ((with_reducible show subD _ _ = some _); exact rfl)
  | ((with_reducible show cmpD _ _ _ _ = some _); exact rfl)
  | ((with_reducible show isD _ _ _ = some _); exact rfl)
  | ((with_reducible show ixD _ _ = some _); exact rfl)
  | ((with_reducible show absD _ = some _); exact rfl)
  | ((with_reducible show max2D _ = some _); exact rfl)
  | ((with_reducible show min2D _ = some _); exact rfl)
  | ((with_reducible show int1D _ = some _); exact rfl)
  | ((with_reducible show lenD _ = some _); exact rfl)
  | ((with_reducible show gcdD _ = some _); exact rfl)
  | ((with_reducible show allD _ = some _); exact rfl)
  | ((with_reducible show isi2D _ _ = some _); exact rfl)
  | ((with_reducible show negD _ = some _); exact rfl)
  | ((with_reducible show appendD _ _ = some _); exact rfl)
  | ((with_reducible show eqD _ _ = some _); exact rfl)
  | ((with_reducible show neD _ _ = some _); exact rfl)
  | ((with_reducible show mul3D _ _ = some _); exact rfl))
local macro_rules | `(tactic| walk_at "tt") => `(tactic| first | with_reducible exact bne_self _ | with_reducible assumption | exact rfl | assumption | (simp only [Bool.not_eq_true', Bool.not_eq_false', Bool.not_true, Bool.not_false, decide_eq_true_eq, decide_eq_false_iff_not, beq_iff_eq, bne_iff_ne, beq_eq_false_iff_ne, Bool.and_eq_true, Bool.and_true, Bool.true_and, if_true, Bool.false_eq_true, if_false]; first | done | assumption | omega) | (simp [*]; done))
local macro_rules | `(tactic| walk_at "ev1") => `(tactic| first
  | with_reducible exact ev_c
  | ((with_reducible show some _ = some _); with_reducible exact rfl)
  | ((with_reducible apply ev_vd); exact rfl)
  | ((with_reducible apply ev_vo); exact rfl)
  | ((with_reducible apply ev_vb); exact rfl)
  | with_reducible exact ev_aNil
  | with_reducible apply ev_aCons
  | with_reducible apply ev_aApp
  | with_reducible apply ev_aSel
  | with_reducible apply tail_of
  | with_reducible apply ev_binV
  | ((with_reducible apply binK_l (c := 0)); exact rfl)
  | ((with_reducible apply binK_r (c := 0)); exact rfl; exact rfl)
  | ((with_reducible apply binK_d); exact rfl; exact rfl)
  | with_reducible apply ev_bin
  | with_reducible apply ev_unV
  | ((with_reducible apply unK_l (c := 0)); exact rfl)
  | ((with_reducible apply unK_d); exact rfl)
  | with_reducible apply ev_cmpV
  | ((with_reducible apply cmpK_l (c := 0)); exact rfl)
  | ((with_reducible apply cmpK_d); exact rfl)
  | with_reducible apply ev_attrV
  | ((with_reducible apply attrK_l (c := 0)); exact rfl; walk_at "tb")
  | ((with_reducible apply attrK_f (c := 0)); exact rfl; walk_at "tb")
  | ((with_reducible apply attrK_s); exact rfl)
  | with_reducible apply fldV_of
  | with_reducible apply ev_reprV
  | ((with_reducible apply reprK_l (c := 0)); exact rfl)
  | ((with_reducible apply reprK_d); exact rfl)
  | with_reducible apply ev_fnS
  | with_reducible apply ev_cm
  | with_reducible apply ev_mkS
  | with_reducible apply ev_methS
  | with_reducible apply ev_call
  | with_reducible apply ev_tup
  | with_reducible apply ev_lst
  | with_reducible apply ev_not
  | ((with_reducible apply iteK_t); walk_at "tt")
  | ((with_reducible apply iteK_f); walk_at "tt")
  | with_reducible apply ev_if
  | with_reducible apply ev_and
  | with_reducible apply ev_or
  | with_reducible apply ev_bVal
  | with_reducible apply ev_bTruth
  | with_reducible apply ev_bNot
  | with_reducible apply ev_bAnd
  | with_reducible apply ev_bOr)
local macro_rules | `(tactic| walk_at "ev2") => `(tactic| first
  | with_reducible apply ev_seq
  | with_reducible apply seqK_nx
  | ((with_reducible show seqK _ _ = some _); exact rfl)
  | with_reducible apply ev_set
  | with_reducible apply ev_sif
  | with_reducible apply ev_ret
  | with_reducible exact ev_snil
  | with_reducible apply ev_par2
  | with_reducible apply ev_par3
  | with_reducible apply ev_asg
  | with_reducible apply ev_exp
  | with_reducible apply ev_mut
  | with_reducible apply ev_fld
  | with_reducible apply ev_gset
  | with_reducible apply ev_gtup
  | with_reducible apply ev_gsc
  | with_reducible exact ev_gsn
  | with_reducible apply ev_gix
  | with_reducible exact SetAt.zero
  | with_reducible apply SetAt.succ
  | with_reducible exact Pad.nil
  | with_reducible apply Pad.cons
  | with_reducible apply Pad.und
  | with_reducible exact WipeAt.nil
  | with_reducible apply WipeAt.cons
  | with_reducible exact fz_nil
  | ((with_reducible apply fz_own); exact rfl)
  | with_reducible apply ev_fz
  | with_reducible apply ev_lc
  | with_reducible exact lc_nil
  | with_reducible apply lc_cons
  | with_reducible apply ev_zipA
  | with_reducible exact ZipAt.nil
  | with_reducible apply ZipAt.cons
  | with_reducible exact ev_jsN
  | with_reducible apply ev_jsC
  | ((with_reducible show _ ≤ sizeLine); exact Ln.ok (by walk_at "ln") rfl)
  | ((with_reducible show Nat.log2 _ < 1920); walk_at "bd")
  | with_reducible apply ev_fmtI
  | with_reducible apply ev_walk
  | with_reducible apply ev_fn)
local macro_rules | `(tactic| walk_at "ev") => `(tactic| repeat' (first | walk_at "rf" | walk_at "ev1" | walk_at "ev2" | walk_at "tb" | walk_at "call" | walk_at "pr"))
local macro_rules | `(tactic| walk_at "bd") => `(tactic| first | assumption | decide | omega)
local macro_rules | `(tactic| walk_at "tb") => `(tactic| first | with_reducible exact tb_0 _ | with_reducible exact tb_1 _ | with_reducible exact tb_2 _ | with_reducible exact tb_3 _ | with_reducible exact tb_4 _ | with_reducible exact tb_5 _ | with_reducible exact tb_6 _ | with_reducible exact tb_7 _ | with_reducible exact tb_8 _ | with_reducible exact tb_9 _ | with_reducible exact tb_10 _ | with_reducible exact tb_11 _ | with_reducible exact tb_12 _ | with_reducible exact tb_13 _ | with_reducible exact tb_14 _ | with_reducible exact tb_15 _ | with_reducible exact tb_16 _ | with_reducible exact tb_17 _)
local macro_rules | `(tactic| walk_at "ev1") => `(tactic| first | ((with_reducible apply cmpK_n (c := 0)); exact rfl) | with_reducible apply ev_notN)
local macro_rules | `(tactic| walk_at "bx") => `(tactic| repeat' (first | with_reducible assumption | with_reducible apply Bd.add | with_reducible apply Bd.mul | with_reducible apply Bd.neg | (with_reducible apply Bd.div) ))
local macro_rules | `(tactic| walk_at "bd") => `(tactic| first
  | with_reducible assumption
  | with_reducible exact due_self | with_reducible exact due_add | with_reducible exact due_add' | with_reducible exact due_mul | with_reducible exact due_mul' | with_reducible exact due_sub | with_reducible exact due_neg | with_reducible exact due_over
  | with_reducible exact due_addi | with_reducible exact due_subi | with_reducible exact due_isub | with_reducible exact due_muli | with_reducible exact due_overi | with_reducible exact due_int
  | with_reducible exact b_ddz | with_reducible exact den_ne _ | with_reducible exact Sm.one | with_reducible exact Bd.sn (by assumption) | with_reducible exact Bd.sd (by assumption) | with_reducible exact Sm.neg (Bd.sn (by assumption)) | with_reducible exact Sm.neg (by assumption)
  | ((with_reducible refine Bd.mono (k := 67) ?_ ?_); with_reducible assumption; exact rfl)
  | ((with_reducible apply Bd.mono); (· walk_at "bx"); exact rfl)
  | decide)
local macro_rules | `(tactic| walk_at "call") => `(tactic| first
  | with_reducible assumption
  | with_reducible apply F_above | with_reducible apply F_below | with_reducible apply F_pair
  | ((with_reducible apply F_of) <;> walk_at "bd")
  | ((with_reducible apply F_add_r) <;> walk_at "bd")
  | ((with_reducible apply F_add_i) <;> walk_at "bd")
  | ((with_reducible apply F_sub_r) <;> walk_at "bd")
  | ((with_reducible apply F_sub_i) <;> walk_at "bd")
  | ((with_reducible apply F_mul_r) <;> walk_at "bd")
  | ((with_reducible apply F_mul_i) <;> walk_at "bd")
  | ((with_reducible apply F_neg) <;> walk_at "bd")
  | ((with_reducible apply F_over_r) <;> walk_at "bd")
  | ((with_reducible apply F_over_i) <;> walk_at "bd")
  | ((with_reducible apply F_radd) <;> walk_at "bd")
  | ((with_reducible apply F_rsub) <;> walk_at "bd")
  | ((with_reducible apply F_rmul) <;> walk_at "bd")
  | ((with_reducible apply F_sum) <;> walk_at "bd")
  | ((with_reducible apply F_times) <;> walk_at "bd")
  | ((with_reducible apply F_lowest) <;> walk_at "bd")
  | ((with_reducible apply F_is) <;> walk_at "bd")
  | with_reducible apply F_is_fraction
  | with_reducible exact NegAt.id | with_reducible exact NegAt.tf | with_reducible exact NegAt.ft | with_reducible exact NegAt.any
  | with_reducible exact reprB2 | with_reducible exact reprB3
  | with_reducible exact eqPb (by assumption)
  | ((with_reducible apply F_eq_b); with_reducible assumption)
  | with_reducible exact eqPt (by assumption)
  | with_reducible exact eqPf (by assumption)
  | ((with_reducible apply F_eq_t); walk_at "be")
  | ((with_reducible apply F_eq_f); walk_at "be")
  | with_reducible apply F_eq_i
  | with_reducible apply F_eq_p)
local macro_rules | `(tactic| walk_at "be") => `(tactic| with_reducible assumption)
theorem F_two_right (n : Nat) (q r : Rat) (hq : Bd 67 q) (hr : Bd 67 r) : d__law_two_right.F (tab prg (n+7)) 60 [.dat (prD q), .dat (prD r)] = some (.dat (.bl true), [.dat (prD q), .dat (prD r)]) := by
  have m1 : ((r.den : Int) * q.num).natAbs < 2 ^ 2000 := (Bd.sd hr).m (Bd.sn hq)
  have m2 : ((q.den : Int) * r.num).natAbs < 2 ^ 2000 := (Bd.sd hq).m (Bd.sn hr)
  have m3 : (q.den : Int).natAbs.log2 + r.num.natAbs.log2 < 1000000 := (Bd.sd hq).l (Bd.sn hr)
  have m4 : q.num.natAbs.log2 + (r.den : Int).natAbs.log2 < 1000000 := (Bd.sn hq).l (Bd.sd hr)
  obtain ⟨v, b1⟩ : ∃ v : Bool, q = r ↔ v = true := ⟨decide (q = r), by simp⟩
  have b2 : r = q ↔ v = true := ⟨fun e => b1.mp e.symm, fun e => (b1.mpr e).symm⟩
  have b3 : (q.num = r.num ∧ (q.den : Int) = (r.den : Int)) ↔ v = true := ⟨fun e => b1.mp (Rat.ext e.1 (by omega)), fun e => by rw [b1.mpr e]; exact ⟨rfl, rfl⟩⟩
  by_cases hz : r.num = 0
  · have hz' : (!(r.num == 0)) = false := by rw [hz]; rfl
    rw [den__law_two_right]
    walk_at "ev"
  · have hz' : (!(r.num == 0)) = true := by rw [Bool.not_eq_true']; exact beq_eq_false_iff_ne.mpr hz
    have hb := b_dnz (q := q) hz
    rw [den__law_two_right]
    walk_at "ev"
end K51
end

section
set_option Elab.async false
set_option linter.all false
set_option maxRecDepth 100000
set_option maxHeartbeats 4000000
namespace K51
open PySem L2 Den PyProof.Rows
local macro_rules | `(tactic| walk_at "rf") => `(tactic| first
  | ((with_reducible show RV.cont _ _ = some _); exact rfl)
  | ((with_reducible show RV.dt _ = some _); exact rfl)
  | ((with_reducible show RV.cls _ = _); exact rfl)
  | ((with_reducible show RV.objf _ = _); exact rfl)
  | ((with_reducible show passE _ _ _ = some _); exact rfl)
  | ((with_reducible show BackAt _ _ _ _ _); first | exact BackAt.nil | apply BackAt.dat | apply BackAt.slot | apply BackAt.own)
  | ((with_reducible show onceB _ _ _ = true); exact rfl)
  | ((with_reducible show ownB _ _ _ = true); exact rfl)
  | ((with_reducible show pinned _ _ _ = false); exact rfl)
  | ((with_reducible show dts _ = some _); exact rfl)
  | ((with_reducible show conts _ _ = some _); exact rfl)
  | ((with_reducible show setSV _ _ = some _); exact rfl)
  | ((with_reducible show retK _ _ _ = some _); exact rfl)
  | ((with_reducible show fnK _ _ = some _); exact rfl)
  | ((with_reducible show List.length _ = _); exact rfl)
  | ((with_reducible show pick _ _ = _); exact rfl)
  | ((with_reducible show Nat.ble _ _ = true); exact rfl)
  | ((with_reducible show Nat.blt _ _ = true); exact rfl)
  | ((with_reducible show truthD _ = some _); exact rfl)
  | ((with_reducible show sideB _ _ = true); exact rfl)
  | ((with_reducible show intB _ = true); exact rfl)
  | ((with_reducible show eqSideB _ _ = true); exact rfl)
  | ((with_reducible show itemsD _ = some _); exact rfl)
  | ((with_reducible show putD _ _ _ = _); exact rfl)
  | ((with_reducible show List.lookup _ _ = _); exact rfl)
  | ((with_reducible show getElem? _ _ = some _); exact rfl)
  | with_reducible exact ixN0
  | with_reducible exact ixN1)
local macro_rules | `(tactic| walk_at "ln") => `(tactic| repeat' (first | with_reducible exact Ln.num (by walk_at "bd") | with_reducible exact Ln.lit | with_reducible exact Ln.emp | with_reducible apply Ln.app))
local macro_rules | `(tactic| walk_at "sa") => `(tactic| repeat' (first | with_reducible exact AppAt.nil | with_reducible apply AppAt.cons | with_reducible exact ZipAt.nil | with_reducible apply ZipAt.cons))
local macro_rules | `(tactic| walk_at "pr") => `(tactic| first
  | ((with_reducible apply ev_mul); walk_at "bd")
  | ((with_reducible apply ev_fdiv) <;> walk_at "bd")
  | ((with_reducible apply ev_mod); walk_at "bd")
  | ((with_reducible apply ev_divmod) <;> walk_at "bd")
  | ((with_reducible apply ev_pow) <;> walk_at "bd")
  | ((with_reducible apply ev_addS); exact Ln.ok2 (by walk_at "ln") (by walk_at "ln") rfl)
  | ((with_reducible apply ev_addL); walk_at "sa"; exact rfl)
  | ((with_reducible apply ev_append); walk_at "sa"; exact rfl)
  | ((with_reducible apply ev_strI); walk_at "bd")
  | with_reducible exact ev_twice
  | ((with_reducible show addD _ _ = some _); exact rfl)
  | ((with_reducible show subD _ _ = some _); exact rfl)
  | ((with_reducible show cmpD _ _ _ _ = some _); exact rfl)
  | ((with_reducible show isD _ _ _ = some _); exact rfl)
  | ((with_reducible show ixD _ _ = some _); exact rfl)
  | ((with_reducible show absD _ = some _); exact rfl)
  | ((with_reducible show max2D _ = some _); exact rfl)
  | ((with_reducible show min2D _ = some _); exact rfl)
  | ((with_reducible show int1D _ = some _); exact rfl)
  | ((with_reducible show lenD _ = some _); exact rfl)
  | ((with_reducible show gcdD _ = some _); exact rfl)
  | ((with_reducible show allD _ = some _); exact rfl)
  | ((with_reducible show isi2D _ _ = some _); exact rfl)
  | ((with_reducible show negD _ = some _); exact rfl)
  | ((with_reducible show appendD _ _ = some _); exact rfl)
  | ((with_reducible show eqD _ _ = some _); exact rfl)
  | ((with_reducible show neD _ _ = some _); exact rfl)
  | ((with_reducible show mul3D _ _ = some _); exact rfl))
local macro_rules | `(tactic| walk_at "tt") => `(tactic| first | with_reducible exact bne_self _ | with_reducible assumption | exact rfl | assumption | (simp only [Bool.not_eq_true', Bool.not_eq_false', Bool.not_true, Bool.not_false, decide_eq_true_eq, decide_eq_false_iff_not, beq_iff_eq, bne_iff_ne, beq_eq_false_iff_ne, Bool.and_eq_true, Bool.and_true, Bool.true_and, if_true, Bool.false_eq_true, if_false]; first | done | assumption | omega) | (simp [*]; done))
local macro_rules | `(tactic| walk_at "ev1") => `(tactic| first
  | with_reducible exact ev_c
  | ((with_reducible show some _ = some _); with_reducible exact rfl)
  | ((with_reducible apply ev_vd); exact rfl)
  | ((with_reducible apply ev_vo); exact rfl)
  | ((with_reducible apply ev_vb); exact rfl)
  | with_reducible exact ev_aNil
  | with_reducible apply ev_aCons
  | with_reducible apply ev_aApp
  | with_reducible apply ev_aSel
  | with_reducible apply tail_of
  | with_reducible apply ev_binV
  | ((with_reducible apply binK_l (c := 0)); exact rfl)
  | ((with_reducible apply binK_r (c := 0)); exact rfl; exact rfl)
  | ((with_reducible apply binK_d); exact rfl; exact rfl)
  | with_reducible apply ev_bin
  | with_reducible apply ev_unV
  | ((with_reducible apply unK_l (c := 0)); exact rfl)
  | ((with_reducible apply unK_d); exact rfl)
  | with_reducible apply ev_cmpV
  | ((with_reducible apply cmpK_l (c := 0)); exact rfl)
  | ((with_reducible apply cmpK_d); exact rfl)
  | with_reducible apply ev_attrV
  | ((with_reducible apply attrK_l (c := 0)); exact rfl; walk_at "tb")
  | ((with_reducible apply attrK_f (c := 0)); exact rfl; walk_at "tb")
  | ((with_reducible apply attrK_s); exact rfl)
  | with_reducible apply fldV_of
  | with_reducible apply ev_reprV
  | ((with_reducible apply reprK_l (c := 0)); exact rfl)
  | ((with_reducible apply reprK_d); exact rfl)
  | with_reducible apply ev_fnS
  | with_reducible apply ev_cm
  | with_reducible apply ev_mkS
  | with_reducible apply ev_methS
  | with_reducible apply ev_call
  | with_reducible apply ev_tup
  | with_reducible apply ev_lst
  | with_reducible apply ev_not
  | ((with_reducible apply iteK_t); walk_at "tt")
  | ((with_reducible apply iteK_f); walk_at "tt")
  | with_reducible apply ev_if
  | with_reducible apply ev_and
  | with_reducible apply ev_or
  | with_reducible apply ev_bVal
  | with_reducible apply ev_bTruth
  | with_reducible apply ev_bNot
  | with_reducible apply ev_bAnd
  | with_reducible apply ev_bOr)
local macro_rules | `(tactic| walk_at "ev2") => `(tactic| first
  | with_reducible apply ev_seq
  | with_reducible apply seqK_nx
  | ((with_reducible show seqK _ _ = some _); exact rfl)
  | with_reducible apply ev_set
  | with_reducible apply ev_sif
  | with_reducible apply ev_ret
  | with_reducible exact ev_snil
  | with_reducible apply ev_par2
  | with_reducible apply ev_par3
  | with_reducible apply ev_asg
  | with_reducible apply ev_exp
  | with_reducible apply ev_mut
  | with_reducible apply ev_fld
  | with_reducible apply ev_gset
  | with_reducible apply ev_gtup
  | with_reducible apply ev_gsc
  | with_reducible exact ev_gsn
  | with_reducible apply ev_gix
  | with_reducible exact SetAt.zero
  | with_reducible apply SetAt.succ
  | with_reducible exact Pad.nil
  | with_reducible apply Pad.cons
  | with_reducible apply Pad.und
  | with_reducible exact WipeAt.nil
  | with_reducible apply WipeAt.cons
  | with_reducible exact fz_nil
  | ((with_reducible apply fz_own); exact rfl)
  | with_reducible apply ev_fz
  | with_reducible apply ev_lc
  | with_reducible exact lc_nil
  | with_reducible apply lc_cons
  | with_reducible apply ev_zipA
  | with_reducible exact ZipAt.nil
  | with_reducible apply ZipAt.cons
  | with_reducible exact ev_jsN
  | with_reducible apply ev_jsC
  | ((with_reducible show _ ≤ sizeLine); exact Ln.ok (by walk_at "ln") rfl)
  | ((with_reducible show Nat.log2 _ < 1920); walk_at "bd")
  | with_reducible apply ev_fmtI
  | with_reducible apply ev_walk
  | with_reducible apply ev_fn)
local macro_rules | `(tactic| walk_at "ev") => `(tactic| repeat' (first | walk_at "rf" | walk_at "ev1" | walk_at "ev2" | walk_at "tb" | walk_at "call" | walk_at "pr"))
local macro_rules | `(tactic| walk_at "bd") => `(tactic| first | assumption | decide | omega)
local macro_rules | `(tactic| walk_at "tb") => `(tactic| first | with_reducible exact tb_0 _ | with_reducible exact tb_1 _ | with_reducible exact tb_2 _ | with_reducible exact tb_3 _ | with_reducible exact tb_4 _ | with_reducible exact tb_5 _ | with_reducible exact tb_6 _ | with_reducible exact tb_7 _ | with_reducible exact tb_8 _ | with_reducible exact tb_9 _ | with_reducible exact tb_10 _ | with_reducible exact tb_11 _ | with_reducible exact tb_12 _ | with_reducible exact tb_13 _ | with_reducible exact tb_14 _ | with_reducible exact tb_15 _ | with_reducible exact tb_16 _ | with_reducible exact tb_17 _)
local macro_rules | `(tactic| walk_at "ev1") => `(tactic| first | ((with_reducible apply cmpK_n (c := 0)); exact rfl) | with_reducible apply ev_notN)
local macro_rules | `(tactic| walk_at "bx") => `(tactic| repeat' (first | with_reducible assumption | with_reducible apply Bd.add | with_reducible apply Bd.mul | with_reducible apply Bd.neg | (with_reducible apply Bd.div) ))
local macro_rules | `(tactic| walk_at "bd") => `(tactic| first
  | with_reducible assumption
  | with_reducible exact due_self | with_reducible exact due_add | with_reducible exact due_add' | with_reducible exact due_mul | with_reducible exact due_mul' | with_reducible exact due_sub | with_reducible exact due_neg | with_reducible exact due_over
  | with_reducible exact due_addi | with_reducible exact due_subi | with_reducible exact due_isub | with_reducible exact due_muli | with_reducible exact due_overi | with_reducible exact due_int
  | with_reducible exact b_ddz | with_reducible exact den_ne _ | with_reducible exact Sm.one | with_reducible exact Bd.sn (by assumption) | with_reducible exact Bd.sd (by assumption) | with_reducible exact Sm.neg (Bd.sn (by assumption)) | with_reducible exact Sm.neg (by assumption)
  | ((with_reducible refine Bd.mono (k := 67) ?_ ?_); with_reducible assumption; exact rfl)
  | ((with_reducible apply Bd.mono); (· walk_at "bx"); exact rfl)
  | decide)
local macro_rules | `(tactic| walk_at "call") => `(tactic| first
  | with_reducible assumption
  | with_reducible apply F_above | with_reducible apply F_below | with_reducible apply F_pair
  | ((with_reducible apply F_of) <;> walk_at "bd")
  | ((with_reducible apply F_add_r) <;> walk_at "bd")
  | ((with_reducible apply F_add_i) <;> walk_at "bd")
  | ((with_reducible apply F_sub_r) <;> walk_at "bd")
  | ((with_reducible apply F_sub_i) <;> walk_at "bd")
  | ((with_reducible apply F_mul_r) <;> walk_at "bd")
  | ((with_reducible apply F_mul_i) <;> walk_at "bd")
  | ((with_reducible apply F_neg) <;> walk_at "bd")
  | ((with_reducible apply F_over_r) <;> walk_at "bd")
  | ((with_reducible apply F_over_i) <;> walk_at "bd")
  | ((with_reducible apply F_radd) <;> walk_at "bd")
  | ((with_reducible apply F_rsub) <;> walk_at "bd")
  | ((with_reducible apply F_rmul) <;> walk_at "bd")
  | ((with_reducible apply F_sum) <;> walk_at "bd")
  | ((with_reducible apply F_times) <;> walk_at "bd")
  | ((with_reducible apply F_lowest) <;> walk_at "bd")
  | ((with_reducible apply F_is) <;> walk_at "bd")
  | with_reducible apply F_is_fraction
  | with_reducible exact NegAt.id | with_reducible exact NegAt.tf | with_reducible exact NegAt.ft | with_reducible exact NegAt.any
  | with_reducible exact reprB2 | with_reducible exact reprB3
  | with_reducible exact eqPb (by assumption)
  | ((with_reducible apply F_eq_b); with_reducible assumption)
  | with_reducible exact eqPt (by assumption)
  | with_reducible exact eqPf (by assumption)
  | ((with_reducible apply F_eq_t); walk_at "be")
  | ((with_reducible apply F_eq_f); walk_at "be")
  | with_reducible apply F_eq_i
  | with_reducible apply F_eq_p)
local macro_rules | `(tactic| walk_at "be") => `(tactic| with_reducible assumption)
theorem init_int (n : Nat) (i : Int) : d_Ratio___init__.F (tab prg (n+2)) 60 [.own (.obj 0 []), .dat (.int i), .dat (.int 1)] = some (.dat .non, [.own (ratD (i : Rat)), .dat (.int i), .dat (.int 1)]) := by
  rw [← rat_int]
  exact F_init n i 1 (by decide) (by decide)
local macro_rules | `(tactic| walk_at "call") => `(tactic| with_reducible apply init_int)
theorem F_whole_right (n : Nat) (q : Rat) (i : Int) (hq : Bd 67 q) (hr : Bd 67 (i : Rat)) : d__law_whole_right.F (tab prg (n+7)) 60 [.dat (prD q), .dat (.int i)] = some (.dat (.bl true), [.dat (prD q), .dat (.int i)]) := by
  have si : Sm i := Bd.sn hr
  have m2 : ((q.den : Int) * i).natAbs < 2 ^ 2000 := (Bd.sd hq).m si
  have m3 : (q.den : Int).natAbs.log2 + i.natAbs.log2 < 1000000 := (Bd.sd hq).l si
  have one : (1 : Int) ≠ 0 := by decide
  obtain ⟨v, b1⟩ : ∃ v : Bool, (i : Rat) = q ↔ v = true := ⟨decide ((i : Rat) = q), by simp⟩
  have b3 : (i = q.num ∧ 1 = (q.den : Int)) ↔ v = true := ⟨fun e => b1.mp (Rat.ext e.1 (by show 1 = q.den; omega)), fun e => by rw [← b1.mpr e]; exact ⟨rfl, rfl⟩⟩
  have hs : (PyData.shown (.list [.bool true, .bool v]) == PyData.shown (.list [.bool true, .bool v])) = true := beq_self _
  have key : d__law_whole_right.F (tab prg (n+7)) 60 [.dat (prD q), .dat (.int i)] = some (.dat (.bl (PyData.shown (.list [.bool true, .bool v]) == PyData.shown (.list [.bool true, .bool v]))), [.dat (prD q), .dat (.int i)]) := by
    by_cases hz : i = 0
    · have hz' : (!(i == 0)) = false := by rw [hz]; rfl
      rw [den__law_whole_right]
      walk_at "ev"
    · have hz' : (!(i == 0)) = true := by rw [Bool.not_eq_true']; exact beq_eq_false_iff_ne.mpr hz
      have hz2 : (i : Rat).num ≠ 0 := hz
      have hb : (q.den : Int) * i ≠ 0 := Int.mul_ne_zero (den_ne q) hz
      rw [den__law_whole_right]
      walk_at "ev"
  rw [key, hs]
end K51
end

section
set_option Elab.async false
set_option linter.all false
set_option maxRecDepth 100000
set_option maxHeartbeats 4000000
namespace K51
open PySem L2 Den PyProof.Rows
local macro_rules | `(tactic| walk_at "rf") => `(tactic| first
  | ((with_reducible show RV.cont _ _ = some _); exact rfl)
  | ((with_reducible show RV.dt _ = some _); exact rfl)
  | ((with_reducible show RV.cls _ = _); exact rfl)
  | ((with_reducible show RV.objf _ = _); exact rfl)
  | ((with_reducible show passE _ _ _ = some _); exact rfl)
  | ((with_reducible show BackAt _ _ _ _ _); first | exact BackAt.nil | apply BackAt.dat | apply BackAt.slot | apply BackAt.own)
  | ((with_reducible show onceB _ _ _ = true); exact rfl)
  | ((with_reducible show ownB _ _ _ = true); exact rfl)
  | ((with_reducible show pinned _ _ _ = false); exact rfl)
  | ((with_reducible show dts _ = some _); exact rfl)
  | ((with_reducible show conts _ _ = some _); exact rfl)
  | ((with_reducible show setSV _ _ = some _); exact rfl)
  | ((with_reducible show retK _ _ _ = some _); exact rfl)
  | ((with_reducible show fnK _ _ = some _); exact rfl)
  | ((with_reducible show List.length _ = _); exact rfl)
  | ((with_reducible show pick _ _ = _); exact rfl)
  | ((with_reducible show Nat.ble _ _ = true); exact rfl)
  | ((with_reducible show Nat.blt _ _ = true); exact rfl)
  | ((with_reducible show truthD _ = some _); exact rfl)
  | ((with_reducible show sideB _ _ = true); exact rfl)
  | ((with_reducible show intB _ = true); exact rfl)
  | ((with_reducible show eqSideB _ _ = true); exact rfl)
  | ((with_reducible show itemsD _ = some _); exact rfl)
  | ((with_reducible show putD _ _ _ = _); exact rfl)
  | ((with_reducible show List.lookup _ _ = _); exact rfl)
  | ((with_reducible show getElem? _ _ = some _); exact rfl)
  | with_reducible exact ixN0
  | with_reducible exact ixN1)
local macro_rules | `(tactic| walk_at "ln") => `(tactic| repeat' (first | with_reducible exact Ln.num (by walk_at "bd") | with_reducible exact Ln.lit | with_reducible exact Ln.emp | with_reducible apply Ln.app))
local macro_rules | `(tactic| walk_at "sa") => `(tactic| repeat' (first | with_reducible exact AppAt.nil | with_reducible apply AppAt.cons | with_reducible exact ZipAt.nil | with_reducible apply ZipAt.cons))
local macro_rules | `(tactic| walk_at "pr") => `(tactic| first
  | ((with_reducible apply ev_mul); walk_at "bd")
  | ((with_reducible apply ev_fdiv) <;> walk_at "bd")
  | ((with_reducible apply ev_mod); walk_at "bd")
  | ((with_reducible apply ev_divmod) <;> walk_at "bd")
  | ((with_reducible apply ev_pow) <;> walk_at "bd")
  | ((with_reducible apply ev_addS); exact Ln.ok2 (by walk_at "ln") (by walk_at "ln") rfl)
  | ((with_reducible apply ev_addL); walk_at "sa"; exact rfl)
  | ((with_reducible apply ev_append); walk_at "sa"; exact rfl)
  | ((with_reducible apply ev_strI); walk_at "bd")
  | with_reducible exact ev_twice
  | ((with_reducible show addD _ _ = some _); exact rfl)
  | ((with_reducible show subD _ _ = some _); exact rfl)
  | ((with_reducible show cmpD _ _ _ _ = some _); exact rfl)
  | ((with_reducible show isD _ _ _ = some _); exact rfl)
  | ((with_reducible show ixD _ _ = some _); exact rfl)
  | ((with_reducible show absD _ = some _); exact rfl)
  | ((with_reducible show max2D _ = some _); exact rfl)
  | ((with_reducible show min2D _ = some _); exact rfl)
  | ((with_reducible show int1D _ = some _); exact rfl)
  | ((with_reducible show lenD _ = some _); exact rfl)
  | ((with_reducible show gcdD _ = some _); exact rfl)
  | ((with_reducible show allD _ = some _); exact rfl)
  | ((with_reducible show isi2D _ _ = some _); exact rfl)
  | ((with_reducible show negD _ = some _); exact rfl)
  | ((with_reducible show appendD _ _ = some _); exact rfl)
  | ((with_reducible show eqD _ _ = some _); exact rfl)
  | ((with_reducible show neD _ _ = some _); exact rfl)
  | ((with_reducible show mul3D _ _ = some _); exact rfl))
local macro_rules | `(tactic| walk_at "tt") => `(tactic| first | with_reducible exact bne_self _ | with_reducible assumption | exact rfl | assumption | (simp only [Bool.not_eq_true', Bool.not_eq_false', Bool.not_true, Bool.not_false, decide_eq_true_eq, decide_eq_false_iff_not, beq_iff_eq, bne_iff_ne, beq_eq_false_iff_ne, Bool.and_eq_true, Bool.and_true, Bool.true_and, if_true, Bool.false_eq_true, if_false]; first | done | assumption | omega) | (simp [*]; done))
local macro_rules | `(tactic| walk_at "ev1") => `(tactic| first
  | with_reducible exact ev_c
  | ((with_reducible show some _ = some _); with_reducible exact rfl)
  | ((with_reducible apply ev_vd); exact rfl)
  | ((with_reducible apply ev_vo); exact rfl)
  | ((with_reducible apply ev_vb); exact rfl)
  | with_reducible exact ev_aNil
  | with_reducible apply ev_aCons
  | with_reducible apply ev_aApp
  | with_reducible apply ev_aSel
  | with_reducible apply tail_of
  | with_reducible apply ev_binV
  | ((with_reducible apply binK_l (c := 0)); exact rfl)
  | ((with_reducible apply binK_r (c := 0)); exact rfl; exact rfl)
  | ((with_reducible apply binK_d); exact rfl; exact rfl)
  | with_reducible apply ev_bin
  | with_reducible apply ev_unV
  | ((with_reducible apply unK_l (c := 0)); exact rfl)
  | ((with_reducible apply unK_d); exact rfl)
  | with_reducible apply ev_cmpV
  | ((with_reducible apply cmpK_l (c := 0)); exact rfl)
  | ((with_reducible apply cmpK_d); exact rfl)
  | with_reducible apply ev_attrV
  | ((with_reducible apply attrK_l (c := 0)); exact rfl; walk_at "tb")
  | ((with_reducible apply attrK_f (c := 0)); exact rfl; walk_at "tb")
  | ((with_reducible apply attrK_s); exact rfl)
  | with_reducible apply fldV_of
  | with_reducible apply ev_reprV
  | ((with_reducible apply reprK_l (c := 0)); exact rfl)
  | ((with_reducible apply reprK_d); exact rfl)
  | with_reducible apply ev_fnS
  | with_reducible apply ev_cm
  | with_reducible apply ev_mkS
  | with_reducible apply ev_methS
  | with_reducible apply ev_call
  | with_reducible apply ev_tup
  | with_reducible apply ev_lst
  | with_reducible apply ev_not
  | ((with_reducible apply iteK_t); walk_at "tt")
  | ((with_reducible apply iteK_f); walk_at "tt")
  | with_reducible apply ev_if
  | with_reducible apply ev_and
  | with_reducible apply ev_or
  | with_reducible apply ev_bVal
  | with_reducible apply ev_bTruth
  | with_reducible apply ev_bNot
  | with_reducible apply ev_bAnd
  | with_reducible apply ev_bOr)
local macro_rules | `(tactic| walk_at "ev2") => `(tactic| first
  | with_reducible apply ev_seq
  | with_reducible apply seqK_nx
  | ((with_reducible show seqK _ _ = some _); exact rfl)
  | with_reducible apply ev_set
  | with_reducible apply ev_sif
  | with_reducible apply ev_ret
  | with_reducible exact ev_snil
  | with_reducible apply ev_par2
  | with_reducible apply ev_par3
  | with_reducible apply ev_asg
  | with_reducible apply ev_exp
  | with_reducible apply ev_mut
  | with_reducible apply ev_fld
  | with_reducible apply ev_gset
  | with_reducible apply ev_gtup
  | with_reducible apply ev_gsc
  | with_reducible exact ev_gsn
  | with_reducible apply ev_gix
  | with_reducible exact SetAt.zero
  | with_reducible apply SetAt.succ
  | with_reducible exact Pad.nil
  | with_reducible apply Pad.cons
  | with_reducible apply Pad.und
  | with_reducible exact WipeAt.nil
  | with_reducible apply WipeAt.cons
  | with_reducible exact fz_nil
  | ((with_reducible apply fz_own); exact rfl)
  | with_reducible apply ev_fz
  | with_reducible apply ev_lc
  | with_reducible exact lc_nil
  | with_reducible apply lc_cons
  | with_reducible apply ev_zipA
  | with_reducible exact ZipAt.nil
  | with_reducible apply ZipAt.cons
  | with_reducible exact ev_jsN
  | with_reducible apply ev_jsC
  | ((with_reducible show _ ≤ sizeLine); exact Ln.ok (by walk_at "ln") rfl)
  | ((with_reducible show Nat.log2 _ < 1920); walk_at "bd")
  | with_reducible apply ev_fmtI
  | with_reducible apply ev_walk
  | with_reducible apply ev_fn)
local macro_rules | `(tactic| walk_at "ev") => `(tactic| repeat' (first | walk_at "rf" | walk_at "ev1" | walk_at "ev2" | walk_at "tb" | walk_at "call" | walk_at "pr"))
local macro_rules | `(tactic| walk_at "bd") => `(tactic| first | assumption | decide | omega)
local macro_rules | `(tactic| walk_at "tb") => `(tactic| first | with_reducible exact tb_0 _ | with_reducible exact tb_1 _ | with_reducible exact tb_2 _ | with_reducible exact tb_3 _ | with_reducible exact tb_4 _ | with_reducible exact tb_5 _ | with_reducible exact tb_6 _ | with_reducible exact tb_7 _ | with_reducible exact tb_8 _ | with_reducible exact tb_9 _ | with_reducible exact tb_10 _ | with_reducible exact tb_11 _ | with_reducible exact tb_12 _ | with_reducible exact tb_13 _ | with_reducible exact tb_14 _ | with_reducible exact tb_15 _ | with_reducible exact tb_16 _ | with_reducible exact tb_17 _)
local macro_rules | `(tactic| walk_at "bx") => `(tactic| repeat' (first | with_reducible assumption | with_reducible apply Bd.add | with_reducible apply Bd.mul | with_reducible apply Bd.neg | (with_reducible apply Bd.div) ))
local macro_rules | `(tactic| walk_at "bd") => `(tactic| first
  | with_reducible assumption
  | with_reducible exact due_self | with_reducible exact due_add | with_reducible exact due_add' | with_reducible exact due_mul | with_reducible exact due_mul' | with_reducible exact due_sub | with_reducible exact due_neg | with_reducible exact due_over
  | with_reducible exact due_addi | with_reducible exact due_subi | with_reducible exact due_isub | with_reducible exact due_muli | with_reducible exact due_overi | with_reducible exact due_int
  | with_reducible exact b_ddz | with_reducible exact den_ne _ | with_reducible exact Sm.one | with_reducible exact Bd.sn (by assumption) | with_reducible exact Bd.sd (by assumption) | with_reducible exact Sm.neg (Bd.sn (by assumption)) | with_reducible exact Sm.neg (by assumption)
  | ((with_reducible refine Bd.mono (k := 67) ?_ ?_); with_reducible assumption; exact rfl)
  | ((with_reducible apply Bd.mono); (· walk_at "bx"); exact rfl)
  | decide)
local macro_rules | `(tactic| walk_at "call") => `(tactic| first
  | with_reducible assumption
  | with_reducible apply F_above | with_reducible apply F_below | with_reducible apply F_pair
  | ((with_reducible apply F_of) <;> walk_at "bd")
  | ((with_reducible apply F_add_r) <;> walk_at "bd")
  | ((with_reducible apply F_add_i) <;> walk_at "bd")
  | ((with_reducible apply F_sub_r) <;> walk_at "bd")
  | ((with_reducible apply F_sub_i) <;> walk_at "bd")
  | ((with_reducible apply F_mul_r) <;> walk_at "bd")
  | ((with_reducible apply F_mul_i) <;> walk_at "bd")
  | ((with_reducible apply F_neg) <;> walk_at "bd")
  | ((with_reducible apply F_over_r) <;> walk_at "bd")
  | ((with_reducible apply F_over_i) <;> walk_at "bd")
  | ((with_reducible apply F_radd) <;> walk_at "bd")
  | ((with_reducible apply F_rsub) <;> walk_at "bd")
  | ((with_reducible apply F_rmul) <;> walk_at "bd")
  | ((with_reducible apply F_sum) <;> walk_at "bd")
  | ((with_reducible apply F_times) <;> walk_at "bd")
  | ((with_reducible apply F_lowest) <;> walk_at "bd")
  | ((with_reducible apply F_is) <;> walk_at "bd")
  | with_reducible apply F_is_fraction
  | with_reducible exact eqPt (by assumption)
  | with_reducible exact eqPf (by assumption)
  | ((with_reducible apply F_eq_t); walk_at "be")
  | ((with_reducible apply F_eq_f); walk_at "be")
  | with_reducible apply F_eq_i
  | with_reducible apply F_eq_p)
local macro_rules | `(tactic| walk_at "be") => `(tactic| with_reducible assumption)
theorem init_07 (n : Nat) : d_Ratio___init__.F (tab prg (n+2)) 60 [.own (.obj 0 []), .dat (.int 0), .dat (.int 7)] = some (.dat .non, [.own (ratD ((0 : Int) : Rat)), .dat (.int 0), .dat (.int 7)]) := by
  have := F_init n 0 7 (by decide) (by decide)
  rwa [show Rat.divInt 0 7 = ((0 : Int) : Rat) from by rw [Rat.zero_divInt]; rfl] at this
theorem init_00 (n : Nat) : d_Ratio___init__.F (tab prg (n+2)) 60 [.own (.obj 0 []), .dat (.int 0), .dat (.int 1)] = some (.dat .non, [.own (ratD ((0 : Int) : Rat)), .dat (.int 0), .dat (.int 1)]) := by
  rw [← rat_int]
  exact F_init n 0 1 (by decide) (by decide)
theorem Bd0 : Bd 67 ((0 : Int) : Rat) := ⟨by decide, by decide⟩
local macro_rules | `(tactic| walk_at "call") => `(tactic| first | with_reducible apply init_07 | with_reducible apply init_00)
theorem F_rules_right (n : Nat) (q r t : Rat) (hq : Bd 67 q) (hr : Bd 67 r) (ht : Bd 67 t) : d__law_rules_right.F (tab prg (n+7)) 60 [.dat (prD q), .dat (prD r), .dat (prD t)] = some (.dat (.bl true), [.dat (prD q), .dat (prD r), .dat (prD t)]) := by
  have e1 : q + r + t = t + r + q := by rw [Rat.add_comm (q + r) t, Rat.add_comm q r, Rat.add_assoc t r q]
  have e2 : q * (r + t) = q * r + q * t := Rat.mul_add q r t
  have e3 : q + -r = -(r + -q) := by rw [Rat.neg_add, Rat.neg_neg, Rat.add_comm]
  have e4 : q + -q = ((0 : Int) : Rat) := Rat.add_neg_cancel q
  have e5 : q * ((0 : Int) : Rat) = ((0 : Int) : Rat) := Rat.mul_zero q
  have b0 := Bd0
  by_cases hz : r.num = 0
  · have hz' : (r.num == 0) = true := by rw [hz]; rfl
    have key : d__law_rules_right.F (tab prg (n+7)) 60 [.dat (prD q), .dat (prD r), .dat (prD t)] = some (.dat (.bl (r.num == 0)), [.dat (prD q), .dat (prD r), .dat (prD t)]) := by
      rw [den__law_rules_right]
      walk_at "ev"
    rw [key, hz']
  · have hz' : (r.num == 0) = false := by simp [hz]
    have hne : r ≠ 0 := fun e => hz (by rw [e]; rfl)
    have e6 : q / r * r = q := Rat.div_mul_cancel hne
    have e7 : q * r / r = q := Rat.mul_div_cancel hne
    rw [den__law_rules_right]
    walk_at "ev"
end K51
end

section
set_option Elab.async false
set_option linter.all false
set_option maxRecDepth 100000
set_option maxHeartbeats 4000000
namespace K51
open PySem L2 Den PyProof.Rows
local macro_rules | `(tactic| walk_at "rf") => `(tactic| first
  | ((with_reducible show RV.cont _ _ = some _); exact rfl)
  | ((with_reducible show RV.dt _ = some _); exact rfl)
  | ((with_reducible show RV.cls _ = _); exact rfl)
  | ((with_reducible show RV.objf _ = _); exact rfl)
  | ((with_reducible show passE _ _ _ = some _); exact rfl)
  | ((with_reducible show BackAt _ _ _ _ _); first | exact BackAt.nil | apply BackAt.dat | apply BackAt.slot | apply BackAt.own)
  | ((with_reducible show onceB _ _ _ = true); exact rfl)
  | ((with_reducible show ownB _ _ _ = true); exact rfl)
  | ((with_reducible show pinned _ _ _ = false); exact rfl)
  | ((with_reducible show dts _ = some _); exact rfl)
  | ((with_reducible show conts _ _ = some _); exact rfl)
  | ((with_reducible show setSV _ _ = some _); exact rfl)
  | ((with_reducible show retK _ _ _ = some _); exact rfl)
  | ((with_reducible show fnK _ _ = some _); exact rfl)
  | ((with_reducible show List.length _ = _); exact rfl)
  | ((with_reducible show pick _ _ = _); exact rfl)
  | ((with_reducible show Nat.ble _ _ = true); exact rfl)
  | ((with_reducible show Nat.blt _ _ = true); exact rfl)
  | ((with_reducible show truthD _ = some _); exact rfl)
  | ((with_reducible show sideB _ _ = true); exact rfl)
  | ((with_reducible show intB _ = true); exact rfl)
  | ((with_reducible show eqSideB _ _ = true); exact rfl)
  | ((with_reducible show itemsD _ = some _); exact rfl)
  | ((with_reducible show putD _ _ _ = _); exact rfl)
  | ((with_reducible show List.lookup _ _ = _); exact rfl)
  | ((with_reducible show getElem? _ _ = some _); exact rfl)
  | with_reducible exact ixN0
  | with_reducible exact ixN1)
local macro_rules | `(tactic| walk_at "ln") => `(tactic| repeat' (first | with_reducible exact Ln.num (by walk_at "bd") | with_reducible exact Ln.lit | with_reducible exact Ln.emp | with_reducible apply Ln.app))
local macro_rules | `(tactic| walk_at "sa") => `(tactic| repeat' (first | with_reducible exact AppAt.nil | with_reducible apply AppAt.cons | with_reducible exact ZipAt.nil | with_reducible apply ZipAt.cons))
local macro_rules | `(tactic| walk_at "pr") => `(tactic| first
  | ((with_reducible apply ev_mul); walk_at "bd")
  | ((with_reducible apply ev_fdiv) <;> walk_at "bd")
  | ((with_reducible apply ev_mod); walk_at "bd")
  | ((with_reducible apply ev_divmod) <;> walk_at "bd")
  | ((with_reducible apply ev_pow) <;> walk_at "bd")
  | ((with_reducible apply ev_addS); exact Ln.ok2 (by walk_at "ln") (by walk_at "ln") rfl)
  | ((with_reducible apply ev_addL); walk_at "sa"; exact rfl)
  | ((with_reducible apply ev_append); walk_at "sa"; exact rfl)
  | ((with_reducible apply ev_strI); walk_at "bd")
  | with_reducible exact ev_twice
  | ((with_reducible show addD _ _ = some _); exact rfl)
  | ((with_reducible show subD _ _ = some _); exact rfl)
  | ((with_reducible show cmpD _ _ _ _ = some _); exact rfl)
  | ((with_reducible show isD _ _ _ = some _); exact rfl)
  | ((with_reducible show ixD _ _ = some _); exact rfl)
  | ((with_reducible show absD _ = some _); exact rfl)
  | ((with_reducible show max2D _ = some _); exact rfl)
  | ((with_reducible show min2D _ = some _); exact rfl)
  | ((with_reducible show int1D _ = some _); exact rfl)
  | ((with_reducible show lenD _ = some _); exact rfl)
  | ((with_reducible show gcdD _ = some _); exact rfl)
  | ((with_reducible show allD _ = some _); exact rfl)
  | ((with_reducible show isi2D _ _ = some _); exact rfl)
  | ((with_reducible show negD _ = some _); exact rfl)
  | ((with_reducible show appendD _ _ = some _); exact rfl)
  | ((with_reducible show eqD _ _ = some _); exact rfl)
  | ((with_reducible show neD _ _ = some _); exact rfl)
  | ((with_reducible show mul3D _ _ = some _); exact rfl))
local macro_rules | `(tactic| walk_at "tt") => `(tactic| first | with_reducible exact bne_self _ | with_reducible assumption | exact rfl | assumption | (simp only [Bool.not_eq_true', Bool.not_eq_false', Bool.not_true, Bool.not_false, decide_eq_true_eq, decide_eq_false_iff_not, beq_iff_eq, bne_iff_ne, beq_eq_false_iff_ne, Bool.and_eq_true, Bool.and_true, Bool.true_and, if_true, Bool.false_eq_true, if_false]; first | done | assumption | omega) | (simp [*]; done))
local macro_rules | `(tactic| walk_at "ev1") => `(tactic| first
  | with_reducible exact ev_c
  | ((with_reducible show some _ = some _); with_reducible exact rfl)
  | ((with_reducible apply ev_vd); exact rfl)
  | ((with_reducible apply ev_vo); exact rfl)
  | ((with_reducible apply ev_vb); exact rfl)
  | with_reducible exact ev_aNil
  | with_reducible apply ev_aCons
  | with_reducible apply ev_aApp
  | with_reducible apply ev_aSel
  | with_reducible apply tail_of
  | with_reducible apply ev_binV
  | ((with_reducible apply binK_l (c := 0)); exact rfl)
  | ((with_reducible apply binK_r (c := 0)); exact rfl; exact rfl)
  | ((with_reducible apply binK_d); exact rfl; exact rfl)
  | with_reducible apply ev_bin
  | with_reducible apply ev_unV
  | ((with_reducible apply unK_l (c := 0)); exact rfl)
  | ((with_reducible apply unK_d); exact rfl)
  | with_reducible apply ev_cmpV
  | ((with_reducible apply cmpK_l (c := 0)); exact rfl)
  | ((with_reducible apply cmpK_d); exact rfl)
  | with_reducible apply ev_attrV
  | ((with_reducible apply attrK_l (c := 0)); exact rfl; walk_at "tb")
  | ((with_reducible apply attrK_f (c := 0)); exact rfl; walk_at "tb")
  | ((with_reducible apply attrK_s); exact rfl)
  | with_reducible apply fldV_of
  | with_reducible apply ev_reprV
  | ((with_reducible apply reprK_l (c := 0)); exact rfl)
  | ((with_reducible apply reprK_d); exact rfl)
  | with_reducible apply ev_fnS
  | with_reducible apply ev_cm
  | with_reducible apply ev_mkS
  | with_reducible apply ev_methS
  | with_reducible apply ev_call
  | with_reducible apply ev_tup
  | with_reducible apply ev_lst
  | with_reducible apply ev_not
  | ((with_reducible apply iteK_t); walk_at "tt")
  | ((with_reducible apply iteK_f); walk_at "tt")
  | with_reducible apply ev_if
  | with_reducible apply ev_and
  | with_reducible apply ev_or
  | with_reducible apply ev_bVal
  | with_reducible apply ev_bTruth
  | with_reducible apply ev_bNot
  | with_reducible apply ev_bAnd
  | with_reducible apply ev_bOr)
local macro_rules | `(tactic| walk_at "ev2") => `(tactic| first
  | with_reducible apply ev_seq
  | with_reducible apply seqK_nx
  | ((with_reducible show seqK _ _ = some _); exact rfl)
  | with_reducible apply ev_set
  | with_reducible apply ev_sif
  | with_reducible apply ev_ret
  | with_reducible exact ev_snil
  | with_reducible apply ev_par2
  | with_reducible apply ev_par3
  | with_reducible apply ev_asg
  | with_reducible apply ev_exp
  | with_reducible apply ev_mut
  | with_reducible apply ev_fld
  | with_reducible apply ev_gset
  | with_reducible apply ev_gtup
  | with_reducible apply ev_gsc
  | with_reducible exact ev_gsn
  | with_reducible apply ev_gix
  | with_reducible exact SetAt.zero
  | with_reducible apply SetAt.succ
  | with_reducible exact Pad.nil
  | with_reducible apply Pad.cons
  | with_reducible apply Pad.und
  | with_reducible exact WipeAt.nil
  | with_reducible apply WipeAt.cons
  | with_reducible exact fz_nil
  | ((with_reducible apply fz_own); exact rfl)
  | with_reducible apply ev_fz
  | with_reducible apply ev_lc
  | with_reducible exact lc_nil
  | with_reducible apply lc_cons
  | with_reducible apply ev_zipA
  | with_reducible exact ZipAt.nil
  | with_reducible apply ZipAt.cons
  | with_reducible exact ev_jsN
  | with_reducible apply ev_jsC
  | ((with_reducible show _ ≤ sizeLine); exact Ln.ok (by walk_at "ln") rfl)
  | ((with_reducible show Nat.log2 _ < 1920); walk_at "bd")
  | with_reducible apply ev_fmtI
  | with_reducible apply ev_walk
  | with_reducible apply ev_fn)
local macro_rules | `(tactic| walk_at "ev") => `(tactic| repeat' (first | walk_at "rf" | walk_at "ev1" | walk_at "ev2" | walk_at "tb" | walk_at "call" | walk_at "pr"))
local macro_rules | `(tactic| walk_at "bd") => `(tactic| first | assumption | decide | omega)
local macro_rules | `(tactic| walk_at "tb") => `(tactic| first | with_reducible exact tb_0 _ | with_reducible exact tb_1 _ | with_reducible exact tb_2 _ | with_reducible exact tb_3 _ | with_reducible exact tb_4 _ | with_reducible exact tb_5 _ | with_reducible exact tb_6 _ | with_reducible exact tb_7 _ | with_reducible exact tb_8 _ | with_reducible exact tb_9 _ | with_reducible exact tb_10 _ | with_reducible exact tb_11 _ | with_reducible exact tb_12 _ | with_reducible exact tb_13 _ | with_reducible exact tb_14 _ | with_reducible exact tb_15 _ | with_reducible exact tb_16 _ | with_reducible exact tb_17 _)
local macro_rules | `(tactic| walk_at "bx") => `(tactic| repeat' (first | with_reducible assumption | with_reducible apply Bd.add | with_reducible apply Bd.mul | with_reducible apply Bd.neg | (with_reducible apply Bd.div) ))
local macro_rules | `(tactic| walk_at "bd") => `(tactic| first
  | with_reducible assumption
  | with_reducible exact due_self | with_reducible exact due_add | with_reducible exact due_add' | with_reducible exact due_mul | with_reducible exact due_mul' | with_reducible exact due_sub | with_reducible exact due_neg | with_reducible exact due_over
  | with_reducible exact due_addi | with_reducible exact due_subi | with_reducible exact due_isub | with_reducible exact due_muli | with_reducible exact due_overi | with_reducible exact due_int
  | with_reducible exact b_ddz | with_reducible exact den_ne _ | with_reducible exact Sm.one | with_reducible exact Bd.sn (by assumption) | with_reducible exact Bd.sd (by assumption) | with_reducible exact Sm.neg (Bd.sn (by assumption)) | with_reducible exact Sm.neg (by assumption)
  | ((with_reducible refine Bd.mono (k := 67) ?_ ?_); with_reducible assumption; exact rfl)
  | ((with_reducible apply Bd.mono); (· walk_at "bx"); exact rfl)
  | decide)
section
variable {env e1 e2 ea eb : Env'} {np : Nat} {S S' : SF} {Q : Out → Prop}
theorem ex_fn {m : Nat} {pe : List SV} {e0 : Env'} {Q : RV × List SV → Prop} (hp : Pad pe m e0) (h : ∃ o, S e0 = some o ∧ ∃ r, fnK pe o = some r ∧ Q r) : ∃ r, fnF m S pe = some r ∧ Q r := by
  obtain ⟨o, h1, r, h2, h3⟩ := h
  exact ⟨r, ev_fn hp h1 h2, h3⟩
theorem ex_seq (h1 : S env = some (.nx e1)) (h2 : ∃ o, S' e1 = some o ∧ Q o) : ∃ o, sSeq S S' env = some o ∧ Q o := by
  obtain ⟨o, h2, h3⟩ := h2
  exact ⟨o, ev_seq h1 (seqK_nx h2), h3⟩
theorem ex_fz {is : List Nat} (h1 : fzE np env is = e1) (h2 : ∃ o, S e1 = some o ∧ Q o) : ∃ o, sFz np is S env = some o ∧ Q o := by
  obtain ⟨o, h2, h3⟩ := h2
  exact ⟨o, ev_fz h1 h2, h3⟩
theorem ex_step {g : GF} {d : D} {I : Env' → Prop} (h1 : g d env = some ea) (h2 : S ea = some (.nx eb)) (h3 : I eb) : ∃ e1 e2, g d env = some e1 ∧ S e1 = some (.nx e2) ∧ I e2 := ⟨_, _, h1, h2, h3⟩
theorem ex_for {w : IF} {g : GF} {ds : List D} (I : Nat → Env' → Prop) (h1 : w env = some (ds, e1)) (h2 : ownB np env e1 = true) (h0 : I 0 e1) (st : ∀ i env d, ds[i]? = some d → I i env → ∃ ea eb, g d env = some ea ∧ S ea = some (.nx eb) ∧ I (i + 1) eb) (h3 : ∀ e', I ds.length e' → ∃ o, S' e' = some o ∧ Q o) : ∃ o, sSeq (sFor np w g S) S' env = some o ∧ Q o := by
  obtain ⟨e', h4, h5⟩ := loop_inv (g := g) (S := S) (I := I) ds 0 e1 h0 fun i env d hd hI => by
    have := st i env d hd (by simpa using hI)
    simpa using this
  exact ex_seq (ev_for h1 h2 h4) (h3 e' (by simpa using h5))
theorem ex_end {o : Out} (h : S env = some o) (hq : Q o) : ∃ o, S env = some o ∧ Q o := ⟨o, h, hq⟩
end
theorem NumB.lt {v : Int} (h : NumB v) : v.natAbs < 2 ^ 67 := Nat.lt_of_le_of_lt h (by decide)
theorem NumB.bd {v : Int} (h : NumB v) : Bd 67 (v : Rat) := ⟨h.lt, by show 1 < 2 ^ 67; decide⟩
theorem apn {L : List D} {x : D} (h : L.length < 100) : appendD (.lst L) [x] = some (.non, .lst (L ++ [x])) := by
  unfold appendD
  dsimp only
  rw [if_pos (Nat.lt_trans h (by decide))]
def Ls (L : List D) : Prop := ∀ x ∈ L, ∃ q, x = prD q ∧ Bd 67 q
theorem Ls.add {L : List D} {q : Rat} (h : Ls L) (hq : Bd 67 q) : Ls (L ++ [prD q]) := fun x hx => by
  rw [List.mem_append, List.mem_singleton] at hx
  rcases hx with hx | rfl
  · exact h x hx
  · exact ⟨q, rfl, hq⟩
def I1 (k : Nat) (env : Env') : Prop := ∃ p L t d a b, env = [.own (potD p), .own (.lst L), t, d, a, b, .und, .und, .und] ∧ POK p ∧ L.length = k ∧ Ls L
def I2 (m : Nat) (k : Nat) (env : Env') : Prop := ∃ p L t d a b x y z, env = [.own (potD p), .dat (.lst L), t, d, a, b, x, y, z] ∧ POK p ∧ L.length = m ∧ Ls L
local macro_rules | `(tactic| walk_at "call") => `(tactic| first
  | with_reducible assumption
  | ((with_reducible apply F_lowest) <;> walk_at "bd")
  | ((with_reducible apply F_init) <;> walk_at "bd")
  | ((with_reducible apply F_is) <;> walk_at "bd")
  | with_reducible apply F_above | with_reducible apply F_pair
  | ((with_reducible apply F_two_right) <;> walk_at "bd")
  | ((with_reducible apply F_whole_right) <;> walk_at "bd")
  | ((with_reducible apply F_rules_right) <;> walk_at "bd")
  | with_reducible apply F_is_fraction
  | with_reducible exact eqPt (by assumption)
  | ((with_reducible apply F_eq_t); with_reducible assumption))
theorem F_right (n : Nat) (p : Int × Int) (hp : POK p) : ∃ r, d__law_right.F (tab prg (n+8)) 60 [.own (potD p)] = some r ∧ ∃ q, r = (.dat (.bl true), [.own (potD q)]) := by
  rw [den__law_right]
  apply ex_fn (by repeat' (first | exact Pad.nil | apply Pad.cons | apply Pad.und))
  apply ex_fz fz_nil
  apply ex_seq (by walk_at "ev")
  apply ex_fz fz_nil
  obtain ⟨v, p1, c1, v0, v1, hp1⟩ := F_draw (n + 6) p 6 hp (by decide) (by decide)
  have hr : -(2 ^ 62) ≤ 3 + v ∧ 3 + v < 2 ^ 62 := by omega
  apply ex_for I1
  · apply ev_rng1
    · walk_at "ev"
    · exact hr
  · rfl
  · exact ⟨p1, [], .und, .und, .und, .und, rfl, hp1, rfl, fun x hx => by cases hx⟩
  · rintro i env d hd ⟨p, L, t, d', a, b, rfl, hp, hL, hs⟩
    have hi : i < 9 := by
      have := (List.getElem?_eq_some_iff.mp hd).1
      simp only [rangeD, List.length_map, List.length_range] at this
      omega
    obtain ⟨x, p2, c2, xb, hp2⟩ := F_number (n + 4) p hp
    obtain ⟨y, p3, c3, yb, hp3⟩ := F_number (n + 4) p2 hp2
    by_cases hy : y = 0
    · have hy' : (y == 0) = true := by rw [hy]; rfl
      obtain ⟨z, p4, c4, z0, z1, hp4⟩ := F_draw (n + 6) p3 12 hp3 (by decide) (by decide)
      have g1 : 1 + z ≠ 0 := by omega
      have g2 : (1 + z).natAbs < 2 ^ 2000 := Nat.lt_of_lt_of_le (show (1 + z).natAbs < 2 ^ 67 by omega) (Nat.pow_le_pow_right (by decide) (by decide))
      have g3 : (1 + z).natAbs.log2 < 9000 := Nat.lt_of_lt_of_le (log_lt g2 (by decide)) (by decide)
      have g4 : Bd 67 (Rat.divInt x (1 + z)) := Bd.of xb.lt (by omega) g1
      have g5 := apn (L := L) (x := prD (Rat.divInt x (1 + z))) (by omega)
      apply ex_step
      · walk_at "ev"
      · walk_at "ev"
      · exact ⟨_, _, _, _, _, _, rfl, hp4, by rw [List.length_append, hL]; rfl, hs.add g4⟩
    · have hy' : (y == 0) = false := by simp [hy]
      have g2 : y.natAbs < 2 ^ 2000 := Nat.lt_of_lt_of_le yb.lt (Nat.pow_le_pow_right (by decide) (by decide))
      have g3 : y.natAbs.log2 < 9000 := Nat.lt_of_lt_of_le (log_lt g2 (by decide)) (by decide)
      have g4 : Bd 67 (Rat.divInt x y) := Bd.of xb.lt yb.lt hy
      have g5 := apn (L := L) (x := prD (Rat.divInt x y)) (by omega)
      apply ex_step
      · walk_at "ev"
      · walk_at "ev"
      · exact ⟨_, _, _, _, _, _, rfl, hp3, by rw [List.length_append, hL]; rfl, hs.add g4⟩
  · rintro env ⟨p, L, t, d, a, b, rfl, hp, hL, hs⟩
    have hn : 0 < L.length ∧ L.length < 1000000 := by
      rw [hL]; simp only [rangeD, List.length_map, List.length_range]; omega
    apply ex_fz
    · apply fz_own rfl rfl (.succ .zero) fz_nil
    apply ex_for (I2 L.length)
    · apply ev_rng1
      · walk_at "ev"
      · decide
    · rfl
    · exact ⟨_, _, _, _, _, _, _, _, _, rfl, hp, rfl, hs⟩
    · rintro i env d1 hd ⟨p, L', t, d', a, b, x, y, z, rfl, hp, hL', hs⟩
      rw [← hL'] at hn
      obtain ⟨i1, p1, c1, l1, hp1⟩ := F_pick (n + 5) p L' hp hn.1 hn.2
      obtain ⟨i2, p2, c2, l2, hp2⟩ := F_pick (n + 5) p1 L' hp1 hn.1 hn.2
      obtain ⟨i3, p3, c3, l3, hp3⟩ := F_pick (n + 5) p2 L' hp2 hn.1 hn.2
      obtain ⟨x1, p4, c4, xb, hp4⟩ := F_number (n + 4) p3 hp3
      obtain ⟨q, e1, b1⟩ := hs _ (getD_mem l1)
      obtain ⟨r, e2, b2⟩ := hs _ (getD_mem l2)
      obtain ⟨s, e3, b3⟩ := hs _ (getD_mem l3)
      rw [e1] at c1
      rw [e2] at c2
      rw [e3] at c3
      have b4 := xb.bd
      apply ex_step
      · walk_at "ev"
      · walk_at "ev"
      · exact ⟨_, _, _, _, _, _, _, _, _, rfl, hp4, hL', hs⟩
    · rintro env ⟨p, L', t, d', a, b, x, y, z, rfl, hp, hL', hs⟩
      have h1 : ((Rat.divInt (-1) (-1)).num == 1) = true := by decide
      have h2 : Rat.divInt 0 (-3) = Rat.divInt 0 1 := by decide
      have h3 : (Rat.divInt 6 (-4)).num = -3 ∧ ((Rat.divInt 6 (-4)).den : Int) = 2 := by decide
      refine ⟨.rt (.dat (.bl true)) [.own (potD p), .dat (.lst L'), t, d', a, b, x, y, z], ?_, _, rfl, p, rfl⟩
      rw [← h1]
      walk_at "ev"
end K51
end

section
set_option Elab.async false
set_option linter.all false
set_option maxRecDepth 100000
set_option maxHeartbeats 4000000
namespace K51
open PySem L2 Den PyProof.Rows
local macro_rules | `(tactic| walk_at "rf") => `(tactic| first
  | ((with_reducible show RV.cont _ _ = some _); exact rfl)
  | ((with_reducible show RV.dt _ = some _); exact rfl)
  | ((with_reducible show RV.cls _ = _); exact rfl)
  | ((with_reducible show RV.objf _ = _); exact rfl)
  | ((with_reducible show passE _ _ _ = some _); exact rfl)
  | ((with_reducible show BackAt _ _ _ _ _); first | exact BackAt.nil | apply BackAt.dat | apply BackAt.slot | apply BackAt.own)
  | ((with_reducible show onceB _ _ _ = true); exact rfl)
  | ((with_reducible show ownB _ _ _ = true); exact rfl)
  | ((with_reducible show pinned _ _ _ = false); exact rfl)
  | ((with_reducible show dts _ = some _); exact rfl)
  | ((with_reducible show conts _ _ = some _); exact rfl)
  | ((with_reducible show setSV _ _ = some _); exact rfl)
  | ((with_reducible show retK _ _ _ = some _); exact rfl)
  | ((with_reducible show fnK _ _ = some _); exact rfl)
  | ((with_reducible show List.length _ = _); exact rfl)
  | ((with_reducible show pick _ _ = _); exact rfl)
  | ((with_reducible show Nat.ble _ _ = true); exact rfl)
  | ((with_reducible show Nat.blt _ _ = true); exact rfl)
  | ((with_reducible show truthD _ = some _); exact rfl)
  | ((with_reducible show sideB _ _ = true); exact rfl)
  | ((with_reducible show intB _ = true); exact rfl)
  | ((with_reducible show eqSideB _ _ = true); exact rfl)
  | ((with_reducible show itemsD _ = some _); exact rfl)
  | ((with_reducible show putD _ _ _ = _); exact rfl)
  | ((with_reducible show List.lookup _ _ = _); exact rfl)
  | ((with_reducible show getElem? _ _ = some _); exact rfl)
  | with_reducible exact ixN0
  | with_reducible exact ixN1)
local macro_rules | `(tactic| walk_at "ln") => `(tactic| repeat' (first | with_reducible exact Ln.num (by walk_at "bd") | with_reducible exact Ln.lit | with_reducible exact Ln.emp | with_reducible apply Ln.app))
local macro_rules | `(tactic| walk_at "sa") => `(tactic| repeat' (first | with_reducible exact AppAt.nil | with_reducible apply AppAt.cons | with_reducible exact ZipAt.nil | with_reducible apply ZipAt.cons))
local macro_rules | `(tactic| walk_at "pr") => `(tactic| first
  | ((with_reducible apply ev_mul); walk_at "bd")
  | ((with_reducible apply ev_fdiv) <;> walk_at "bd")
  | ((with_reducible apply ev_mod); walk_at "bd")
  | ((with_reducible apply ev_divmod) <;> walk_at "bd")
  | ((with_reducible apply ev_pow) <;> walk_at "bd")
  | ((with_reducible apply ev_addS); exact Ln.ok2 (by walk_at "ln") (by walk_at "ln") rfl)
  | ((with_reducible apply ev_addL); walk_at "sa"; exact rfl)
  | ((with_reducible apply ev_append); walk_at "sa"; exact rfl)
  | ((with_reducible apply ev_strI); walk_at "bd")
  | with_reducible exact ev_twice
  | ((with_reducible show addD _ _ = some _); exact rfl)
  | ((with_reducible show subD _ _ = some _); exact rfl)
  | ((with_reducible show cmpD _ _ _ _ = some _); exact rfl)
  | ((with_reducible show isD _ _ _ = some _); exact rfl)
  | ((with_reducible show ixD _ _ = some _); exact rfl)
  | ((with_reducible show absD _ = some _); exact rfl)
  | ((with_reducible show max2D _ = some _); exact rfl)
  | ((with_reducible show min2D _ = some _); exact rfl)
  | ((with_reducible show int1D _ = some _); exact rfl)
  | ((with_reducible show lenD _ = some _); exact rfl)
  | ((with_reducible show gcdD _ = some _); exact rfl)
  | ((with_reducible show allD _ = some _); exact rfl)
  | ((with_reducible show isi2D _ _ = some _); exact rfl)
  | ((with_reducible show negD _ = some _); exact rfl)
  | ((with_reducible show appendD _ _ = some _); exact rfl)
  | ((with_reducible show eqD _ _ = some _); exact rfl)
  | ((with_reducible show neD _ _ = some _); exact rfl)
  | ((with_reducible show mul3D _ _ = some _); exact rfl))
local macro_rules | `(tactic| walk_at "tt") => `(tactic| first | with_reducible exact bne_self _ | with_reducible assumption | exact rfl | assumption | (simp only [Bool.not_eq_true', Bool.not_eq_false', Bool.not_true, Bool.not_false, decide_eq_true_eq, decide_eq_false_iff_not, beq_iff_eq, bne_iff_ne, beq_eq_false_iff_ne, Bool.and_eq_true, Bool.and_true, Bool.true_and, if_true, Bool.false_eq_true, if_false]; first | done | assumption | omega) | (simp [*]; done))
local macro_rules | `(tactic| walk_at "ev1") => `(tactic| first
  | with_reducible exact ev_c
  | ((with_reducible show some _ = some _); with_reducible exact rfl)
  | ((with_reducible apply ev_vd); exact rfl)
  | ((with_reducible apply ev_vo); exact rfl)
  | ((with_reducible apply ev_vb); exact rfl)
  | with_reducible exact ev_aNil
  | with_reducible apply ev_aCons
  | with_reducible apply ev_aApp
  | with_reducible apply ev_aSel
  | with_reducible apply tail_of
  | with_reducible apply ev_binV
  | ((with_reducible apply binK_l (c := 0)); exact rfl)
  | ((with_reducible apply binK_r (c := 0)); exact rfl; exact rfl)
  | ((with_reducible apply binK_d); exact rfl; exact rfl)
  | with_reducible apply ev_bin
  | with_reducible apply ev_unV
  | ((with_reducible apply unK_l (c := 0)); exact rfl)
  | ((with_reducible apply unK_d); exact rfl)
  | with_reducible apply ev_cmpV
  | ((with_reducible apply cmpK_l (c := 0)); exact rfl)
  | ((with_reducible apply cmpK_d); exact rfl)
  | with_reducible apply ev_attrV
  | ((with_reducible apply attrK_l (c := 0)); exact rfl; walk_at "tb")
  | ((with_reducible apply attrK_f (c := 0)); exact rfl; walk_at "tb")
  | ((with_reducible apply attrK_s); exact rfl)
  | with_reducible apply fldV_of
  | with_reducible apply ev_reprV
  | ((with_reducible apply reprK_l (c := 0)); exact rfl)
  | ((with_reducible apply reprK_d); exact rfl)
  | with_reducible apply ev_fnS
  | with_reducible apply ev_cm
  | with_reducible apply ev_mkS
  | with_reducible apply ev_methS
  | with_reducible apply ev_call
  | with_reducible apply ev_tup
  | with_reducible apply ev_lst
  | with_reducible apply ev_not
  | ((with_reducible apply iteK_t); walk_at "tt")
  | ((with_reducible apply iteK_f); walk_at "tt")
  | with_reducible apply ev_if
  | with_reducible apply ev_and
  | with_reducible apply ev_or
  | with_reducible apply ev_bVal
  | with_reducible apply ev_bTruth
  | with_reducible apply ev_bNot
  | with_reducible apply ev_bAnd
  | with_reducible apply ev_bOr)
local macro_rules | `(tactic| walk_at "ev2") => `(tactic| first
  | with_reducible apply ev_seq
  | with_reducible apply seqK_nx
  | ((with_reducible show seqK _ _ = some _); exact rfl)
  | with_reducible apply ev_set
  | with_reducible apply ev_sif
  | with_reducible apply ev_ret
  | with_reducible exact ev_snil
  | with_reducible apply ev_par2
  | with_reducible apply ev_par3
  | with_reducible apply ev_asg
  | with_reducible apply ev_exp
  | with_reducible apply ev_mut
  | with_reducible apply ev_fld
  | with_reducible apply ev_gset
  | with_reducible apply ev_gtup
  | with_reducible apply ev_gsc
  | with_reducible exact ev_gsn
  | with_reducible apply ev_gix
  | with_reducible exact SetAt.zero
  | with_reducible apply SetAt.succ
  | with_reducible exact Pad.nil
  | with_reducible apply Pad.cons
  | with_reducible apply Pad.und
  | with_reducible exact WipeAt.nil
  | with_reducible apply WipeAt.cons
  | with_reducible exact fz_nil
  | ((with_reducible apply fz_own); exact rfl)
  | with_reducible apply ev_fz
  | with_reducible apply ev_lc
  | with_reducible exact lc_nil
  | with_reducible apply lc_cons
  | with_reducible apply ev_zipA
  | with_reducible exact ZipAt.nil
  | with_reducible apply ZipAt.cons
  | with_reducible exact ev_jsN
  | with_reducible apply ev_jsC
  | ((with_reducible show _ ≤ sizeLine); exact Ln.ok (by walk_at "ln") rfl)
  | ((with_reducible show Nat.log2 _ < 1920); walk_at "bd")
  | with_reducible apply ev_fmtI
  | with_reducible apply ev_walk
  | with_reducible apply ev_fn)
local macro_rules | `(tactic| walk_at "ev") => `(tactic| repeat' (first | walk_at "rf" | walk_at "ev1" | walk_at "ev2" | walk_at "tb" | walk_at "call" | walk_at "pr"))
local macro_rules | `(tactic| walk_at "bd") => `(tactic| first | assumption | decide | omega)
local macro_rules | `(tactic| walk_at "tb") => `(tactic| first | with_reducible exact tb_0 _ | with_reducible exact tb_1 _ | with_reducible exact tb_2 _ | with_reducible exact tb_3 _ | with_reducible exact tb_4 _ | with_reducible exact tb_5 _ | with_reducible exact tb_6 _ | with_reducible exact tb_7 _ | with_reducible exact tb_8 _ | with_reducible exact tb_9 _ | with_reducible exact tb_10 _ | with_reducible exact tb_11 _ | with_reducible exact tb_12 _ | with_reducible exact tb_13 _ | with_reducible exact tb_14 _ | with_reducible exact tb_15 _ | with_reducible exact tb_16 _ | with_reducible exact tb_17 _)
local macro_rules | `(tactic| walk_at "call") => `(tactic| with_reducible assumption)
def potV (c k : Int) : Int × Int := (if c - 10 ^ Int.toNat 18 > 0 then c - 10 ^ Int.toNat 18 else 0, (c % 2147483549 + 23) * (2 * k + 5) ^ Int.toNat 3 % 2147483463 + 1)
theorem potV_ok (c k : Int) : POK (potV c k) := by
  have h0 := Int.emod_nonneg ((c % 2147483549 + 23) * (2 * k + 5) ^ Int.toNat 3) (show (2147483463 : Int) ≠ 0 by decide)
  have h1 := Int.emod_lt_of_pos ((c % 2147483549 + 23) * (2 * k + 5) ^ Int.toNat 3) (show (0 : Int) < 2147483463 by decide)
  constructor
  · show 0 ≤ (c % 2147483549 + 23) * (2 * k + 5) ^ Int.toNat 3 % 2147483463 + 1; omega
  · show (c % 2147483549 + 23) * (2 * k + 5) ^ Int.toNat 3 % 2147483463 + 1 < 2 ^ 32; omega
theorem F_pot (n : Nat) (ns : List Int) (k : Int) (k0 : 0 ≤ k) (k1 : k < 4) : ∃ p, d__law_pot.F (tab prg (n+1)) 60 [.dat (.scr ns), .dat (.int k)] = some (.own (potD p), [.dat (.scr ns), .dat (.int k)]) ∧ POK p := by
  have kl : k.natAbs.log2 < 100 := Nat.lt_trans (log_lt (k := 8) (by omega) (by decide)) (by decide)
  have m1 : (41 : Int).natAbs.log2 + k.natAbs.log2 < 1000000 := Nat.lt_trans (Nat.add_lt_add (show (41 : Int).natAbs.log2 < 100 by decide) kl) (by decide)
  have m3 : (2 : Int).natAbs.log2 + k.natAbs.log2 < 1000000 := Nat.lt_trans (Nat.add_lt_add (show (2 : Int).natAbs.log2 < 100 by decide) kl) (by decide)
  have m4 : (2 * k + 5).natAbs < 2 ^ 64 := by omega
  have m5 : ((2 * k + 5) ^ Int.toNat 3).natAbs.log2 < 100 := by
    rw [Int.natAbs_pow]
    have : (2 * k + 5).natAbs ^ Int.toNat 3 ≤ 16 ^ 3 := Nat.pow_le_pow_left (by omega) 3
    exact Nat.lt_trans (log_lt (k := 16) (Nat.lt_of_le_of_lt this (by decide)) (by decide)) (by decide)
  have m6 : ∀ c : Int, (c % 2147483549 + 23).natAbs.log2 + ((2 * k + 5) ^ Int.toNat 3).natAbs.log2 < 1000000 := fun c => by
    have h0 := Int.emod_nonneg c (show (2147483549 : Int) ≠ 0 by decide)
    have h1 := Int.emod_lt_of_pos c (show (0 : Int) < 2147483549 by decide)
    have := log32 (x := c % 2147483549 + 23) (by omega) (by omega)
    omega
  by_cases h : k < (ns.length : Int)
  · have hx : ixD (.scr ns) (.int k) = some (.dat (.int (ns.getD k.toNat 0))) := by
      have hn : k.toNat < ns.length := by omega
      have e : ns[k.toNat]? = some (ns.getD k.toNat 0) := by rw [List.getD_eq_getElem?_getD, List.getElem?_eq_getElem hn]; rfl
      show (atI ns k).map (fun n => RV.dat (.int n)) = _
      unfold atI ixN
      rw [if_pos k0, if_pos h]
      show (Option.map _ ns[k.toNat]?) = _
      rw [e]; rfl
    have m7 := m6 (if ns.getD k.toNat 0 < 0 then -(ns.getD k.toNat 0) else ns.getD k.toNat 0)
    refine ⟨potV (if ns.getD k.toNat 0 < 0 then -(ns.getD k.toNat 0) else ns.getD k.toNat 0) k, ?_, potV_ok _ _⟩
    rw [den__law_pot]
    walk_at "ev"
  · have m7 := m6 (41 * k + 23)
    refine ⟨potV (41 * k + 23) k, ?_, potV_ok _ _⟩
    rw [den__law_pot]
    walk_at "ev"
theorem rng_mem {m : Nat} {d : D} (h : d ∈ rangeD 0 m) : ∃ k : Int, d = .int k ∧ 0 ≤ k ∧ k < m := by
  unfold rangeD at h
  obtain ⟨i, hi, rfl⟩ := List.mem_map.mp h
  have := List.mem_range.mp hi
  exact ⟨0 + (i : Int), rfl, by omega, by omega⟩
theorem lc_all {vs : List Nat} {g : GF} {c : BF} {P : PF} {env : Env'} : ∀ ds : List D, (∀ d ∈ ds, ∃ e1 e2 e3 r, g d env = some e1 ∧ c e1 = some (true, e2) ∧ P e2 = some (r, e3) ∧ r.dt = some (.bl true) ∧ WipeAt e3 vs env) → lcF vs g c P ds env = some (List.replicate ds.length (.bl true), env)
  | [], _ => rfl
  | d :: ds, h => by
    obtain ⟨e1, e2, e3, r, h1, h2, h3, h4, h5⟩ := h d List.mem_cons_self
    exact lc_cons h1 h2 h3 h4 h5 (lc_all ds fun x hx => h x (List.mem_cons_of_mem _ hx))
theorem lc_rng {vs : List Nat} {g : GF} {c : BF} {P : PF} {env : Env'} {j : Int} (hj : j ≤ 4) (h : ∀ k : Int, 0 ≤ k → k < 4 → ∃ e1 e2 e3 r, g (.int k) env = some e1 ∧ c e1 = some (true, e2) ∧ P e2 = some (r, e3) ∧ r.dt = some (.bl true) ∧ WipeAt e3 vs env) : lcF vs g c P (rangeD 0 j.toNat) env = some (List.replicate (rangeD 0 j.toNat).length (.bl true), env) :=
  lc_all _ fun d hd => by
    obtain ⟨k, rfl, h0, h1⟩ := rng_mem hd
    exact h k h0 (by omega)
theorem ex_lc {vs : List Nat} {g : GF} {c : BF} {P : PF} {env e1 e2 e3 : Env'} {d : D} {r : RV} (h1 : g d env = some e1) (h2 : c e1 = some (true, e2)) (h3 : P e2 = some (r, e3)) (h4 : r.dt = some (.bl true)) (h5 : WipeAt e3 vs env) : ∃ e1 e2 e3 r, g d env = some e1 ∧ c e1 = some (true, e2) ∧ P e2 = some (r, e3) ∧ r.dt = some (.bl true) ∧ WipeAt e3 vs env := ⟨_, _, _, _, h1, h2, h3, h4, h5⟩
theorem allR (n : Nat) : allD [.lst (List.replicate n (.bl true))] = some (.dat (.bl true)) := by
  have h : ∀ n, bools (List.replicate n (.bl true)) = some (List.replicate n true) := fun n => by
    induction n with
    | zero => rfl
    | succ n ih => rw [List.replicate_succ, List.replicate_succ]; show (bools _).map _ = _; rw [ih]; rfl
  show (bools _).map _ = _
  rw [h]
  simp
theorem len_ok {j : Int} (h : j ≤ 4) : Nat.ble (rangeD 0 j.toNat).length sizeLine = true := by
  apply Nat.ble_eq_true_of_le
  simp only [rangeD, List.length_map, List.length_range]
  exact Nat.le_trans (show j.toNat ≤ 4 by omega) (by decide)
theorem small4 (l : Nat) : (if (if (4 : Int) < (l : Int) then (4 : Int) else (l : Int)) > 1 then (if (4 : Int) < (l : Int) then (4 : Int) else (l : Int)) else 1) ≤ 4 := by (repeat' split) <;> omega
theorem small4' (l : Nat) : -(2 ^ 62) ≤ (if (if (4 : Int) < (l : Int) then (4 : Int) else (l : Int)) > 1 then (if (4 : Int) < (l : Int) then (4 : Int) else (l : Int)) else 1) ∧ (if (if (4 : Int) < (l : Int) then (4 : Int) else (l : Int)) > 1 then (if (4 : Int) < (l : Int) then (4 : Int) else (l : Int)) else 1) < 2 ^ 62 := by constructor <;> (repeat' split) <;> omega
end K51
end

section
set_option Elab.async false
set_option linter.all false
set_option maxRecDepth 100000
set_option maxHeartbeats 4000000
namespace K51
open PySem L2 Den PyProof.Rows
local macro_rules | `(tactic| walk_at "rf") => `(tactic| first
  | ((with_reducible show RV.cont _ _ = some _); exact rfl)
  | ((with_reducible show RV.dt _ = some _); exact rfl)
  | ((with_reducible show RV.cls _ = _); exact rfl)
  | ((with_reducible show RV.objf _ = _); exact rfl)
  | ((with_reducible show passE _ _ _ = some _); exact rfl)
  | ((with_reducible show BackAt _ _ _ _ _); first | exact BackAt.nil | apply BackAt.dat | apply BackAt.slot | apply BackAt.own)
  | ((with_reducible show onceB _ _ _ = true); exact rfl)
  | ((with_reducible show ownB _ _ _ = true); exact rfl)
  | ((with_reducible show pinned _ _ _ = false); exact rfl)
  | ((with_reducible show dts _ = some _); exact rfl)
  | ((with_reducible show conts _ _ = some _); exact rfl)
  | ((with_reducible show setSV _ _ = some _); exact rfl)
  | ((with_reducible show retK _ _ _ = some _); exact rfl)
  | ((with_reducible show fnK _ _ = some _); exact rfl)
  | ((with_reducible show List.length _ = _); exact rfl)
  | ((with_reducible show pick _ _ = _); exact rfl)
  | ((with_reducible show Nat.ble _ _ = true); exact rfl)
  | ((with_reducible show Nat.blt _ _ = true); exact rfl)
  | ((with_reducible show truthD _ = some _); exact rfl)
  | ((with_reducible show sideB _ _ = true); exact rfl)
  | ((with_reducible show intB _ = true); exact rfl)
  | ((with_reducible show eqSideB _ _ = true); exact rfl)
  | ((with_reducible show itemsD _ = some _); exact rfl)
  | ((with_reducible show putD _ _ _ = _); exact rfl)
  | ((with_reducible show List.lookup _ _ = _); exact rfl)
  | ((with_reducible show getElem? _ _ = some _); exact rfl)
  | with_reducible exact ixN0
  | with_reducible exact ixN1)
local macro_rules | `(tactic| walk_at "ln") => `(tactic| repeat' (first | with_reducible exact Ln.num (by walk_at "bd") | with_reducible exact Ln.lit | with_reducible exact Ln.emp | with_reducible apply Ln.app))
local macro_rules | `(tactic| walk_at "sa") => `(tactic| repeat' (first | with_reducible exact AppAt.nil | with_reducible apply AppAt.cons | with_reducible exact ZipAt.nil | with_reducible apply ZipAt.cons))
local macro_rules | `(tactic| walk_at "pr") => `(tactic| first
  | ((with_reducible apply ev_mul); walk_at "bd")
  | ((with_reducible apply ev_fdiv) <;> walk_at "bd")
  | ((with_reducible apply ev_mod); walk_at "bd")
  | ((with_reducible apply ev_divmod) <;> walk_at "bd")
  | ((with_reducible apply ev_pow) <;> walk_at "bd")
  | ((with_reducible apply ev_addS); exact Ln.ok2 (by walk_at "ln") (by walk_at "ln") rfl)
  | ((with_reducible apply ev_addL); walk_at "sa"; exact rfl)
  | ((with_reducible apply ev_append); walk_at "sa"; exact rfl)
  | ((with_reducible apply ev_strI); walk_at "bd")
  | with_reducible exact ev_twice
  | ((with_reducible show addD _ _ = some _); exact rfl)
  | ((with_reducible show subD _ _ = some _); exact rfl)
  | ((with_reducible show cmpD _ _ _ _ = some _); exact rfl)
  | ((with_reducible show isD _ _ _ = some _); exact rfl)
  | ((with_reducible show ixD _ _ = some _); exact rfl)
  | ((with_reducible show absD _ = some _); exact rfl)
  | ((with_reducible show max2D _ = some _); exact rfl)
  | ((with_reducible show min2D _ = some _); exact rfl)
  | ((with_reducible show int1D _ = some _); exact rfl)
  | ((with_reducible show lenD _ = some _); exact rfl)
  | ((with_reducible show gcdD _ = some _); exact rfl)
  | ((with_reducible show allD _ = some _); exact rfl)
  | ((with_reducible show isi2D _ _ = some _); exact rfl)
  | ((with_reducible show negD _ = some _); exact rfl)
  | ((with_reducible show appendD _ _ = some _); exact rfl)
  | ((with_reducible show eqD _ _ = some _); exact rfl)
  | ((with_reducible show neD _ _ = some _); exact rfl)
  | ((with_reducible show mul3D _ _ = some _); exact rfl))
local macro_rules | `(tactic| walk_at "tt") => `(tactic| first | with_reducible exact bne_self _ | with_reducible assumption | exact rfl | assumption | (simp only [Bool.not_eq_true', Bool.not_eq_false', Bool.not_true, Bool.not_false, decide_eq_true_eq, decide_eq_false_iff_not, beq_iff_eq, bne_iff_ne, beq_eq_false_iff_ne, Bool.and_eq_true, Bool.and_true, Bool.true_and, if_true, Bool.false_eq_true, if_false]; first | done | assumption | omega) | (simp [*]; done))
local macro_rules | `(tactic| walk_at "ev1") => `(tactic| first
  | with_reducible exact ev_c
  | ((with_reducible show some _ = some _); with_reducible exact rfl)
  | ((with_reducible apply ev_vd); exact rfl)
  | ((with_reducible apply ev_vo); exact rfl)
  | ((with_reducible apply ev_vb); exact rfl)
  | with_reducible exact ev_aNil
  | with_reducible apply ev_aCons
  | with_reducible apply ev_aApp
  | with_reducible apply ev_aSel
  | with_reducible apply tail_of
  | with_reducible apply ev_binV
  | ((with_reducible apply binK_l (c := 0)); exact rfl)
  | ((with_reducible apply binK_r (c := 0)); exact rfl; exact rfl)
  | ((with_reducible apply binK_d); exact rfl; exact rfl)
  | with_reducible apply ev_bin
  | with_reducible apply ev_unV
  | ((with_reducible apply unK_l (c := 0)); exact rfl)
  | ((with_reducible apply unK_d); exact rfl)
  | with_reducible apply ev_cmpV
  | ((with_reducible apply cmpK_l (c := 0)); exact rfl)
  | ((with_reducible apply cmpK_d); exact rfl)
  | with_reducible apply ev_attrV
  | ((with_reducible apply attrK_l (c := 0)); exact rfl; walk_at "tb")
  | ((with_reducible apply attrK_f (c := 0)); exact rfl; walk_at "tb")
  | ((with_reducible apply attrK_s); exact rfl)
  | with_reducible apply fldV_of
  | with_reducible apply ev_reprV
  | ((with_reducible apply reprK_l (c := 0)); exact rfl)
  | ((with_reducible apply reprK_d); exact rfl)
  | with_reducible apply ev_fnS
  | with_reducible apply ev_cm
  | with_reducible apply ev_mkS
  | with_reducible apply ev_methS
  | with_reducible apply ev_call
  | with_reducible apply ev_tup
  | with_reducible apply ev_lst
  | with_reducible apply ev_not
  | ((with_reducible apply iteK_t); walk_at "tt")
  | ((with_reducible apply iteK_f); walk_at "tt")
  | with_reducible apply ev_if
  | with_reducible apply ev_and
  | with_reducible apply ev_or
  | with_reducible apply ev_bVal
  | with_reducible apply ev_bTruth
  | with_reducible apply ev_bNot
  | with_reducible apply ev_bAnd
  | with_reducible apply ev_bOr)
local macro_rules | `(tactic| walk_at "ev2") => `(tactic| first
  | with_reducible apply ev_seq
  | with_reducible apply seqK_nx
  | ((with_reducible show seqK _ _ = some _); exact rfl)
  | with_reducible apply ev_set
  | with_reducible apply ev_sif
  | with_reducible apply ev_ret
  | with_reducible exact ev_snil
  | with_reducible apply ev_par2
  | with_reducible apply ev_par3
  | with_reducible apply ev_asg
  | with_reducible apply ev_exp
  | with_reducible apply ev_mut
  | with_reducible apply ev_fld
  | with_reducible apply ev_gset
  | with_reducible apply ev_gtup
  | with_reducible apply ev_gsc
  | with_reducible exact ev_gsn
  | with_reducible apply ev_gix
  | with_reducible exact SetAt.zero
  | with_reducible apply SetAt.succ
  | with_reducible exact Pad.nil
  | with_reducible apply Pad.cons
  | with_reducible apply Pad.und
  | with_reducible exact WipeAt.nil
  | with_reducible apply WipeAt.cons
  | with_reducible exact fz_nil
  | ((with_reducible apply fz_own); exact rfl)
  | with_reducible apply ev_fz
  | with_reducible apply ev_lc
  | with_reducible exact lc_nil
  | with_reducible apply lc_cons
  | with_reducible apply ev_zipA
  | with_reducible exact ZipAt.nil
  | with_reducible apply ZipAt.cons
  | with_reducible exact ev_jsN
  | with_reducible apply ev_jsC
  | ((with_reducible show _ ≤ sizeLine); exact Ln.ok (by walk_at "ln") rfl)
  | ((with_reducible show Nat.log2 _ < 1920); walk_at "bd")
  | with_reducible apply ev_fmtI
  | with_reducible apply ev_walk
  | with_reducible apply ev_fn)
local macro_rules | `(tactic| walk_at "ev") => `(tactic| repeat' (first | walk_at "rf" | walk_at "ev1" | walk_at "ev2" | walk_at "tb" | walk_at "call" | walk_at "pr"))
local macro_rules | `(tactic| walk_at "bd") => `(tactic| first | assumption | decide | omega)
local macro_rules | `(tactic| walk_at "tb") => `(tactic| first | with_reducible exact tb_0 _ | with_reducible exact tb_1 _ | with_reducible exact tb_2 _ | with_reducible exact tb_3 _ | with_reducible exact tb_4 _ | with_reducible exact tb_5 _ | with_reducible exact tb_6 _ | with_reducible exact tb_7 _ | with_reducible exact tb_8 _ | with_reducible exact tb_9 _ | with_reducible exact tb_10 _ | with_reducible exact tb_11 _ | with_reducible exact tb_12 _ | with_reducible exact tb_13 _ | with_reducible exact tb_14 _ | with_reducible exact tb_15 _ | with_reducible exact tb_16 _ | with_reducible exact tb_17 _)
theorem F_right1 (n : Nat) (p : Int × Int) (hp : POK p) : ∃ q, d__law_right.F (tab prg (n+8)) 60 [.own (potD p)] = some (.dat (.bl true), [.own (potD q)]) := by
  obtain ⟨r, h, q, e⟩ := F_right n p hp
  rw [e] at h
  exact ⟨q, h⟩
local macro_rules | `(tactic| walk_at "bo") => `(tactic| (intro k k0 k1; obtain ⟨p, c1, hp⟩ := F_pot 11 _ k k0 k1; obtain ⟨q, c2⟩ := F_right1 4 p hp; apply ex_lc <;> skip))
local macro_rules | `(tactic| walk_at "call") => `(tactic| first
  | with_reducible assumption
  | with_reducible exact allR _
  | with_reducible exact small4' _
  | with_reducible exact len_ok (small4 _)
  | ((with_reducible apply lc_rng); exact small4 _; walk_at "bo")
  | with_reducible apply ev_rng1)
theorem tr : ∀ ns : List Int, ns.length ≤ 63 → (∀ i ∈ ns, Builtin.Int.intBits i ≤ 1048576) → ∃ e, d_law.F (tab prg 13) prg.fuel [.dat (.scr ns)] = some (.dat (.bl true), e) := by
  intro ns _ _
  show ∃ e, d_law.F (tab prg (12 + 1)) 60 [.dat (.scr ns)] = some (.dat (.bl true), e)
  refine ⟨[.dat (.scr ns)], ?_⟩
  rw [den_law]
  walk_at "ev"
end K51
end

section
set_option Elab.async false
set_option linter.all false
open K51
open PySem PySem.W PyProof.Rows in
set_option maxRecDepth 100000 in
set_option maxHeartbeats 0 in
theorem PySem.Challenge.cw_walksback_k51_whole_fractions_reckoned_holds : PySem.Challenge.rw_walksback_k51_whole_fractions_reckoned.Holds := by
  w_on; o_law; k_head; (case hw => w_witness2)
  k_fill
  refine Den.walkG (l := PySem.Challenge.rw_walksback_k51_whole_fractions_reckoned) (n := 63) (k := 27) (x := "_law_script") (F := d_law.F (Den.tab prg 13) prg.fuel) rfl (by decide) rfl ⟨rfl, by decide, by decide⟩ ?F ?T
  case T => exact tr
  case F =>
    intro w mg fa h Y G hmg
    have KX := PySem.W.kIn_of Y
    refine' hF_mk KX G hmg ?law ?f_is_integer ?f_ratio_of ?f_is_fraction ?f__law_pot ?f__law_draw ?f__law_pick ?f__law_common ?f__law_lowest ?f__law_number ?f__law_is ?f__law_sum ?f__law_times ?f__law_two_right ?f__law_whole_right ?f__law_rules_right ?f__law_right ?f_law ?cons ?c_Ratio_here ?c_Ratio ?isi ?gcd ?b_len ?b_abs ?b_max ?b_min ?b_int ?b_divmod ?b_all ?b_repr ?b_any ?b_sum ?b_isinstance ?b_sorted ?b_list ?b_tuple ?b_str ?b_bool ?b_dict ?rng ?enm ?zip
    (case c_Ratio_here => k_is)
    (case law => refine' Den.lawD_of st_law lawB rfl KX G ?a ?l ?c; (case a => k_is); (case l => k_is); (case c => k_is))
    (case f_is_integer => refine' Den.fnD_of st_is_integer sh_is_integer KX G ?a ?l ?c ?k; (case a => k_is); (case l => k_is); (case c => k_is); (case k => k_is))
    (case f_ratio_of => refine' Den.fnD_of st_ratio_of sh_ratio_of KX G ?a ?l ?c ?k; (case a => k_is); (case l => k_is); (case c => k_is); (case k => k_is))
    (case f_is_fraction => refine' Den.fnD_of st_is_fraction sh_is_fraction KX G ?a ?l ?c ?k; (case a => k_is); (case l => k_is); (case c => k_is); (case k => k_is))
    (case f__law_pot => refine' Den.fnD_of st__law_pot sh__law_pot KX G ?a ?l ?c ?k; (case a => k_is); (case l => k_is); (case c => k_is); (case k => k_is))
    (case f__law_draw => refine' Den.fnD_of st__law_draw sh__law_draw KX G ?a ?l ?c ?k; (case a => k_is); (case l => k_is); (case c => k_is); (case k => k_is))
    (case f__law_pick => refine' Den.fnD_of st__law_pick sh__law_pick KX G ?a ?l ?c ?k; (case a => k_is); (case l => k_is); (case c => k_is); (case k => k_is))
    (case f__law_common => refine' Den.fnD_of st__law_common sh__law_common KX G ?a ?l ?c ?k; (case a => k_is); (case l => k_is); (case c => k_is); (case k => k_is))
    (case f__law_lowest => refine' Den.fnD_of st__law_lowest sh__law_lowest KX G ?a ?l ?c ?k; (case a => k_is); (case l => k_is); (case c => k_is); (case k => k_is))
    (case f__law_number => refine' Den.fnD_of st__law_number sh__law_number KX G ?a ?l ?c ?k; (case a => k_is); (case l => k_is); (case c => k_is); (case k => k_is))
    (case f__law_is => refine' Den.fnD_of st__law_is sh__law_is KX G ?a ?l ?c ?k; (case a => k_is); (case l => k_is); (case c => k_is); (case k => k_is))
    (case f__law_sum => refine' Den.fnD_of st__law_sum sh__law_sum KX G ?a ?l ?c ?k; (case a => k_is); (case l => k_is); (case c => k_is); (case k => k_is))
    (case f__law_times => refine' Den.fnD_of st__law_times sh__law_times KX G ?a ?l ?c ?k; (case a => k_is); (case l => k_is); (case c => k_is); (case k => k_is))
    (case f__law_two_right => refine' Den.fnD_of st__law_two_right sh__law_two_right KX G ?a ?l ?c ?k; (case a => k_is); (case l => k_is); (case c => k_is); (case k => k_is))
    (case f__law_whole_right => refine' Den.fnD_of st__law_whole_right sh__law_whole_right KX G ?a ?l ?c ?k; (case a => k_is); (case l => k_is); (case c => k_is); (case k => k_is))
    (case f__law_rules_right => refine' Den.fnD_of st__law_rules_right sh__law_rules_right KX G ?a ?l ?c ?k; (case a => k_is); (case l => k_is); (case c => k_is); (case k => k_is))
    (case f__law_right => refine' Den.fnD_of st__law_right sh__law_right KX G ?a ?l ?c ?k; (case a => k_is); (case l => k_is); (case c => k_is); (case k => k_is))
    (case f_law => refine' Den.fnD_of st_law sh_law KX G ?a ?l ?c ?k; (case a => k_is); (case l => k_is); (case c => k_is); (case k => k_is))
    (case cons => exact trivial)
    (case b_len => k_is)
    (case b_abs => k_is)
    (case b_max => k_is)
    (case b_min => k_is)
    (case b_int => k_is)
    (case b_divmod => k_is)
    (case b_all => k_is)
    (case b_repr => k_is)
    (case b_any => k_is)
    (case b_sum => k_is)
    (case b_isinstance => k_is)
    (case b_sorted => k_is)
    (case b_list => k_is)
    (case b_tuple => k_is)
    (case b_str => k_is)
    (case b_bool => k_is)
    (case b_dict => k_is)
    (case rng => k_is)
    (case enm => k_is)
    (case zip => k_is)
    (case gcd => exact ⟨by dsimp only; k_is, trivial⟩)
    (case c_Ratio =>
      refine' ⟨?here, ?pg, ?hd, ?po, ?sa, ?fld, ?ini, ?ms, ?cms, ?props, ?bins, ?rbins, ?uns, ?eq, ?cv⟩
      (case here => exact PySem.W.mg_of KX G (by k_is))
      (case pg => k_is)
      (case hd => k_is)
      (case po => k_is)
      (case sa => k_is)
      (case fld => exact ⟨by dsimp only; k_is, by dsimp only; k_is, trivial⟩)
      (case ini => refine' Den.iniD_of st_Ratio___init__ sh_Ratio___init__ rfl ?mk ?a ?i ?k ?l ?c ?lT ?oT ?v; (case mk => k_is); (case a => k_is); (case i => k_is); (case k => k_is); (case l => k_is); (case c => k_is); (case lT => k_is); (case oT => rfl); (case v => exact .cons ⟨_, rfl⟩ .nil))
      (case ms =>
        refine' ⟨?x0, ?x1, trivial⟩
        (case x0 => refine' Den.msD_of st_Ratio_pair sh_Ratio_pair ?a ?i ?k ?l ?c; (case a => k_is); (case i => k_is); (case k => k_is); (case l => k_is); (case c => k_is))
        (case x1 => refine' Den.msD_of st_Ratio_over sh_Ratio_over ?a ?i ?k ?l ?c; (case a => k_is); (case i => k_is); (case k => k_is); (case l => k_is); (case c => k_is)))
      (case cms =>
        refine' ⟨?x0, trivial⟩
        (case x0 => refine' Den.cmsD_of (mc := .type "type") st_Ratio_of sh_Ratio_of ?r ?ga ?a ?rc ?fi ?l ?c; (case r => k_is); (case ga => k_is); (case a => k_is); (case rc => k_is); (case fi => k_is); (case l => k_is); (case c => k_is)))
      (case props =>
        refine' ⟨?x0, ?x1, trivial⟩
        (case x0 => refine' Den.propD_of st_Ratio_above sh_Ratio_above rfl ?a ?g ?tk ?rc ?l ?c; (case a => k_is); (case g => k_is); (case tk => k_is); (case rc => k_is); (case l => k_is); (case c => k_is))
        (case x1 => refine' Den.propD_of st_Ratio_below sh_Ratio_below rfl ?a ?g ?tk ?rc ?l ?c; (case a => k_is); (case g => k_is); (case tk => k_is); (case rc => k_is); (case l => k_is); (case c => k_is)))
      (case bins =>
        refine' ⟨?x0, ?x1, ?x2, trivial⟩
        (case x0 => refine' Den.binD_of st_Ratio___add__ sh_Ratio___add__ rfl ?a ?i ?sf ?r ?hr ?i1 ?i2 ?sb ?l ?c; (case a => k_is); (case i => k_is); (case sf => k_is); (case r => k_is); (case i1 => k_is); (case i2 => k_is); (case sb => k_is); (case l => k_is); (case c => k_is); (case hr => first | exact .inl rfl | exact .inr ⟨_, rfl⟩))
        (case x1 => refine' Den.binD_of st_Ratio___sub__ sh_Ratio___sub__ rfl ?a ?i ?sf ?r ?hr ?i1 ?i2 ?sb ?l ?c; (case a => k_is); (case i => k_is); (case sf => k_is); (case r => k_is); (case i1 => k_is); (case i2 => k_is); (case sb => k_is); (case l => k_is); (case c => k_is); (case hr => first | exact .inl rfl | exact .inr ⟨_, rfl⟩))
        (case x2 => refine' Den.binD_of st_Ratio___mul__ sh_Ratio___mul__ rfl ?a ?i ?sf ?r ?hr ?i1 ?i2 ?sb ?l ?c; (case a => k_is); (case i => k_is); (case sf => k_is); (case r => k_is); (case i1 => k_is); (case i2 => k_is); (case sb => k_is); (case l => k_is); (case c => k_is); (case hr => first | exact .inl rfl | exact .inr ⟨_, rfl⟩)))
      (case rbins =>
        refine' ⟨?x0, ?x1, ?x2, trivial⟩
        (case x0 => refine' Den.rbinD_of st_Ratio___radd__ sh_Ratio___radd__ rfl ?a ?i ?sf ?r ?sb ?l ?c; (case a => k_is); (case i => k_is); (case sf => k_is); (case r => k_is); (case sb => k_is); (case l => k_is); (case c => k_is))
        (case x1 => refine' Den.rbinD_of st_Ratio___rsub__ sh_Ratio___rsub__ rfl ?a ?i ?sf ?r ?sb ?l ?c; (case a => k_is); (case i => k_is); (case sf => k_is); (case r => k_is); (case sb => k_is); (case l => k_is); (case c => k_is))
        (case x2 => refine' Den.rbinD_of st_Ratio___rmul__ sh_Ratio___rmul__ rfl ?a ?i ?sf ?r ?sb ?l ?c; (case a => k_is); (case i => k_is); (case sf => k_is); (case r => k_is); (case sb => k_is); (case l => k_is); (case c => k_is)))
      (case uns =>
        refine' ⟨?x0, ?x1, trivial⟩
        (case x0 => refine' Den.unD_of st_Ratio___neg__ sh_Ratio___neg__ rfl ?a ?i ?l ?c; (case a => k_is); (case i => k_is); (case l => k_is); (case c => k_is))
        (case x1 => refine' Den.unD_of st_Ratio___repr__ sh_Ratio___repr__ rfl ?a ?i ?l ?c; (case a => k_is); (case i => k_is); (case l => k_is); (case c => k_is)))
      (case eq => intro d hd; cases hd; refine' Den.eqD_of st_Ratio___eq__ sh_Ratio___eq__ rfl ?a ?i ?ne ?ob ?l ?c ⟨by dsimp only; k_is, by dsimp only; k_is, by dsimp only; k_is, by dsimp only; k_is, by dsimp only; k_is, by dsimp only; k_is, by dsimp only; k_is, trivial⟩; (case a => k_is); (case i => k_is); (case ne => k_is); (case ob => k_is); (case l => k_is); (case c => k_is))
      (case cv => exact trivial))
    (case isi => refine' Den.isiOk_of (cs := [0]) ?ia ?ib rfl; (case ia => refine' ⟨by dsimp only [Den.tyVal, Wc]; kit_is, by dsimp only [Den.tyVal, Wc]; kit_is, by dsimp only [Den.tyVal, Wc]; kit_is, by dsimp only [Den.tyVal, Wc]; kit_is, by dsimp only [Den.tyVal, Wc]; kit_is, by dsimp only [Den.tyVal, Wc]; kit_is, by dsimp only [Den.tyVal, Wc]; kit_is, by dsimp only [Den.tyVal, Wc]; kit_is, by dsimp only [Den.tyVal, Wc]; kit_is, by dsimp only [Den.tyVal, Wc]; kit_is, by dsimp only [Den.tyVal, Wc]; kit_is, by dsimp only [Den.tyVal, Wc]; kit_is, by dsimp only [Den.tyVal, Wc]; kit_is, by dsimp only [Den.tyVal, Wc]; kit_is, trivial⟩); (case ib => refine' ⟨⟨⟨by dsimp only [Wc]; k_is, by dsimp only [Wc]; k_is, by dsimp only [Wc]; k_is, by dsimp only [Wc]; k_is⟩, by dsimp only [Wc]; k_is, by dsimp only [Wc]; k_is, by dsimp only [Wc]; k_is, by dsimp only [Wc]; k_is⟩, trivial⟩))
end
