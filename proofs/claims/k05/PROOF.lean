import PyProof.Rows.All
import Wide.All
import OpenK.AllK
import Wide.FinOn
import HandS.ForMost
import HandS.ForExc
import HandS.Deep
import HandS.IsInst
import HandS.ExcIs
import HandS.Flow
import HandS.Wide
import HandS.WideBits
import HandS.Gcd
import HandS.Zip
import HandS.SortInts
import HandS.Style
import HandS.TupAny
import HandS.EndBits
import HandS.AnyAll
import HandS.RaiseMore
import HandS.Rev
import KE.GoesZip
import KE.KStar
import HandS.Iter
import HandS.Star
import HandS.More
import PyProof.GenCompD
import PyProof.Rows.ZipGen
import PySem.Challenge.RW_latelaw_k05_products_of_works
set_option Elab.async false
set_option linter.all false
set_option maxRecDepth 100000
set_option maxHeartbeats 4000000
namespace DL
open PySem PySem.Spec PyProof.Rows L2

abbrev D := PyData
/-- an outcome: a value, an own exception by its class's name, or nothing is said -/
inductive R (A : Type) where
  | ok (a : A) | er (c : Str) | no
def R.bind {A B : Type} (r : R A) (f : A → R B) : R B := match r with
  | .ok a => f a
  | .er c => .er c
  | .no => .no
def R.map {A B : Type} (f : A → B) (r : R A) : R B := r.bind fun a => .ok (f a)
/-- a value of a slot: data that may be shared, or a list that this slot alone knows -/
inductive S where
  | fr (d : D) | ow (xs : List S) | tu (xs : List S)
mutual
def S.toD : S → D
  | .fr d => d
  | .ow xs => .list (toDs xs)
  | .tu xs => .tuple (toDs xs)
def toDs : List S → List D
  | [] => []
  | x :: xs => x.toD :: toDs xs
end
theorem toDs_map : ∀ xs : List S, toDs xs = xs.map S.toD
  | [] => rfl
  | x :: xs => by rw [toDs, toDs_map xs]; rfl
/-- a slot: a value, or a dict that this slot alone knows -/
inductive Sl where
  | v (s : S) | m (kvs : List (Key × D)) | xc (a : Addr)
abbrev En := List (Option Sl)

/-- whether an object is no table -/
def noTb : HO → Bool
  | .tbl _ => false
  | _ => true
/-- all that was tracked is as it was, but that a table may have grown -/
structure Same (H H' : Hp) : Prop where
  k : ∀ b o, H b = some o → noTb o = true → H' b = some o
  t : ∀ b ps, H b = some (.tbl ps) → ∃ more, H' b = some (.tbl (ps ++ more)) ∧ (TriplesOk ps.toList → TriplesOk (ps ++ more).toList)
theorem Same.ap {H H' : Hp} (s : Same H H') : ∀ b o, H b = some o → (hn : noTb o = true := by rfl) → H' b = some o := fun b o h hn => s.k b o h hn
instance {H H' : Hp} : CoeFun (Same H H') (fun _ => ∀ b o, H b = some o → (hn : noTb o = true := by rfl) → H' b = some o) := ⟨@Same.ap H H'⟩
theorem Same.of {H H' : Hp} (h : ∀ b o, H b = some o → H' b = some o) : Same H H' := ⟨fun b o e _ => h b o e, fun b ps e => ⟨#[], by rw [Array.append_empty]; exact h b _ e, by rw [Array.append_empty]; exact id⟩⟩
theorem Same.refl (H : Hp) : Same H H := .of fun _ _ h => h
theorem Same.trans {H H1 H2 : Hp} (a : Same H H1) (b : Same H1 H2) : Same H H2 := ⟨fun c o h n => b.k c o (a.k c o h n) n, fun c ps h => by
  obtain ⟨m1, h1, t1⟩ := a.t c ps h
  obtain ⟨m2, h2, t2⟩ := b.t c _ h1
  exact ⟨m1 ++ m2, by rw [h2, Array.append_assoc], fun z => by have := t2 (t1 z); rwa [Array.append_assoc] at this⟩⟩
theorem Same.free {H H' : Hp} (e : Same H H') {l : Addr} (h : H' l = Option.none) : H l = Option.none := by
  cases q : H l with
  | none => rfl
  | some o =>
    cases hn : noTb o with
    | true => rw [e.k l o q hn] at h; cases h
    | false =>
      cases o with
      | tbl ps =>
        obtain ⟨m, h1, _⟩ := e.t l ps q
        rw [h1] at h; cases h
      | _ => cases hn
/-- the tables of code objects that may grow -/
class Tabs where
  T : List Addr
instance (priority := low) tabs0 : Tabs := ⟨[]⟩
/-- the tables stand -/
def Tg [Tabs] (H : Hp) : Prop := ∀ P ∈ Tabs.T, ∃ ps, H P = some (.tbl ps) ∧ TriplesOk ps.toList
theorem Tg.same [Tabs] {B H : Hp} (g : Tg B) (s : Same B H) : Tg H := fun P hP => by
  obtain ⟨ps, h1, h2⟩ := g P hP
  obtain ⟨m, k1, k2⟩ := s.t P ps h1
  exact ⟨_, k1, k2 h2⟩
/-- .. and hold the tables -/
structure BSame [Tabs] (B H : Hp) : Prop where
  s : Same B H
  tg : Tg B
instance [Tabs] {B H : Hp} : Coe (BSame B H) (Same B H) := ⟨BSame.s⟩
theorem BSame.trans [Tabs] {B H H' : Hp} (a : BSame B H) (b : Same H H') : BSame B H' := ⟨a.s.trans b, a.tg⟩
theorem BSame.free [Tabs] {B H : Hp} (e : BSame B H) {l : Addr} (h : H l = Option.none) : B l = Option.none := e.s.free h
theorem BSame.tgH [Tabs] {B H : Hp} (e : BSame B H) : Tg H := e.tg.same e.s
theorem Same.seq {K : PySem.W.Frag} {H H' : Hp} {a : Addr} {xs : List V} (e : Same H H') (h : SqL K H a xs) : SqL K H' a xs := by
  rcases h with (h | ⟨o, h⟩) | h
  · exact .inl (.inl (e _ _ h))
  · exact .inl (.inr ⟨o, e _ _ h⟩)
  · exact .inr h

theorem SqT.same {K : PySem.W.Frag} {H H' : Hp} {a : Addr} {xs : List V} (e : Same H H') (h : SqT K H a xs) : SqT K H' a xs := by
  rcases h with (h | ⟨o, h⟩) | h
  · exact .inl (.inl (e _ _ h))
  · exact .inl (.inr ⟨o, e _ _ h⟩)
  · exact .inr h
mutual
theorem Dp.mono {K : PySem.W.Frag} {F F' : Hp} (e : Same F F') : ∀ (d : D) (v : V), Dp K F v d → Dp K F' v d
  | .none, _, h => by cases h; exact .non
  | .bool b, _, h => by cases h; exact .bl b
  | .int i, _, h => by cases h; exact .int i
  | .str x, _, h => by cases h; exact .str x
  | .list ds, _, h => by
    cases h with
    | lst a b => exact .lst (e.seq a) (DpAll.mono e ds _ b)
  | .tuple ds, _, h => by
    cases h with
    | tup a b => exact .tup (SqT.same e a) (DpAll.mono e ds _ b)
  | .dict _, _, h => by cases h
theorem DpAll.mono {K : PySem.W.Frag} {F F' : Hp} (e : Same F F') : ∀ (ds : List D) (vs : List V), DpAll K F vs ds → DpAll K F' vs ds
  | [], _, h => by cases h; exact .nil
  | d :: ds, _, h => by
    cases h with
    | cons a b => exact .cons (Dp.mono e d _ a) (DpAll.mono e ds _ b)
end
end DL
namespace L2
open PySem
theorem DpAll.len {K : PySem.W.Frag} {F : Hp} : ∀ {vs : List V} {ds : List PyData}, DpAll K F vs ds → vs.length = ds.length
  | _, _, .nil => rfl
  | _, _, .cons _ t => by simp [DpAll.len t]
theorem DpAll.get {K : PySem.W.Frag} {F : Hp} : ∀ {vs : List V} {ds : List PyData} {i : Nat} {v : V}, DpAll K F vs ds → vs[i]? = some v → ∃ d, ds[i]? = some d ∧ Dp K F v d
  | _, _, _, _, .nil, e => by simp at e
  | _, _, 0, _, .cons a _, e => by simp at e; subst e; exact ⟨_, rfl, a⟩
  | _, _, i + 1, _, .cons _ t, e => by
    obtain ⟨d, h1, h2⟩ := DpAll.get (i := i) t (by simpa using e)
    exact ⟨d, by simpa using h1, h2⟩
theorem DpAll.getD {K : PySem.W.Frag} {F : Hp} : ∀ {vs : List V} {ds : List PyData} {i : Nat} {d : PyData}, DpAll K F vs ds → ds[i]? = some d → ∃ v, vs[i]? = some v ∧ Dp K F v d
  | _, _, _, _, .nil, e => by simp at e
  | _, _, 0, _, .cons a _, e => by simp at e; subst e; exact ⟨_, rfl, a⟩
  | _, _, i + 1, _, .cons _ t, e => by
    obtain ⟨d, h1, h2⟩ := DpAll.getD (i := i) t (by simpa using e)
    exact ⟨d, by simpa using h1, h2⟩
theorem DpAll.app {K : PySem.W.Frag} {F : Hp} : ∀ {vs : List V} {ds : List PyData} {ws : List V} {es : List PyData}, DpAll K F vs ds → DpAll K F ws es → DpAll K F (vs ++ ws) (ds ++ es)
  | _, _, _, _, .nil, h => h
  | _, _, _, _, .cons a t, h => .cons a (DpAll.app t h)
theorem DpAll.take {K : PySem.W.Frag} {F : Hp} : ∀ {vs : List V} {ds : List PyData} (n : Nat), DpAll K F vs ds → DpAll K F (vs.take n) (ds.take n)
  | _, _, 0, _ => .nil
  | _, _, _ + 1, .nil => .nil
  | _, _, n + 1, .cons a t => .cons a (DpAll.take n t)
theorem DpAll.drop {K : PySem.W.Frag} {F : Hp} : ∀ {vs : List V} {ds : List PyData} (n : Nat), DpAll K F vs ds → DpAll K F (vs.drop n) (ds.drop n)
  | _, _, 0, h => h
  | _, _, _ + 1, .nil => .nil
  | _, _, n + 1, .cons _ t => DpAll.drop n t

end L2
namespace DL
open PySem PySem.Spec PyProof.Rows L2
mutual
/-- v, at its place, bears s: the lists that are its own stand at as, out of F -/
inductive Ow (K : PySem.W.Frag) (F H : Hp) : V → S → List Addr → Prop
  | fr {v : V} {d : D} : Dp K F v d → Ow K F H v (.fr d) []
  | ow {a : Addr} {vs : List V} {ss : List S} {as : List Addr} : F a = none → H a = some (.lst vs) → OwAll K F H vs ss as → Ow K F H (.ref a) (.ow ss) (a :: as)
  | tu {a : Addr} {vs : List V} {ss : List S} {as : List Addr} : F a = none → H a = some (.tup vs) → OwAll K F H vs ss as → Ow K F H (.ref a) (.tu ss) (a :: as)
inductive OwAll (K : PySem.W.Frag) (F H : Hp) : List V → List S → List Addr → Prop
  | nil : OwAll K F H [] [] []
  | cons {v : V} {s : S} {as : List Addr} {vs : List V} {ss : List S} {bs : List Addr} : Ow K F H v s as → OwAll K F H vs ss bs → OwAll K F H (v :: vs) (s :: ss) (as ++ bs)
end
mutual
theorem Ow.mono {K : PySem.W.Frag} {F F' H H' : Hp} (e : Same F F') : ∀ (s : S) (v : V) (as : List Addr), Ow K F H v s as → (∀ a ∈ as, F' a = none ∧ H' a = H a) → Ow K F' H' v s as
  | .fr d, _, _, h, _ => by
    cases h with
    | fr a => exact .fr (Dp.mono e d _ a)
  | .ow ss, _, _, h, k => by
    cases h with
    | ow a b c =>
      have k0 := k _ List.mem_cons_self
      exact .ow k0.1 (k0.2.trans b) (OwAll.mono e ss _ _ c fun x hx => k x (List.mem_cons_of_mem _ hx))
  | .tu ss, _, _, h, k => by
    cases h with
    | tu a b c =>
      have k0 := k _ List.mem_cons_self
      exact .tu k0.1 (k0.2.trans b) (OwAll.mono e ss _ _ c fun x hx => k x (List.mem_cons_of_mem _ hx))
theorem OwAll.mono {K : PySem.W.Frag} {F F' H H' : Hp} (e : Same F F') : ∀ (ss : List S) (vs : List V) (as : List Addr), OwAll K F H vs ss as → (∀ a ∈ as, F' a = none ∧ H' a = H a) → OwAll K F' H' vs ss as
  | [], _, _, h, _ => by cases h; exact .nil
  | s :: ss, _, _, h, k => by
    cases h with
    | cons a b => exact .cons (Ow.mono e s _ _ a fun x hx => k x (List.mem_append_left _ hx)) (OwAll.mono e ss _ _ b fun x hx => k x (List.mem_append_right _ hx))
end
mutual
theorem Ow.at {K : PySem.W.Frag} {F H : Hp} : ∀ (s : S) (v : V) (as : List Addr), Ow K F H v s as → ∀ a ∈ as, F a = none ∧ ∃ o, H a = some o ∧ noTb o = true
  | .fr d, _, _, h, a, ha => by
    cases h with
    | fr _ => cases ha
  | .ow ss, _, _, h, a, ha => by
    cases h with
    | ow p q c =>
      rcases List.mem_cons.mp ha with e | e
      · subst e; exact ⟨p, _, q, rfl⟩
      · exact OwAll.at ss _ _ c a e
  | .tu ss, _, _, h, a, ha => by
    cases h with
    | tu p q c =>
      rcases List.mem_cons.mp ha with e | e
      · subst e; exact ⟨p, _, q, rfl⟩
      · exact OwAll.at ss _ _ c a e
theorem OwAll.at {K : PySem.W.Frag} {F H : Hp} : ∀ (ss : List S) (vs : List V) (as : List Addr), OwAll K F H vs ss as → ∀ a ∈ as, F a = none ∧ ∃ o, H a = some o ∧ noTb o = true
  | [], _, _, h, a, ha => by cases h; cases ha
  | s :: ss, _, _, h, a, ha => by
    cases h with
    | cons p q =>
      rcases List.mem_append.mp ha with e | e
      · exact Ow.at s _ _ p a e
      · exact OwAll.at ss _ _ q a e
end
mutual
/-- read as data in any heap that holds both -/
theorem Ow.dp {K : PySem.W.Frag} {F H G : Hp} (f : Same F G) : ∀ (s : S) (v : V) (as : List Addr), Ow K F H v s as → (∀ a ∈ as, G a = H a) → Dp K G v s.toD
  | .fr d, _, _, h, _ => by
    cases h with
    | fr a => exact Dp.mono f d _ a
  | .ow ss, _, _, h, k => by
    cases h with
    | ow a b c =>
      rw [S.toD]
      exact .lst (SqL.of ((k _ List.mem_cons_self).trans b)) (OwAll.dp f ss _ _ c fun x hx => k x (List.mem_cons_of_mem _ hx))
  | .tu ss, _, _, h, k => by
    cases h with
    | tu a b c =>
      rw [S.toD]
      exact .tup (.inl (.inl ((k _ List.mem_cons_self).trans b))) (OwAll.dp f ss _ _ c fun x hx => k x (List.mem_cons_of_mem _ hx))
theorem OwAll.dp {K : PySem.W.Frag} {F H G : Hp} (f : Same F G) : ∀ (ss : List S) (vs : List V) (as : List Addr), OwAll K F H vs ss as → (∀ a ∈ as, G a = H a) → DpAll K G vs (toDs ss)
  | [], _, _, h, _ => by cases h; exact .nil
  | s :: ss, _, _, h, k => by
    cases h with
    | cons a b => exact .cons (Ow.dp f s _ _ a fun x hx => k x (List.mem_append_left _ hx)) (OwAll.dp f ss _ _ b fun x hx => k x (List.mem_append_right _ hx))
end
theorem OwAll.len {K : PySem.W.Frag} {F H : Hp} : ∀ {vs : List V} {ss : List S} {as : List Addr}, OwAll K F H vs ss as → vs.length = ss.length
  | _, _, _, .nil => rfl
  | _, _, _, .cons _ t => by simp [OwAll.len t]
theorem OwAll.app {K : PySem.W.Frag} {F H : Hp} : ∀ {vs : List V} {ss : List S} {as : List Addr} {ws : List V} {ts : List S} {bs : List Addr}, OwAll K F H vs ss as → OwAll K F H ws ts bs → OwAll K F H (vs ++ ws) (ss ++ ts) (as ++ bs)
  | _, _, _, _, _, _, .nil, h => h
  | _, _, _, _, _, _, .cons a t, h => by
    rw [List.append_assoc]
    exact .cons a (OwAll.app t h)
theorem OwAll.ofDp {K : PySem.W.Frag} {F H : Hp} : ∀ {vs : List V} {ds : List D}, DpAll K F vs ds → OwAll K F H vs (ds.map S.fr) []
  | _, _, .nil => .nil
  | _, _, .cons a t => .cons (as := []) (.fr a) (OwAll.ofDp t)
/-- a dict's pairs -/
def Kd (K : PySem.W.Frag) (F : Hp) : List (Key × V) → List (Key × D) → Prop := Paired fun p q => p.1 = q.1 ∧ Dp K F p.2 q.2
theorem Kd.mono {K : PySem.W.Frag} {F F' : Hp} (e : Same F F') {xs : List (Key × V)} {ys : List (Key × D)} (h : Kd K F xs ys) : Kd K F' xs ys := Paired.mapP h fun _ _ z => ⟨z.1, Dp.mono e _ _ z.2⟩
/-- a slot's value (xc: a caught exception) -/
inductive OwS (K : PySem.W.Frag) (F H : Hp) : V → Sl → List Addr → Prop
  | v {v : V} {s : S} {as : List Addr} : Ow K F H v s as → OwS K F H v (.v s) as
  | m {a : Addr} {kvs : List (Key × V)} {kds : List (Key × D)} : F a = none → H a = some (.dK kvs) → Kd K F kvs kds → OwS K F H (.ref a) (.m kds) [a]
  | xc (a : Addr) : OwS K F H (.ref a) (.xc a) []
theorem OwS.mono {K : PySem.W.Frag} {F F' H H' : Hp} (e : Same F F') {s : Sl} {v : V} {as : List Addr} (h : OwS K F H v s as) (k : ∀ a ∈ as, F' a = none ∧ H' a = H a) : OwS K F' H' v s as := by
  cases h with
  | v h => exact .v (h.mono e _ _ _ k)
  | m a b c =>
    have k0 := k _ List.mem_cons_self
    exact .m k0.1 (k0.2.trans b) (c.mono e)
  | xc a => exact .xc a
theorem OwS.at {K : PySem.W.Frag} {F H : Hp} {s : Sl} {v : V} {as : List Addr} (h : OwS K F H v s as) : ∀ a ∈ as, F a = none ∧ ∃ o, H a = some o ∧ noTb o = true := by
  cases h with
  | v h => exact fun a ha => h.at _ _ _ a ha
  | m a b c =>
    intro x hx
    rcases List.mem_cons.mp hx with e | e
    · subst e; exact ⟨a, _, b, rfl⟩
    · cases e
  | xc a => exact fun b hb => by cases hb
/-- the slots -/
inductive OwEn (K : PySem.W.Frag) (F H : Hp) : L2.St → En → List Addr → Prop
  | nil : OwEn K F H [] [] []
  | un {x : Option V} {σ : L2.St} {env : En} {as : List Addr} : OwEn K F H σ env as → OwEn K F H (x :: σ) (none :: env) as
  | so {v : V} {s : Sl} {σ : L2.St} {env : En} {bs as : List Addr} : OwS K F H v s bs → OwEn K F H σ env as → OwEn K F H (some v :: σ) (some s :: env) (bs ++ as)
theorem OwEn.mono {K : PySem.W.Frag} {F F' H H' : Hp} (e : Same F F') : ∀ {σ : L2.St} {env : En} {as : List Addr}, OwEn K F H σ env as → (∀ a ∈ as, F' a = none ∧ H' a = H a) → OwEn K F' H' σ env as
  | _, _, _, .nil, _ => .nil
  | _, _, _, .un t, k => .un (OwEn.mono e t k)
  | _, _, _, .so h t, k => .so (h.mono e fun x hx => k x (List.mem_append_left _ hx)) (OwEn.mono e t fun x hx => k x (List.mem_append_right _ hx))
theorem OwEn.at {K : PySem.W.Frag} {F H : Hp} : ∀ {σ : L2.St} {env : En} {as : List Addr}, OwEn K F H σ env as → ∀ a ∈ as, F a = none ∧ ∃ o, H a = some o ∧ noTb o = true
  | _, _, _, .nil, a, ha => by cases ha
  | _, _, _, .un t, a, ha => OwEn.at t a ha
  | _, _, _, .so h t, a, ha => by
    rcases List.mem_append.mp ha with e | e
    · exact h.at a e
    · exact OwEn.at t a e
theorem OwEn.len {K : PySem.W.Frag} {F H : Hp} : ∀ {σ : L2.St} {env : En} {as : List Addr}, OwEn K F H σ env as → σ.length = env.length
  | _, _, _, .nil => rfl
  | _, _, _, .un t => by simp [OwEn.len t]
  | _, _, _, .so _ t => by simp [OwEn.len t]
theorem OwEn.get {K : PySem.W.Frag} {F H : Hp} : ∀ {σ : L2.St} {env : En} {as : List Addr} {i : Nat} {s : Sl}, OwEn K F H σ env as → env[i]? = some (some s) → ∃ v bs, σ[i]? = some (some v) ∧ OwS K F H v s bs ∧ bs.Sublist as
  | _, _, _, _, _, .nil, e => by simp at e
  | _, _, _, 0, _, .un t, e => by simp at e
  | _, _, _, i + 1, _, .un t, e => OwEn.get (i := i) t (by simpa using e)
  | _, _, _, 0, _, .so h t, e => by
    simp at e; subst e
    exact ⟨_, _, rfl, h, List.sublist_append_left _ _⟩
  | _, _, _, i + 1, _, .so h t, e => by
    obtain ⟨v, bs, h1, h2, h3⟩ := OwEn.get (i := i) t (by simpa using e)
    exact ⟨v, bs, by simpa using h1, h2, h3.trans (List.sublist_append_right _ _)⟩
/-- another value at a slot: the old one's lists are forgotten -/
theorem OwEn.set {K : PySem.W.Frag} {F H : Hp} {v : V} {s : Sl} {bs : List Addr} (hv : OwS K F H v s bs) : ∀ {σ : L2.St} {env : En} {as : List Addr} (i : Nat), OwEn K F H σ env as → as.Nodup → bs.Nodup → (∀ a ∈ bs, a ∉ as) →
    ∃ cs, OwEn K F H (σ.set i (some v)) (env.set i (some s)) cs ∧ cs.Nodup ∧ ∀ a ∈ cs, a ∈ as ∨ a ∈ bs
  | _, _, _, i, .nil, n, m, k => ⟨[], .nil, .nil, fun a ha => by cases ha⟩
  | _, _, _, 0, .un t, n, m, k => ⟨_, .so hv t, List.nodup_append.mpr ⟨m, n, fun a ha b hb e => k a ha (e ▸ hb)⟩, fun a ha => (List.mem_append.mp ha).symm⟩
  | _, _, _, i + 1, .un t, n, m, k => by
    obtain ⟨cs, h1, h2, h3⟩ := OwEn.set hv i t n m k
    exact ⟨cs, .un h1, h2, h3⟩
  | _, _, _, 0, .so (bs := ds) (as := as) h t, n, m, k => by
    have n' := List.nodup_append.mp n
    exact ⟨_, .so hv t, List.nodup_append.mpr ⟨m, n'.2.1, fun a ha b hb e => k a ha (List.mem_append_right _ (e ▸ hb))⟩, fun a ha => (List.mem_append.mp ha).elim .inr fun z => .inl (List.mem_append_right _ z)⟩
  | _, _, _, i + 1, .so (bs := ds) (as := as) h t, n, m, k => by
    have n' := List.nodup_append.mp n
    obtain ⟨cs, h1, h2, h3⟩ := OwEn.set hv i t n'.2.1 m fun a ha z => k a ha (List.mem_append_right _ z)
    refine ⟨_, .so h h1, List.nodup_append.mpr ⟨n'.1, h2, fun a ha b hb e => ?_⟩, fun a ha => ?_⟩
    · subst e
      rcases h3 a hb with z | z
      · exact n'.2.2 a ha a z rfl
      · exact k a z (List.mem_append_left _ ha)
    · rcases List.mem_append.mp ha with z | z
      · exact .inl (List.mem_append_left _ z)
      · exact (h3 a z).imp (List.mem_append_right _) id
/-- a slot of which nothing more is said -/
theorem OwEn.drop {K : PySem.W.Frag} {F H : Hp} {x : Option V} : ∀ {σ : L2.St} {env : En} {as : List Addr} (i : Nat), OwEn K F H σ env as → as.Nodup →
    ∃ cs, OwEn K F H (σ.set i x) (env.set i none) cs ∧ cs.Nodup ∧ ∀ a ∈ cs, a ∈ as
  | _, _, _, i, .nil, n => ⟨[], .nil, .nil, fun a ha => ha⟩
  | _, _, _, 0, .un t, n => ⟨_, .un t, n, fun a ha => ha⟩
  | _, _, _, i + 1, .un t, n => by
    obtain ⟨cs, h1, h2, h3⟩ := OwEn.drop i t n
    exact ⟨cs, .un h1, h2, h3⟩
  | _, _, _, 0, .so h t, n => ⟨_, .un t, (List.nodup_append.mp n).2.1, fun a ha => List.mem_append_right _ ha⟩
  | _, _, _, i + 1, .so h t, n => by
    have n' := List.nodup_append.mp n
    obtain ⟨cs, h1, h2, h3⟩ := OwEn.drop i t n'.2.1
    exact ⟨_, .so h h1, List.nodup_append.mpr ⟨n'.1, h2, fun a ha b hb e => n'.2.2 a ha b (h3 b hb) e⟩, fun a ha => (List.mem_append.mp ha).elim (List.mem_append_left _) fun z => List.mem_append_right _ (h3 a z)⟩

/-- a slot's own list gets another content -/
theorem OwEn.mut {K : PySem.W.Frag} {F H : Hp} : ∀ {σ : L2.St} {env : En} {as : List Addr} {i : Nat} {ss : List S}, OwEn K F H σ env as → as.Nodup → env[i]? = some (some (.v (.ow ss))) →
    ∃ a vs bs, σ[i]? = some (some (.ref a)) ∧ F a = none ∧ H a = some (.lst vs) ∧ OwAll K F H vs ss bs ∧ a ∈ as ∧ a ∉ bs ∧ bs.Nodup ∧ (∀ b ∈ bs, b ∈ as) ∧
      ∀ vs' ss' cs, OwAll K F H vs' ss' cs → a ∉ cs → cs.Nodup → (∀ b ∈ cs, b ∈ bs ∨ b ∉ as) → ∃ ds, OwEn K F (upd H a (.lst vs')) σ (env.set i (some (.v (.ow ss')))) ds ∧ ds.Nodup ∧ ∀ b ∈ ds, b ∈ as ∨ b ∈ cs
  | _, _, _, _, _, .nil, _, e => by simp at e
  | _, _, _, 0, _, .un t, _, e => by simp at e
  | _, _, _, i + 1, _, .un t, n, e => by
    obtain ⟨a, vs, bs, h1, h2, h3, h4, h5, h6, h7, h8, h9⟩ := OwEn.mut (i := i) t n (by simpa using e)
    refine ⟨a, vs, bs, by simpa using h1, h2, h3, h4, h5, h6, h7, h8, fun vs' ss' cs q1 q2 q3 q4 => ?_⟩
    obtain ⟨ds, r1, r2, r3⟩ := h9 vs' ss' cs q1 q2 q3 q4
    exact ⟨ds, .un r1, r2, r3⟩
  | _, _, _, 0, _, .so (as := as) h t, n, e => by
    simp at e; subst e
    cases h with
    | v h =>
      cases h with
      | @ow a vs _ bs p q o =>
        have n' := List.nodup_append.mp n
        have na := List.nodup_cons.mp n'.1
        refine ⟨a, vs, bs, rfl, p, q, o, List.mem_append_left _ List.mem_cons_self, na.1, na.2, fun b hb => List.mem_append_left _ (List.mem_cons_of_mem _ hb), fun vs' ss' cs q1 q2 q3 q4 => ?_⟩
        have ta : ∀ b ∈ as, b ≠ a := fun b hb z => n'.2.2 a List.mem_cons_self b hb z.symm
        refine ⟨(a :: cs) ++ as, .so (.v (.ow p upd_same (OwAll.mono (Same.refl _) _ _ _ q1 fun b hb => ⟨(q1.at _ _ _ b hb).1, upd_ne fun z => q2 (z ▸ hb)⟩))) (t.mono (Same.refl _) fun b hb => ⟨(t.at b hb).1, upd_ne (ta b hb)⟩), ?_, ?_⟩
        · refine List.nodup_append.mpr ⟨List.nodup_cons.mpr ⟨q2, q3⟩, n'.2.1, fun x hx y hy z => ?_⟩
          subst z
          rcases List.mem_cons.mp hx with z | z
          · exact ta x hy z
          · rcases q4 x z with w | w
            · exact n'.2.2 x (List.mem_cons_of_mem _ w) x hy rfl
            · exact w (List.mem_append_right _ hy)
        · intro b hb
          rcases List.mem_append.mp hb with z | z
          · rcases List.mem_cons.mp z with w | w
            · exact .inl (by rw [w]; exact List.mem_append_left _ List.mem_cons_self)
            · exact .inr w
          · exact .inl (List.mem_append_right _ z)
  | _, _, _, i + 1, _, .so (bs := hs) (as := as) h t, n, e => by
    have n' := List.nodup_append.mp n
    obtain ⟨a, vs, bs, h1, h2, h3, h4, h5, h6, h7, h8, h9⟩ := OwEn.mut (i := i) t n'.2.1 (by simpa using e)
    refine ⟨a, vs, bs, by simpa using h1, h2, h3, h4, List.mem_append_right _ h5, h6, h7, fun b hb => List.mem_append_right _ (h8 b hb), fun vs' ss' cs q1 q2 q3 q4 => ?_⟩
    obtain ⟨ds, r1, r2, r3⟩ := h9 vs' ss' cs q1 q2 q3 fun b hb => (q4 b hb).imp id fun z w => z (List.mem_append_right _ w)
    have ha : ∀ b ∈ hs, b ≠ a := fun b hb z => n'.2.2 b hb a h5 z
    refine ⟨hs ++ ds, .so (h.mono (Same.refl _) fun b hb => ⟨(h.at b hb).1, upd_ne (ha b hb)⟩) r1, List.nodup_append.mpr ⟨n'.1, r2, fun x hx y hy z => ?_⟩, fun b hb => ?_⟩
    · subst z
      rcases r3 x hy with w | w
      · exact n'.2.2 x hx x w rfl
      · rcases q4 x w with u | u
        · exact n'.2.2 x hx x (h8 x u) rfl
        · exact u (List.mem_append_left _ hx)
    · rcases List.mem_append.mp hb with z | z
      · exact .inl (List.mem_append_left _ z)
      · exact (r3 b z).imp (List.mem_append_right _) id
theorem Same.upd {F H : Hp} (h : Same F H) (p : Addr) (o : HO) (nf : F p = none) : Same (L2.upd F p o) (L2.upd H p o) := ⟨fun b u e hn => by
  by_cases hb : b = p
  · subst hb; rw [upd_same] at e ⊢; exact e
  · rw [upd_ne hb] at e ⊢; exact h.k _ _ e hn, fun b ps e => by
  by_cases hb : b = p
  · subst hb; rw [upd_same] at e ⊢; exact ⟨#[], by rw [Array.append_empty]; exact e, by rw [Array.append_empty]; exact id⟩
  · rw [upd_ne hb] at e ⊢; exact h.t _ _ e⟩
theorem Same.updR {F H : Hp} (h : Same F H) (p : Addr) (o : HO) (nf : F p = none) : Same F (L2.upd H p o) := ⟨fun b u e hn => by
  rw [upd_ne (fun z => by rw [z, nf] at e; cases e)]; exact h.k _ _ e hn, fun b ps e => by
  rw [upd_ne (fun z => by rw [z, nf] at e; cases e)]; exact h.t _ _ e⟩
theorem BSame.updR [Tabs] {F H : Hp} (h : BSame F H) (p : Addr) (o : HO) (nf : F p = none) : BSame F (L2.upd H p o) := ⟨h.s.updR p o nf, h.tg⟩
theorem Same.mixF {F H : Hp} {as : List Addr} (hn : ∀ a ∈ as, F a = none) : Same F (fun a => if a ∈ as then H a else F a) := .of fun a u e => by
  have h : a ∉ as := fun z => by rw [hn a z] at e; cases e
  show (if a ∈ as then H a else F a) = some u
  rw [if_neg h]; exact e
theorem Same.mixH {F H : Hp} {as : List Addr} (h : Same F H) : Same (fun a => if a ∈ as then H a else F a) H := ⟨fun a u e hn => by
  split at e
  · exact e
  · exact h.k a u e hn, fun a ps e => by
  split at e
  · exact ⟨#[], by rw [Array.append_empty]; exact e, by rw [Array.append_empty]; exact id⟩
  · exact h.t a ps e⟩
variable [Tabs]
/-- B: the heap at the entry; F: what may be shared; H: the heap now -/
structure Rel (K : PySem.W.Frag) (B F H : Hp) (env : En) (σ : L2.St) : Prop where
  bh : BSame B H
  fh : Same F H
  sl : ∃ as, OwEn K F H σ env as ∧ as.Nodup ∧ ∀ a ∈ as, B a = none
/-- behind an expression: nothing of what was is changed; what is shared anew is new -/
structure After (F H F' H' : Hp) : Prop where
  ff : Same F F'
  fh : Same F' H'
  hh : Same H H'
  nw : ∀ a o, F' a = some o → F a = none → H a = none
theorem After.refl {F H : Hp} (h : Same F H) : After F H F H := ⟨Same.refl _, h, Same.refl _, fun a o e n => by rw [n] at e; cases e⟩
theorem After.trans {F H F1 H1 F2 H2 : Hp} (a : After F H F1 H1) (b : After F1 H1 F2 H2) : After F H F2 H2 :=
  ⟨a.ff.trans b.ff, b.fh, a.hh.trans b.hh, fun x o e n => by
    cases q : F1 x with
    | some u => exact a.nw x u q n
    | none => exact a.hh.free (b.nw x o e q)⟩
theorem After.keepO {F H F' H' : Hp} (x : After F H F' H') {a : Addr} (h : F a = none ∧ ∃ o, H a = some o ∧ noTb o = true) : F' a = none ∧ H' a = H a := by
  obtain ⟨h1, o, h2, h3⟩ := h
  refine ⟨?_, (x.hh _ _ h2 h3).trans h2.symm⟩
  cases q : F' a with
  | none => rfl
  | some u =>
    have := x.nw a u q h1
    rw [h2] at this; cases this
theorem Rel.after {K : PySem.W.Frag} {B F H F' H' : Hp} {env : En} {σ : L2.St} (r : Rel K B F H env σ) (x : After F H F' H') : Rel K B F' H' env σ := by
  obtain ⟨as, h1, h2, h3⟩ := r.sl
  exact ⟨r.bh.trans x.hh, x.fh, as, h1.mono x.ff fun a ha => x.keepO (h1.at a ha), h2, h3⟩
/-- a new object -/
theorem After.new {F H : Hp} (h : Same F H) {p : Addr} {o : HO} (n : H p = none) : After F H (upd F p o) (upd H p o) := by
  have nf : F p = none := h.free n
  refine ⟨.of fun b u e => ?_, h.upd p o nf, .of fun b u e => ?_, fun b u e q => ?_⟩
  · rw [upd_ne (ne_of_none e nf)]; exact e
  · rw [upd_ne (ne_of_none e n)]; exact e
  · by_cases hb : b = p
    · subst hb; exact n
    · rw [upd_ne hb] at e
      rw [q] at e; cases e
/-- a new object that is not shared -/
theorem After.newO {F H : Hp} (h : Same F H) {p : Addr} {o : HO} (n : H p = none) : After F H F (upd H p o) := by
  have hh : Same H (upd H p o) := .of fun b u e => by rw [upd_ne (ne_of_none e n)]; exact e
  exact ⟨Same.refl _, h.trans hh, hh, fun b u e q => by rw [q] at e; cases e⟩
end DL
namespace DL
open PySem PySem.Spec PyProof.Rows L2
variable [Tabs]
/-- how an answer is known: f, it may be shared; q, a list whose items may be; h, by the heap as it stands -/
inductive Md where | f | q | h
def Rp (K : PySem.W.Frag) (m : Md) (F H : Hp) (v : V) (d : D) : Prop := match m with
  | .f => Dp K F v d
  | .q => Dp K F v d ∨ ∃ a vs ds, v = .ref a ∧ d = .list ds ∧ SqL K H a vs ∧ DpAll K F vs ds
  | .h => Dp K H v d
section
variable {K : PySem.W.Frag} {F H F' H' : Hp} {v : V} {d : D}
theorem Rp.after {m : Md} (r : Rp K m F H v d) (x : After F H F' H') : Rp K m F' H' v d := by
  cases m with
  | f => exact Dp.mono x.ff _ _ r
  | q =>
    rcases r with r | ⟨a, vs, ds, e1, e2, h1, h2⟩
    · exact .inl (Dp.mono x.ff _ _ r)
    · exact .inr ⟨a, vs, ds, e1, e2, x.hh.seq h1, DpAll.mono x.ff _ _ h2⟩
  | h => exact Dp.mono x.hh _ _ r
theorem Rp.toH {m : Md} (r : Rp K m F H v d) (s : Same F H) : Dp K H v d := by
  cases m with
  | f => exact Dp.mono s _ _ r
  | q =>
    rcases r with r | ⟨a, vs, ds, e1, e2, h1, h2⟩
    · exact Dp.mono s _ _ r
    · subst e1; subst e2
      exact .lst h1 (DpAll.mono s _ _ h2)
  | h => exact r
theorem Rp.ofF {m : Md} (r : Dp K F v d) (s : Same F H) : Rp K m F H v d := by
  cases m with
  | f => exact r
  | q => exact .inl r
  | h => exact Dp.mono s _ _ r
def sca : D → Bool
  | .none | .bool _ | .int _ | .str _ => true
  | _ => false
theorem Dp.ofSca (h : sca d = true) (r : Dp K F v d) : Dp K F' v d := by
  cases r with
  | non => exact .non
  | bl b => exact .bl b
  | int i => exact .int i
  | str x => exact .str x
  | lst _ _ => cases h
  | tup _ _ => cases h
theorem Rp.sc {m m' : Md} (h : sca d = true) (r : Rp K m F H v d) : Rp K m' F' H' v d := by
  have z : ∃ G, Dp K G v d := by
    cases m with
    | f => exact ⟨_, r⟩
    | q =>
      rcases r with r | ⟨a, vs, ds, e1, e2, h1, h2⟩
      · exact ⟨_, r⟩
      · subst e2; cases h
    | h => exact ⟨_, r⟩
  obtain ⟨G, z⟩ := z
  cases m' with
  | f => exact Dp.ofSca h z
  | q => exact .inl (Dp.ofSca h z)
  | h => exact Dp.ofSca h z
theorem Rp.int {m : Md} (i : Int) : Rp K m F H (.int i) (.int i) := Rp.sc (m := .f) (F := F) (H := H) rfl (Dp.int i)
theorem Rp.bl {m : Md} (i : Bool) : Rp K m F H (.bl i) (.bool i) := Rp.sc (m := .f) (F := F) (H := H) rfl (Dp.bl i)
theorem Rp.str {m : Md} (i : Str) : Rp K m F H (.str i) (.str i) := Rp.sc (m := .f) (F := F) (H := H) rfl (Dp.str i)
theorem Rp.non {m : Md} : Rp K m F H .non .none := Rp.sc (m := .f) (F := F) (H := H) rfl Dp.non
theorem Rp.intI {m : Md} {i : Int} (r : Rp K m F H v (.int i)) : v = .int i := by
  have z : Dp K F v (.int i) := Rp.sc (m := m) (m' := .f) (F := F) (H := H) (F' := F) (H' := H) rfl r
  cases z; rfl
theorem Rp.blI {m : Md} {i : Bool} (r : Rp K m F H v (.bool i)) : v = .bl i := by
  have z : Dp K F v (.bool i) := Rp.sc (m := m) (m' := .f) (F := F) (H := H) (F' := F) (H' := H) rfl r
  cases z; rfl
theorem Rp.strI {m : Md} {i : Str} (r : Rp K m F H v (.str i)) : v = .str i := by
  have z : Dp K F v (.str i) := Rp.sc (m := m) (m' := .f) (F := F) (H := H) (F' := F) (H' := H) rfl r
  cases z; rfl
theorem Rp.nonI {m : Md} (r : Rp K m F H v .none) : v = .non := by
  have z : Dp K F v .none := Rp.sc (m := m) (m' := .f) (F := F) (H := H) (F' := F) (H' := H) rfl r
  cases z; rfl
/-- the items of a list or tuple, of mode f or q -/
theorem Rp.items {m : Md} {ds : List D} (hm : m ≠ .h) (r : Rp K m F H v (.list ds)) (s : Same F H) : ∃ a vs, v = .ref a ∧ SqL K H a vs ∧ DpAll K F vs ds := by
  cases m with
  | f => cases r with | lst a b => exact ⟨_, _, rfl, s.seq a, b⟩
  | q =>
    rcases r with r | ⟨a, vs, ds, e1, e2, h1, h2⟩
    · cases r with | lst a b => exact ⟨_, _, rfl, s.seq a, b⟩
    · cases e2; exact ⟨_, _, e1, h1, h2⟩
  | h => exact absurd rfl hm
theorem Rp.itemsT {m : Md} {ds : List D} (hm : m ≠ .h) (r : Rp K m F H v (.tuple ds)) (s : Same F H) : ∃ a vs, v = .ref a ∧ SqT K H a vs ∧ DpAll K F vs ds := by
  cases m with
  | f => cases r with | tup a b => exact ⟨_, _, rfl, SqT.same s a, b⟩
  | q =>
    rcases r with r | ⟨a, vs, ds, e1, e2, h1, h2⟩
    · cases r with | tup a b => exact ⟨_, _, rfl, SqT.same s a, b⟩
    · cases e2
  | h => exact absurd rfl hm
end
inductive RpL (K : PySem.W.Frag) (F H : Hp) : List Md → List V → List D → Prop
  | nil : RpL K F H [] [] []
  | cons {m : Md} {v : V} {d : D} {ms : List Md} {vs : List V} {ds : List D} : Rp K m F H v d → RpL K F H ms vs ds → RpL K F H (m :: ms) (v :: vs) (d :: ds)
theorem RpL.after {K : PySem.W.Frag} {F H F' H' : Hp} {ms : List Md} {vs : List V} {ds : List D} (r : RpL K F H ms vs ds) (x : After F H F' H') : RpL K F' H' ms vs ds := by
  induction r with
  | nil => exact .nil
  | cons a _ ih => exact .cons (a.after x) ih

section
variable (K : PySem.W.Frag) (ec : Str → Value) (W : WX) (m : Md) (F H : Hp) (σ : L2.St)
/-- what an outcome asks of what follows -/
def PoE (Q : VK) : R D → Prop
  | .ok d => ∀ v H' F', After F H F' H' → Rp K m F' H' v d → Q v H'
  | .er c => ∀ H' F', After F H F' H' → W (ec c) none σ H'
  | .no => False
def PoT (Q : Bool → Hp → Prop) : R Bool → Prop
  | .ok b => ∀ H' F', After F H F' H' → Q b H'
  | .er c => ∀ H' F', After F H F' H' → W (ec c) none σ H'
  | .no => False
def PoA (ms : List Md) (Q : List V → Hp → Prop) : R (List D) → Prop
  | .ok ds => ∀ vs H' F', After F H F' H' → RpL K F' H' ms vs ds → Q vs H'
  | .er c => ∀ H' F', After F H F' H' → W (ec c) none σ H'
  | .no => False
/-- a fresh value: its own lists are new and not shared -/
def PoO (Q : VK) : R S → Prop
  | .ok s => ∀ v H' F' as, After F H F' H' → Ow K F' H' v s as → as.Nodup → (∀ a ∈ as, H a = none) → Q v H'
  | .er c => ∀ H' F', After F H F' H' → W (ec c) none σ H'
  | .no => False
end
section
variable {K : PySem.W.Frag} {ec : Str → Value} {W : WX} {m m' : Md} {F H F' H' : Hp} {σ : L2.St}
theorem PoE.after {Q : VK} {r : R D} (p : PoE K ec W m F H σ Q r) (x : After F H F' H') : PoE K ec W m F' H' σ Q r := by
  cases r with
  | ok d => exact fun v H2 F2 a r => p v H2 F2 (x.trans a) r
  | er c => exact fun H2 F2 a => p H2 F2 (x.trans a)
  | no => exact p
theorem PoT.after {Q : Bool → Hp → Prop} {r : R Bool} (p : PoT ec W F H σ Q r) (x : After F H F' H') : PoT ec W F' H' σ Q r := by
  cases r with
  | ok d => exact fun H2 F2 a => p H2 F2 (x.trans a)
  | er c => exact fun H2 F2 a => p H2 F2 (x.trans a)
  | no => exact p
theorem PoA.after {ms : List Md} {Q : List V → Hp → Prop} {r : R (List D)} (p : PoA K ec W F H σ ms Q r) (x : After F H F' H') : PoA K ec W F' H' σ ms Q r := by
  cases r with
  | ok d => exact fun v H2 F2 a r => p v H2 F2 (x.trans a) r
  | er c => exact fun H2 F2 a => p H2 F2 (x.trans a)
  | no => exact p
theorem PoO.after {Q : VK} {r : R S} (p : PoO K ec W F H σ Q r) (x : After F H F' H') : PoO K ec W F' H' σ Q r := by
  cases r with
  | ok s => exact fun v H2 F2 as a o n fr => p v H2 F2 as (x.trans a) o n fun b hb => x.hh.free (fr b hb)
  | er c => exact fun H2 F2 a => p H2 F2 (x.trans a)
  | no => exact p
end

section
variable (K : PySem.W.Frag) (ec : Str → Value) (W : WX) (m : Md)
def tD (f : En → R D) : TE := fun σ H Q => ∃ B F env, Rel K B F H env σ ∧ PoE K ec W m F H σ Q (f env)
def tT (f : En → R Bool) : TT := fun σ H Q => ∃ B F env, Rel K B F H env σ ∧ PoT ec W F H σ Q (f env)
def tA (ms : List Md) (f : En → R (List D)) : TA := fun σ H Q => ∃ B F env, Rel K B F H env σ ∧ PoA K ec W F H σ ms Q (f env)
def tO (f : En → R S) : TE := fun σ H Q => ∃ B F env, Rel K B F H env σ ∧ PoO K ec W F H σ Q (f env)
end
def ecOf (mg : Str → Option Value) : Str → Value := fun c => (mg c).getD .none
/-- expressions: e answers f of the slots -/
def DE (X : Cx) (W : WX) (m : Md) (e : Expr) (f : En → R D) : Prop := PE X e (tD X.K (ecOf X.mg) W m f)
def DT (X : Cx) (W : WX) (e : Expr) (f : En → R Bool) : Prop := PT X e (tT X.K (ecOf X.mg) W f)
def DA (X : Cx) (W : WX) (ms : List Md) (es : List Expr) (f : En → R (List D)) : Prop := PA X es (tA X.K (ecOf X.mg) W ms f)
def DO (X : Cx) (W : WX) (e : Expr) (f : En → R S) : Prop := PE X e (tO X.K (ecOf X.mg) W f)
theorem _root_.L2.PE.wk {X : Cx} {e : Expr} {t t' : TE} (h : PE X e t) (k : ∀ σ H Q, t' σ H Q → t σ H Q) : PE X e t' := ⟨fun pins s σ H Q I q => h.run pins s σ H Q I (k _ _ _ q)⟩
theorem _root_.L2.PT.wk {X : Cx} {e : Expr} {t t' : TT} (h : PT X e t) (k : ∀ σ H Q, t' σ H Q → t σ H Q) : PT X e t' := ⟨fun pins s σ H Q I q => h.run pins s σ H Q I (k _ _ _ q)⟩
theorem _root_.L2.PA.wk {X : Cx} {e : List Expr} {t t' : TA} (h : PA X e t) (k : ∀ σ H Q, t' σ H Q → t σ H Q) : PA X e t' := ⟨fun pos pins s σ H Q I q => h.run pos pins s σ H Q I (k _ _ _ q)⟩

section
variable {X : Cx} {W : WX} {m m1 m2 : Md} {pos : Pos} {j : Nat}
/-- from a part's rule: what follows a bind -/
theorem tD.bind {K : PySem.W.Frag} {ec : Str → Value} {B F H : Hp} {env : En} {σ : L2.St} {f : En → R D} {k : D → R D} {Q : VK} (r : Rel K B F H env σ) (p : PoE K ec W m F H σ Q ((f env).bind k))
    {Q' : VK} (h : ∀ v H' F' d, After F H F' H' → Rel K B F' H' env σ → Rp K m1 F' H' v d → PoE K ec W m F' H' σ Q (k d) → Q' v H') : tD K ec W m1 f σ H Q' := by
  refine ⟨B, F, env, r, ?_⟩
  cases e : f env with
  | ok d => rw [e] at p; exact fun v H' F' a q => h v H' F' d a (r.after a) q (PoE.after (r := k d) p a)
  | er c => rw [e] at p; exact p
  | no => rw [e] at p; exact p
theorem tD.bindT {K : PySem.W.Frag} {ec : Str → Value} {B F H : Hp} {env : En} {σ : L2.St} {f : En → R D} {k : D → R Bool} {Q : Bool → Hp → Prop} (r : Rel K B F H env σ) (p : PoT ec W F H σ Q ((f env).bind k))
    {Q' : VK} (h : ∀ v H' F' d, After F H F' H' → Rel K B F' H' env σ → Rp K m1 F' H' v d → PoT ec W F' H' σ Q (k d) → Q' v H') : tD K ec W m1 f σ H Q' := by
  refine ⟨B, F, env, r, ?_⟩
  cases e : f env with
  | ok d => rw [e] at p; exact fun v H' F' a q => h v H' F' d a (r.after a) q (PoT.after (r := k d) p a)
  | er c => rw [e] at p; exact p
  | no => rw [e] at p; exact p
theorem tD.bindA {K : PySem.W.Frag} {ec : Str → Value} {B F H : Hp} {env : En} {σ : L2.St} {f : En → R D} {k : D → R (List D)} {ms : List Md} {Q : List V → Hp → Prop} (r : Rel K B F H env σ) (p : PoA K ec W F H σ ms Q ((f env).bind k))
    {Q' : VK} (h : ∀ v H' F' d, After F H F' H' → Rel K B F' H' env σ → Rp K m1 F' H' v d → PoA K ec W F' H' σ ms Q (k d) → Q' v H') : tD K ec W m1 f σ H Q' := by
  refine ⟨B, F, env, r, ?_⟩
  cases e : f env with
  | ok d => rw [e] at p; exact fun v H' F' a q => h v H' F' d a (r.after a) q (PoA.after (r := k d) p a)
  | er c => rw [e] at p; exact p
  | no => rw [e] at p; exact p
theorem tT.bind {K : PySem.W.Frag} {ec : Str → Value} {B F H : Hp} {env : En} {σ : L2.St} {f : En → R Bool} {k : Bool → R D} {Q : VK} (r : Rel K B F H env σ) (p : PoE K ec W m F H σ Q ((f env).bind k))
    {Q' : Bool → Hp → Prop} (h : ∀ b H' F', After F H F' H' → Rel K B F' H' env σ → PoE K ec W m F' H' σ Q (k b) → Q' b H') : tT K ec W f σ H Q' := by
  refine ⟨B, F, env, r, ?_⟩
  cases e : f env with
  | ok d => rw [e] at p; exact fun H' F' a => h d H' F' a (r.after a) (PoE.after (r := k d) p a)
  | er c => rw [e] at p; exact p
  | no => rw [e] at p; exact p
theorem tT.bindT {K : PySem.W.Frag} {ec : Str → Value} {B F H : Hp} {env : En} {σ : L2.St} {f : En → R Bool} {k : Bool → R Bool} {Q : Bool → Hp → Prop} (r : Rel K B F H env σ) (p : PoT ec W F H σ Q ((f env).bind k))
    {Q' : Bool → Hp → Prop} (h : ∀ b H' F', After F H F' H' → Rel K B F' H' env σ → PoT ec W F' H' σ Q (k b) → Q' b H') : tT K ec W f σ H Q' := by
  refine ⟨B, F, env, r, ?_⟩
  cases e : f env with
  | ok d => rw [e] at p; exact fun H' F' a => h d H' F' a (r.after a) (PoT.after (r := k d) p a)
  | er c => rw [e] at p; exact p
  | no => rw [e] at p; exact p
theorem tA.bind {K : PySem.W.Frag} {ec : Str → Value} {B F H : Hp} {env : En} {σ : L2.St} {f : En → R (List D)} {ms : List Md} {k : List D → R D} {Q : VK} (r : Rel K B F H env σ) (p : PoE K ec W m F H σ Q ((f env).bind k))
    {Q' : List V → Hp → Prop} (h : ∀ vs H' F' ds, After F H F' H' → Rel K B F' H' env σ → RpL K F' H' ms vs ds → PoE K ec W m F' H' σ Q (k ds) → Q' vs H') : tA K ec W ms f σ H Q' := by
  refine ⟨B, F, env, r, ?_⟩
  cases e : f env with
  | ok d => rw [e] at p; exact fun v H' F' a q => h v H' F' d a (r.after a) q (PoE.after (r := k d) p a)
  | er c => rw [e] at p; exact p
  | no => rw [e] at p; exact p
theorem tA.bindO {K : PySem.W.Frag} {ec : Str → Value} {B F H : Hp} {env : En} {σ : L2.St} {f : En → R (List D)} {ms : List Md} {k : List D → R S} {Q : VK} (r : Rel K B F H env σ) (p : PoO K ec W F H σ Q ((f env).bind k))
    {Q' : List V → Hp → Prop} (h : ∀ vs H' F' ds, After F H F' H' → Rel K B F' H' env σ → RpL K F' H' ms vs ds → PoO K ec W F' H' σ Q (k ds) → Q' vs H') : tA K ec W ms f σ H Q' := by
  refine ⟨B, F, env, r, ?_⟩
  cases e : f env with
  | ok d => rw [e] at p; exact fun v H' F' a q => h v H' F' d a (r.after a) q (PoO.after (r := k d) p a)
  | er c => rw [e] at p; exact p
  | no => rw [e] at p; exact p
theorem tD.bindO {K : PySem.W.Frag} {ec : Str → Value} {B F H : Hp} {env : En} {σ : L2.St} {f : En → R D} {k : D → R S} {Q : VK} (r : Rel K B F H env σ) (p : PoO K ec W F H σ Q ((f env).bind k))
    {Q' : VK} (h : ∀ v H' F' d, After F H F' H' → Rel K B F' H' env σ → Rp K m1 F' H' v d → PoO K ec W F' H' σ Q (k d) → Q' v H') : tD K ec W m1 f σ H Q' := by
  refine ⟨B, F, env, r, ?_⟩
  cases e : f env with
  | ok d => rw [e] at p; exact fun v H' F' a q => h v H' F' d a (r.after a) q (PoO.after (r := k d) p a)
  | er c => rw [e] at p; exact p
  | no => rw [e] at p; exact p

/-! ### constants and names -/
theorem de_int {i : Int} : DE X W m (.Constant (.int i) j pos) (fun _ => .ok (.int i)) := pe_int.wk fun σ H Q ⟨B, F, env, r, p⟩ => p _ _ _ (After.refl r.fh) (Rp.int i)
theorem de_bl {i : Bool} : DE X W m (.Constant (.bool i) j pos) (fun _ => .ok (.bool i)) := pe_bl.wk fun σ H Q ⟨B, F, env, r, p⟩ => p _ _ _ (After.refl r.fh) (Rp.bl i)
theorem de_str {i : Str} : DE X W m (.Constant (.str i) j pos) (fun _ => .ok (.str i)) := pe_str.wk fun σ H Q ⟨B, F, env, r, p⟩ => p _ _ _ (After.refl r.fh) (Rp.str i)
theorem de_non : DE X W m (.Constant .none j pos) (fun _ => .ok .none) := pe_non.wk fun σ H Q ⟨B, F, env, r, p⟩ => p _ _ _ (After.refl r.fh) Rp.non
def vf (i : Nat) (env : En) : R D := match env[i]? with
  | some (some (.v (.fr d))) => .ok d
  | _ => .no
def allF : List S → Option (List D)
  | [] => some []
  | .fr d :: ss => (allF ss).map (d :: ·)
  | .ow _ :: _ => none
  | .tu _ :: _ => none
theorem OwAll.allF {K : PySem.W.Frag} {F H : Hp} : ∀ {vs : List V} {ss : List S} {as : List Addr} {ds : List D}, OwAll K F H vs ss as → DL.allF ss = some ds → DpAll K F vs ds
  | _, [], _, _, .nil, e => by cases e; exact .nil
  | _, .fr d :: ss, _, ds, .cons a t, e => by
    cases a with
    | fr a =>
      rw [DL.allF] at e
      cases q : DL.allF ss with
      | none => rw [q] at e; cases e
      | some es => rw [q] at e; cases e; exact .cons a (OwAll.allF t q)
  | _, .ow _ :: _, _, _, _, e => by cases e
def vq (i : Nat) (env : En) : R D := match env[i]? with
  | some (some (.v (.fr d))) => .ok d
  | some (some (.v (.ow ss))) => match allF ss with
    | some ds => .ok (.list ds)
    | none => .no
  | _ => .no
def vh (i : Nat) (env : En) : R D := match env[i]? with
  | some (some (.v s)) => .ok s.toD
  | _ => .no
theorem de_var {x : Str} (i : Nat) (hN : X.N[i]? = some x := by rfl) (hv : Vis X.env.scope x := by first | exact Or.inl rfl | exact Or.inr (Or.inl rfl) | exact Or.inr (Or.inr rfl)) (hd : (x == ("__debug__" : Str)) = false := by decide)
    (hcd : (x == ("__classdict__" : Str)) = false := by decide) : DE X W .f (.Name x pos) (vf i) := (pe_var hN hv hd hcd).wk fun σ H Q ⟨B, F, env, r, p⟩ => by
  unfold vf at p
  split at p
  · rename_i d e
    obtain ⟨as, h1, _, _⟩ := r.sl
    obtain ⟨v, bs, q1, q2, _⟩ := h1.get e
    cases q2 with
    | v q2 => cases q2 with | fr q2 => exact ⟨v, q1, p v H F (After.refl r.fh) q2⟩
  · exact p.elim
theorem de_varq {x : Str} (i : Nat) (hN : X.N[i]? = some x := by rfl) (hv : Vis X.env.scope x := by first | exact Or.inl rfl | exact Or.inr (Or.inl rfl) | exact Or.inr (Or.inr rfl)) (hd : (x == ("__debug__" : Str)) = false := by decide)
    (hcd : (x == ("__classdict__" : Str)) = false := by decide) : DE X W .q (.Name x pos) (vq i) := (pe_var hN hv hd hcd).wk fun σ H Q ⟨B, F, env, r, p⟩ => by
  unfold vq at p
  obtain ⟨as, h1, _, _⟩ := r.sl
  split at p
  · rename_i d e
    obtain ⟨v, bs, q1, q2, _⟩ := h1.get e
    cases q2 with
    | v q2 => cases q2 with | fr q2 => exact ⟨v, q1, p v H F (After.refl r.fh) (.inl q2)⟩
  · rename_i ss e
    obtain ⟨v, bs, q1, q2, _⟩ := h1.get e
    split at p
    · rename_i ds e2
      cases q2 with
      | v q2 =>
        cases q2 with
        | ow a b c => exact ⟨_, q1, p _ H F (After.refl r.fh) (.inr ⟨_, _, _, rfl, rfl, SqL.of b, c.allF e2⟩)⟩
    · exact p.elim
  · exact p.elim
theorem de_varh {x : Str} (i : Nat) (hN : X.N[i]? = some x := by rfl) (hv : Vis X.env.scope x := by first | exact Or.inl rfl | exact Or.inr (Or.inl rfl) | exact Or.inr (Or.inr rfl)) (hd : (x == ("__debug__" : Str)) = false := by decide)
    (hcd : (x == ("__classdict__" : Str)) = false := by decide) : DE X W .h (.Name x pos) (vh i) := (pe_var hN hv hd hcd).wk fun σ H Q ⟨B, F, env, r, p⟩ => by
  unfold vh at p
  obtain ⟨as, h1, _, _⟩ := r.sl
  split at p
  · rename_i s e
    obtain ⟨v, bs, q1, q2, _⟩ := h1.get e
    cases q2 with
    | v q2 => exact ⟨v, q1, p v H F (After.refl r.fh) (q2.dp r.fh _ _ _ fun _ _ => rfl)⟩
  · exact p.elim
/-- a weaker mode -/
theorem de_up {e : Expr} {f : En → R D} (h : DE X W .f e f) : DE X W m e f := h.wk fun σ H Q ⟨B, F, env, r, p⟩ => ⟨B, F, env, r, by
  cases q : f env with
  | ok d => rw [q] at p; exact fun v H' F' a z => p v H' F' a (Rp.ofF z a.fh)
  | er c => rw [q] at p; exact p
  | no => rw [q] at p; exact p⟩
theorem de_qh {e : Expr} {f : En → R D} (h : DE X W .q e f) : DE X W .h e f := h.wk fun σ H Q ⟨B, F, env, r, p⟩ => ⟨B, F, env, r, by
  cases q : f env with
  | ok d => rw [q] at p; exact fun v H' F' a z => p v H' F' a (Rp.toH z a.fh)
  | er c => rw [q] at p; exact p
  | no => rw [q] at p; exact p⟩
/-- a module's constant -/
theorem de_glob {x : Str} {u : Value} {v : V} {d : D} (hg : Gl X x) (hm : X.mg x = some u) (r : RelV v u) (hd : ∀ F, Dp X.K F v d) (hdb : (x == ("__debug__" : Str)) = false := by decide) : DE X W m (.Name x pos) (fun _ => .ok d) :=
  (pe_glob hg hm r hdb).wk fun σ H Q ⟨B, F, env, r, p⟩ => p v H F (After.refl r.fh) (Rp.ofF (hd F) r.fh)

/-! ### operators -/
/-- a rule of values, and what it is of data -/
def Op2 (K : PySem.W.Frag) (r : R2) (m1 m2 m : Md) (g : D → D → R D) : Prop := ∀ (ec : Str → Value) (W : WX) (σ : L2.St) (F H : Hp) (x y : V) (d e : D) (Q : VK), Same F H → Rp K m1 F H x d → Rp K m2 F H y e → (∀ c, g d e ≠ .er c) → PoE K ec W m F H σ Q (g d e) → r x y H Q
theorem de_bin {op : Operator} {r : R2} {a b : Expr} {fa fb : En → R D} {g : D → D → R D} (ho : OpR X (binaryOp op) r) (hg : Op2 X.K r m1 m2 m g) (he : ∀ d e c, g d e ≠ .er c) (ha : DE X W m1 a fa) (hb : DE X W m2 b fb) :
    DE X W m (.BinOp a op b pos) (fun env => (fa env).bind fun x => (fb env).bind fun y => g x y) :=
  (pe_op ho ha hb).wk fun σ H Q ⟨B, F, env, r, p⟩ => tD.bind r p fun v H1 F1 d a1 r1 q1 p1 => tD.bind r1 p1 fun u H2 F2 e a2 r2 q2 p2 => hg _ _ _ F2 H2 v u d e Q r2.fh (q1.after a2) q2 (he d e) p2
theorem de_cmp {op : CmpOp} {r : R2} {a b : Expr} {fa fb : En → R D} {g : D → D → R D} (ho : OpR X (compareOp op) r) (hg : Op2 X.K r m1 m2 m g) (he : ∀ d e c, g d e ≠ .er c) (ha : DE X W m1 a fa) (hb : DE X W m2 b fb) (hm : behindInMarks op b = false) :
    DE X W m (.Compare a [op] [b] pos) (fun env => (fa env).bind fun x => (fb env).bind fun y => g x y) :=
  (pe_cmpR ho ha hb hm).wk fun σ H Q ⟨B, F, env, r, p⟩ => tD.bind r p fun v H1 F1 d a1 r1 q1 p1 => tD.bind r1 p1 fun u H2 F2 e a2 r2 q2 p2 => hg _ _ _ F2 H2 v u d e Q r2.fh (q1.after a2) q2 (he d e) p2
theorem dt_cmp {op : CmpOp} {r : R2} {a b : Expr} {fa fb : En → R D} {g : D → D → R D} (ho : OpR X (compareOp op) r) (hg : Op2 X.K r m1 m2 .f g) (he : ∀ d e c, g d e ≠ .er c) (ha : DE X W m1 a fa) (hb : DE X W m2 b fb) (hm : behindInMarks op b = false) :
    DT X W (.Compare a [op] [b] pos) (fun env => (fa env).bind fun x => (fb env).bind fun y => (g x y).bind fun z => match z with | .bool k => .ok k | _ => .no) :=
  (pt_cmpR ho ha hb hm).wk fun σ H Q ⟨B, F, env, r, p⟩ => tD.bindT r p fun v H1 F1 d a1 r1 q1 p1 => tD.bindT r1 p1 fun u H2 F2 e a2 r2 q2 p2 => hg (ecOf X.mg) W σ F2 H2 v u d e _ r2.fh (q1.after a2) q2 (he d e) (by
    cases z : g d e with
    | er c => exact absurd z (he d e c)
    | no => rw [z] at p2; exact p2
    | ok w =>
      rw [z] at p2
      intro v' H' F' a q
      cases w <;> first | exact p2.elim | skip
      rename_i k
      exact ⟨k, q.blI, p2 H' F' a⟩)
/-! ints -/
def i2 (f : Int → Int → R D) (x y : D) : R D := match x, y with
  | .int i, .int j => f i j
  | _, _ => .no
theorem i2_ne {f : Int → Int → R D} (h : ∀ i j c, f i j ≠ .er c) : ∀ d e c, i2 f d e ≠ .er c := fun d e c => by
  unfold i2
  split
  · exact h _ _ _
  · exact fun z => nomatch z
def gI (C : Int → Int → Prop) [∀ i j, Decidable (C i j)] (g : Int → Int → Int) : D → D → R D := i2 fun i j => if C i j then .ok (.int (g i j)) else .no
theorem gI_ne {C : Int → Int → Prop} [∀ i j, Decidable (C i j)] {g : Int → Int → Int} : ∀ d e c, gI C g d e ≠ .er c := i2_ne fun i j c => by split <;> exact fun z => nomatch z
theorem gI_op {K : PySem.W.Frag} {C : Int → Int → Prop} [∀ i j, Decidable (C i j)] {g : Int → Int → Int} : Op2 K (rI C fun i j => .int (g i j)) .h .h m (gI C g) := fun ec W σ F H x y d e Q s rx ry he p => by
  unfold gI i2 at p
  split at p
  · rename_i i j
    dsimp only at p
    split at p
    · rename_i hc
      exact ⟨i, j, rx.intI, ry.intI, hc, p _ _ _ (After.refl s) (Rp.int _)⟩
    · exact p.elim
  · exact p.elim
def gI0 (g : Int → Int → Int) : D → D → R D := i2 fun i j => .ok (.int (g i j))
theorem gI0_op {K : PySem.W.Frag} {g : Int → Int → Int} : Op2 K (rI0 fun i j => .int (g i j)) .h .h m (gI0 g) := fun ec W σ F H x y d e Q s rx ry he p => by
  unfold gI0 i2 at p
  split at p
  · rename_i i j
    exact ⟨i, j, rx.intI, ry.intI, p _ _ _ (After.refl s) (Rp.int _)⟩
  · exact p.elim
def gB0 (g : Int → Int → Bool) : D → D → R D := i2 fun i j => .ok (.bool (g i j))
theorem gB0_op {K : PySem.W.Frag} {g : Int → Int → Bool} : Op2 K (rI0 fun i j => .bl (g i j)) .h .h m (gB0 g) := fun ec W σ F H x y d e Q s rx ry he p => by
  unfold gB0 i2 at p
  split at p
  · rename_i i j
    exact ⟨i, j, rx.intI, ry.intI, p _ _ _ (After.refl s) (Rp.bl _)⟩
  · exact p.elim
end
end DL
namespace DL
open PySem PySem.Spec PyProof.Rows L2
variable [Tabs]
section
variable {X : Cx} {W : WX} {m m1 m2 : Md} {pos : Pos} {j : Nat} {a b : Expr} {fa fb : En → R D}

/-! ### + - * // % ** >> & of data -/
/-- list + list, both to be read -/
def rCatL (K : PySem.W.Frag) : R2 := fun x y H Q => ∃ l b xs zs, x = .ref l ∧ y = .ref b ∧ SqL K H l xs ∧ SqL K H b zs ∧ xs.length + zs.length ≤ sizeLine ∧ ∀ p, H p = none → Q (.ref p) (upd H p (.lst (xs ++ zs)))
theorem op_catL : OpR X (binaryOp .Add) (rCatL X.K) := by
  intro pins s σ H x y v u Q I rx ry h
  obtain ⟨l, b, xs, zs, rfl, rfl, hA, hB, hz, q⟩ := h
  cases rx
  cases ry
  obtain ⟨its, r1, p1, _⟩ := I.list hA
  obtain ⟨its2, r2, p2, _⟩ := I.list hB
  obtain ⟨⟨c1, d1, t1, s1⟩, n1, ho, hc, _, hd⟩ := p1
  obtain ⟨⟨c2, d2, t2, s2⟩, n2, ho2, hc2, _, hd2⟩ := p2
  simp only at hc hd hc2 hd2
  subst hc hd hc2 hd2
  have l1 := r1.length
  have l2 := r2.length
  have ez : its.toArray.size + its2.toArray.size ≤ sizeLine := by simp only [List.size_toArray]; omega
  refine concat_meets ⟨_, ho, rfl⟩ ⟨_, ho2, rfl⟩ noFill_list_add seq_list_add F.slot_list_add F.entry_list_add (F.args_list_add_2 _ _)
    (list_addW l b its.toArray its2.toArray n1 n2 d1 d2 s1 s2 ez) ⟨ho, ho2, ?_⟩
  have ea : its.toArray ++ its2.toArray = (its ++ its2).toArray := by simp
  rw [ea]
  exact ⟨.ref _, _, I.laid (t' := s.toks) (o := .lst (xs ++ zs)) (fun b ob q => Heap.get?_push_of_some _ q) (Nat.le_refl _) ⟨by rw [List.length_append]; exact hz, _, 0, r1.append r2, Heap.get?_push_size _ rfl⟩, rfl, q _ (I.hok.fresh (Nat.le_refl _))⟩
def addD (x y : D) : R D := match x, y with
  | .int i, .int j => .ok (.int (i + j))
  | .str x, .str y => if x.length + y.length ≤ sizeLine then .ok (.str (x ++ y)) else .no
  | .list x, .list y => if x.length + y.length ≤ sizeLine then .ok (.list (x ++ y)) else .no
  | .tuple x, .tuple y => if x.length + y.length ≤ sizeLine then .ok (.tuple (x ++ y)) else .no
  | _, _ => .no
def rAddA (K : PySem.W.Frag) : R2 := fun x y H Q => rI0 (fun i j => .int (i + j)) x y H Q ∨ (∃ i j, x = .str i ∧ y = .str j ∧ i.length + j.length ≤ sizeLine ∧ Q (.str (i ++ j)) H) ∨ rCatL K x y H Q ∨ rCatA K x y H Q
theorem op_addA : OpR X (binaryOp .Add) (rAddA X.K) := op_add.or (op_add_str.or (op_catL.or op_catA))
theorem addD_ne : ∀ d e c, addD d e ≠ .er c := fun d e c => by
  unfold addD
  repeat' split
  all_goals exact fun z => nomatch z
theorem addD_op {K : PySem.W.Frag} : Op2 K (rAddA K) .q .q .f addD := fun ec W σ F H x y d e Q s rx ry he p => by
  unfold addD at p
  split at p
  · rename_i i j
    exact .inl ⟨i, j, rx.intI, ry.intI, p _ _ _ (After.refl s) (.int _)⟩
  · rename_i i j
    split at p
    · rename_i hl
      exact .inr (.inl ⟨i, j, rx.strI, ry.strI, hl, p _ _ _ (After.refl s) (.str _)⟩)
    · exact p.elim
  · rename_i xs ys
    split at p
    · rename_i hl
      obtain ⟨a, vs, rfl, h1, h2⟩ := rx.items (by intro z; cases z) s
      obtain ⟨b, us, rfl, h3, h4⟩ := ry.items (by intro z; cases z) s
      have e1 := h2.len
      have e2 := h4.len
      exact .inr (.inr (.inl ⟨a, b, vs, us, rfl, rfl, h1, h3, by omega, fun q n => p _ _ _ (After.new s n) (.lst (SqL.of upd_same) (DpAll.mono (After.new s n).ff _ _ (h2.app h4)))⟩))
    · exact p.elim
  · rename_i xs ys
    split at p
    · rename_i hl
      have rx' := rx
      have ry' := ry
      obtain ⟨a, vs, rfl, h1, h2⟩ := rx.itemsT (by intro z; cases z) s
      obtain ⟨b, us, rfl, h3, h4⟩ := ry.itemsT (by intro z; cases z) s
      have e1 := h2.len
      have e2 := h4.len
      have dx : Dp K F (.ref a) (.tuple xs) := by
        rcases rx' with z | ⟨_, _, _, _, z, _⟩
        · exact z
        · cases z
      have dy : Dp K F (.ref b) (.tuple ys) := by
        rcases ry' with z | ⟨_, _, _, _, z, _⟩
        · exact z
        · cases z
      refine .inr (.inr (.inr ⟨a, b, vs, us, rfl, rfl, h1, h3, by omega, fun z => ?_, fun z1 z => ?_, fun z1 z2 q n => p _ _ _ (After.new s n) (.tup (SqT.of upd_same) (DpAll.mono (After.new s n).ff _ _ (h2.app h4)))⟩))
      · subst z
        have : xs = [] := by cases xs with | nil => rfl | cons _ _ => simp at e1
        subst this
        exact p _ _ _ (After.refl s) (by rw [List.nil_append]; exact dy)
      · subst z
        have : ys = [] := by cases ys with | nil => rfl | cons _ _ => simp at e2
        subst this
        exact p _ _ _ (After.refl s) (by rw [List.append_nil]; exact dx)
    · exact p.elim
  · exact p.elim
theorem de_add (ha : DE X W .q a fa) (hb : DE X W .q b fb) : DE X W .f (.BinOp a .Add b pos) (fun env => (fa env).bind fun x => (fb env).bind fun y => addD x y) := de_bin op_addA addD_op addD_ne ha hb
abbrev subD : D → D → R D := gI0 fun i j => i - j
theorem de_sub (ha : DE X W .h a fa) (hb : DE X W .h b fb) : DE X W m (.BinOp a .Sub b pos) (fun env => (fa env).bind fun x => (fb env).bind fun y => subD x y) := de_bin op_sub gI0_op (i2_ne fun _ _ _ z => nomatch z) ha hb
instance (i j : Int) : Decidable (CMulX i j) := by unfold CMulX; infer_instance
abbrev mulD : D → D → R D := gI CMulX fun i j => i * j
theorem de_mul (ha : DE X W .h a fa) (hb : DE X W .h b fb) : DE X W m (.BinOp a .Mult b pos) (fun env => (fa env).bind fun x => (fb env).bind fun y => mulD x y) := de_bin op_mulX gI_op gI_ne ha hb
/-- // by a divisor below 2 ^ 9000 -/
def CFd (_ j : Int) : Prop := j ≠ 0 ∧ j.natAbs.log2 < 9000
instance (i j : Int) : Decidable (CFd i j) := by unfold CFd; infer_instance
theorem op_fdivX : OpR X (binaryOp .FloorDiv) (rI CFd fun i j => .int (i.fdiv j)) := opI fun i j _ _ _ _ _ hc q => floordiv_int hc.1 q (.inl (PyProof.noPylong_of_log2 hc.2))
abbrev fdivD : D → D → R D := gI CFd fun i j => i.fdiv j
theorem de_fdiv (ha : DE X W .h a fa) (hb : DE X W .h b fb) : DE X W m (.BinOp a .FloorDiv b pos) (fun env => (fa env).bind fun x => (fb env).bind fun y => fdivD x y) := de_bin op_fdivX gI_op gI_ne ha hb
abbrev modD : D → D → R D := gI (fun _ j => j ≠ 0) fun i j => i.fmod j
theorem de_mod (ha : DE X W .h a fa) (hb : DE X W .h b fb) : DE X W m (.BinOp a .Mod b pos) (fun env => (fa env).bind fun x => (fb env).bind fun y => modD x y) := de_bin op_modN gI_op gI_ne ha hb
instance (i j : Int) : Decidable (CPow i j) := by unfold CPow; infer_instance
abbrev powD : D → D → R D := gI CPow fun i j => i ^ j.toNat
theorem de_pow (ha : DE X W .h a fa) (hb : DE X W .h b fb) : DE X W m (.BinOp a .Pow b pos) (fun env => (fa env).bind fun x => (fb env).bind fun y => powD x y) := de_bin op_pow gI_op gI_ne ha hb
abbrev shrD : D → D → R D := gI (fun _ j => 0 ≤ j) fun i j => i / 2 ^ j.toNat
theorem de_shr (ha : DE X W .h a fa) (hb : DE X W .h b fb) : DE X W m (.BinOp a .RShift b pos) (fun env => (fa env).bind fun x => (fb env).bind fun y => shrD x y) := de_bin op_shr gI_op gI_ne ha hb
abbrev andD : D → D → R D := gI0 fun i j => Builtin.bitAnd i j
theorem de_band (ha : DE X W .h a fa) (hb : DE X W .h b fb) : DE X W m (.BinOp a .BitAnd b pos) (fun env => (fa env).bind fun x => (fb env).bind fun y => andD x y) := de_bin op_and gI0_op (i2_ne fun _ _ _ z => nomatch z) ha hb
def negD : D → R D
  | .int i => .ok (.int (-i))
  | _ => .no
theorem de_neg (ha : DE X W .h a fa) : DE X W m (.UnaryOp .USub a pos) (fun env => (fa env).bind negD) := (pe_un un_neg ha).wk fun σ H Q ⟨B, F, env, r, p⟩ => tD.bind r p fun v H1 F1 d a1 r1 q1 p1 => by
  unfold negD at p1
  split at p1
  · exact ⟨_, q1.intI, p1 _ _ _ (After.refl r1.fh) (Rp.int _)⟩
  · exact p1.elim

/-! ### comparisons -/
def strDD (x y : D) (f : Bool → Bool) : R D := match x, y with
  | .str a, .str b => .ok (.bool (f (a == b)))
  | _, _ => .no
def eqD (x y : D) : R D := if SeqAt.shaped x = true ∧ SeqAt.shaped y = true then .ok (.bool (PyData.eqv x y)) else strDD x y fun b => b
def neD (x y : D) : R D := if SeqAt.shaped x = true ∧ SeqAt.shaped y = true then .ok (.bool (!PyData.eqv x y)) else strDD x y fun b => !b
theorem strDD_ne {f : Bool → Bool} : ∀ d e c, strDD d e f ≠ .er c := fun d e c => by unfold strDD; split <;> exact fun z => nomatch z
theorem eqD_ne : ∀ d e c, eqD d e ≠ .er c := fun d e c => by
  unfold eqD; split
  · exact fun z => nomatch z
  · exact strDD_ne d e c
theorem neD_ne : ∀ d e c, neD d e ≠ .er c := fun d e c => by
  unfold neD; split
  · exact fun z => nomatch z
  · exact strDD_ne d e c
theorem dec_str (a b : Str) : decide (V.str a = V.str b) = (a == b) := by
  by_cases h : a = b
  · subst h; simp
  · have h2 : ¬ (V.str a = V.str b) := fun z => h (by cases z; rfl)
    rw [decide_eq_false h2]; exact (beq_eq_false_iff_ne.mpr h).symm
theorem eqD_op {K : PySem.W.Frag} : Op2 K (fun x y H Q => rEqD K x y H Q ∨ rEq x y H Q) .h .h m eqD := fun ec W σ F H x y d e Q s rx ry he p => by
  unfold eqD at p
  split at p
  · rename_i hs
    exact .inl ⟨d, e, rx, ry, hs.1, hs.2, p _ _ _ (After.refl s) (Rp.bl _)⟩
  · unfold strDD at p
    split at p
    · obtain rfl := rx.strI
      obtain rfl := ry.strI
      exact .inr ⟨rfl, by rw [dec_str]; exact p _ _ _ (After.refl s) (Rp.bl _)⟩
    · exact p.elim
theorem neD_op {K : PySem.W.Frag} : Op2 K (fun x y H Q => rNeD K x y H Q ∨ rNe x y H Q) .h .h m neD := fun ec W σ F H x y d e Q s rx ry he p => by
  unfold neD at p
  split at p
  · rename_i hs
    exact .inl ⟨d, e, rx, ry, hs.1, hs.2, p _ _ _ (After.refl s) (Rp.bl _)⟩
  · unfold strDD at p
    split at p
    · obtain rfl := rx.strI
      obtain rfl := ry.strI
      exact .inr ⟨rfl, by rw [dec_str]; exact p _ _ _ (After.refl s) (Rp.bl _)⟩
    · exact p.elim
theorem room64 {A : Around} {k : Nat} (r : Room k A) : A.units + 65 < cLine := by have := r.un; omega
def inD (x y : D) : R D := match y with
  | .list ds => if SeqAt.shaped x = true ∧ SeqAt.shaped (.list ds) = true then .ok (.bool (ds.any fun z => PyData.eqv z x)) else .no
  | .str z => match x with
    | .str w => .ok (.bool (!(Builtin.Str.occurrences z w 0 z.length 1).isEmpty))
    | _ => .no
  | _ => .no
def notInD (x y : D) : R D := (inD x y).bind fun z => match z with
  | .bool b => .ok (.bool (!b))
  | _ => .no
def rInA (K : PySem.W.Frag) : R2 := fun x y H Q => rInD K x y H Q ∨ ∃ i j, x = .str i ∧ y = .str j ∧ Q (.bl (!(Builtin.Str.occurrences j i 0 j.length 1).isEmpty)) H
def rNotInA (K : PySem.W.Frag) : R2 := fun x y H Q => rNotInD K x y H Q ∨ ∃ i j, x = .str i ∧ y = .str j ∧ Q (.bl (!(!(Builtin.Str.occurrences j i 0 j.length 1).isEmpty))) H
theorem inD_ne : ∀ d e c, inD d e ≠ .er c := fun d e c => by
  unfold inD
  repeat' split
  all_goals exact fun z => nomatch z
theorem notInD_ne : ∀ d e c, notInD d e ≠ .er c := fun d e c => by
  unfold notInD inD
  repeat' split
  all_goals exact fun z => nomatch z
theorem inD_op {K : PySem.W.Frag} : Op2 K (rInA K) .h .h m inD := fun ec W σ F H x y d e Q s rx ry he p => by
  unfold inD at p
  split at p
  · split at p
    · rename_i hs
      exact .inl ⟨d, _, rx, ry, hs.1, hs.2, p _ _ _ (After.refl s) (Rp.bl _)⟩
    · exact p.elim
  · split at p
    · exact .inr ⟨_, _, rx.strI, ry.strI, p _ _ _ (After.refl s) (Rp.bl _)⟩
    · exact p.elim
  · exact p.elim
theorem notInD_op {K : PySem.W.Frag} : Op2 K (rNotInA K) .h .h m notInD := fun ec W σ F H x y d e Q s rx ry he p => by
  unfold notInD inD at p
  split at p
  · split at p
    · rename_i hs
      exact .inl ⟨d, _, rx, ry, hs.1, hs.2, p _ _ _ (After.refl s) (Rp.bl _)⟩
    · exact p.elim
  · split at p
    · exact .inr ⟨_, _, rx.strI, ry.strI, p _ _ _ (After.refl s) (Rp.bl _)⟩
    · exact p.elim
  · exact p.elim
def isNo : D → Bool
  | .none => true
  | _ => false
def isD (x y : D) : R D := match y with
  | .none => .ok (.bool (isNo x))
  | .bool b => match x with
    | .bool a => .ok (.bool (decide (a = b)))
    | _ => .no
  | _ => .no
def isNotD (x y : D) : R D := match y with
  | .none => .ok (.bool (!isNo x))
  | .bool b => match x with
    | .bool a => .ok (.bool (!decide (a = b)))
    | _ => .no
  | _ => .no
theorem isD_ne : ∀ d e c, isD d e ≠ .er c := fun d e c h => by
  unfold isD at h
  repeat' split at h
  all_goals cases h
theorem isNotD_ne : ∀ d e c, isNotD d e ≠ .er c := fun d e c h => by
  unfold isNotD at h
  repeat' split at h
  all_goals cases h
theorem Dp.isNo {K : PySem.W.Frag} {H : Hp} {v : V} {d : D} (h : Dp K H v d) : decide (v = .non) = DL.isNo d := by
  cases h <;> first | exact decide_eq_true rfl | exact decide_eq_false (fun z => nomatch z)
theorem isD_op {K : PySem.W.Frag} : Op2 K (fun x y H Q => (y = .non ∧ Q (.bl (decide (x = .non))) H) ∨ ∃ a b : Bool, x = .bl a ∧ y = .bl b ∧ Q (.bl (decide (a = b))) H) .h .h m isD := fun ec W σ F H x y d e Q s rx ry he p => by
  unfold isD at p
  split at p
  · refine .inl ⟨ry.nonI, ?_⟩
    rw [Dp.isNo (show Dp K H x d from rx)]
    exact p _ _ _ (After.refl s) (Rp.bl _)
  · split at p
    · exact .inr ⟨_, _, rx.blI, ry.blI, p _ _ _ (After.refl s) (Rp.bl _)⟩
    · exact p.elim
  · exact p.elim
theorem isNotD_op {K : PySem.W.Frag} : Op2 K (fun x y H Q => (y = .non ∧ Q (.bl (!decide (x = .non))) H) ∨ ∃ a b : Bool, x = .bl a ∧ y = .bl b ∧ Q (.bl (!decide (a = b))) H) .h .h m isNotD := fun ec W σ F H x y d e Q s rx ry he p => by
  unfold isNotD at p
  split at p
  · refine .inl ⟨ry.nonI, ?_⟩
    rw [Dp.isNo (show Dp K H x d from rx)]
    exact p _ _ _ (After.refl s) (Rp.bl _)
  · split at p
    · exact .inr ⟨_, _, rx.blI, ry.blI, p _ _ _ (After.refl s) (Rp.bl _)⟩
    · exact p.elim
  · exact p.elim
abbrev ltD : D → D → R D := gB0 fun i j => decide (i < j)
abbrev leD : D → D → R D := gB0 fun i j => decide (i ≤ j)
abbrev gtD : D → D → R D := gB0 fun i j => decide (j < i)
abbrev geD : D → D → R D := gB0 fun i j => decide (j ≤ i)
theorem gB0_ne {g : Int → Int → Bool} : ∀ d e c, gB0 g d e ≠ .er c := i2_ne fun _ _ _ z => nomatch z
def tob : D → R Bool
  | .bool k => .ok k
  | _ => .no
/-- a comparison's rule: as a value, as a test -/
structure Cm (X : Cx) (op : CmpOp) (g : D → D → R D) : Prop where
  ne : ∀ d e c, g d e ≠ .er c
  rule : ∃ r : R2, OpR X (compareOp op) r ∧ ∀ m, Op2 X.K r .h .h m g
theorem cm_lt : Cm X .Lt ltD := ⟨gB0_ne, _, op_lt, fun _ => gB0_op⟩
theorem cm_le : Cm X .LtE leD := ⟨gB0_ne, _, op_le, fun _ => gB0_op⟩
theorem cm_gt : Cm X .Gt gtD := ⟨gB0_ne, _, op_gt, fun _ => gB0_op⟩
theorem cm_ge : Cm X .GtE geD := ⟨gB0_ne, _, op_ge, fun _ => gB0_op⟩
theorem cm_eq (hu : X.A.units + 65 < cLine) : Cm X .Eq eqD := ⟨eqD_ne, _, (op_eqD (by omega)).or op_eq, fun _ => eqD_op⟩
theorem cm_ne (hu : X.A.units + 65 < cLine) : Cm X .NotEq neD := ⟨neD_ne, _, (op_neD (by omega)).or op_ne, fun _ => neD_op⟩
theorem cm_in (hu : X.A.units + 65 < cLine) : Cm X .In inD := ⟨inD_ne, _, (op_inD hu).or op_in_str, fun _ => inD_op⟩
theorem cm_nin (hu : X.A.units + 65 < cLine) : Cm X .NotIn notInD := ⟨notInD_ne, _, (op_notInD hu).or op_notIn_str, fun _ => notInD_op⟩
theorem cm_is : Cm X .Is isD := ⟨isD_ne, _, op_isN.or op_isBl, fun _ => isD_op⟩
theorem cm_isn : Cm X .IsNot isNotD := ⟨isNotD_ne, _, op_notN.or op_notBl, fun _ => isNotD_op⟩
def b2 (fa fb : En → R D) (g : D → D → R D) : En → R D := fun env => (fa env).bind fun x => (fb env).bind fun y => g x y
def t2 (fa fb : En → R D) (g : D → D → R D) : En → R Bool := fun env => (fa env).bind fun x => (fb env).bind fun y => (g x y).bind tob
theorem de_cm {op : CmpOp} {g : D → D → R D} (c : Cm X op g) (ha : DE X W .h a fa) (hb : DE X W .h b fb) (hm : behindInMarks op b = false := by first | exact nomark _ | rfl) : DE X W m (.Compare a [op] [b] pos) (b2 fa fb g) := by
  obtain ⟨r, h1, h2⟩ := c.rule
  exact de_cmp h1 (h2 m) c.ne ha hb hm
theorem dt_cm {op : CmpOp} {g : D → D → R D} (c : Cm X op g) (ha : DE X W .h a fa) (hb : DE X W .h b fb) (hm : behindInMarks op b = false := by first | exact nomark _ | rfl) : DT X W (.Compare a [op] [b] pos) (t2 fa fb g) := by
  obtain ⟨r, h1, h2⟩ := c.rule
  exact dt_cmp h1 (h2 .f) c.ne ha hb hm
/-- a chain -/
def ch3 (fa fb fc : En → R D) (g h : D → D → R D) : En → R D := fun env => (fa env).bind fun x => (fb env).bind fun y => (g x y).bind fun z => match z with
  | .bool true => (fc env).bind fun w => h y w
  | .bool false => .ok (.bool false)
  | _ => .no
end
end DL
namespace DL
open PySem PySem.Spec PyProof.Rows L2
variable [Tabs]
section
variable {X : Cx} {W : WX} {m m1 m2 : Md} {pos : Pos} {j : Nat} {a b c : Expr} {fa fb fc : En → R D}

/-! ### tests -/
def DW (X : Cx) (W : WX) (e : Expr) (f : En → R Bool) : Prop := PW X e (tT X.K (ecOf X.mg) W f)
theorem _root_.L2.PW.wk {X : Cx} {e : Expr} {t t' : TT} (h : PW X e t) (k : ∀ σ H Q, t' σ H Q → t σ H Q) : PW X e t' := ⟨fun wh pins s σ H Q I q => h.run wh pins s σ H Q I (k _ _ _ q)⟩
theorem dt_w {e : Expr} {f : En → R Bool} (h : DW X W e f) : DT X W e f := PW.pt h
def trD : D → R Bool
  | .none => .ok false
  | .bool b => .ok b
  | .int i => .ok (i != 0)
  | .str x => if x.length ≤ sizeLine then .ok ((x.length : Int) != 0) else .no
  | .list ds => .ok (!ds.isEmpty)
  | .tuple ds => .ok (!ds.isEmpty)
  | .dict _ => .no
theorem trD_ok {K : PySem.W.Frag} {H : Hp} {v : V} {d : D} {k : Bool} (h : Dp K H v d) (e : trD d = .ok k) : TruV K v H k := by
  cases h with
  | non => cases e; exact rfl
  | bl b => cases e; exact rfl
  | int i => cases e; exact rfl
  | str x =>
    simp only [trD] at e
    split at e
    · rename_i hl; cases e; exact ⟨hl, rfl⟩
    · cases e
  | @lst a xs ds hs ha =>
    cases e
    have : xs.isEmpty = ds.isEmpty := by cases ha <;> rfl
    exact .inl ⟨xs, hs, by rw [this]⟩
  | @tup a xs ds hs ha =>
    cases e
    have : xs.isEmpty = ds.isEmpty := by cases ha <;> rfl
    exact .inr (.inl ⟨xs, hs, by rw [this]⟩)
theorem trD_ne : ∀ d c, trD d ≠ .er c := fun d c => by
  unfold trD
  repeat' split
  all_goals exact fun z => nomatch z
/-- a value as a test -/
theorem dt_val (ha : DE X W .h a fa) (he : ∀ whole, isTrue a X.env whole = (do let v ← whole; standAt a.pos; holding [v] (truthy v)) := by intro _; rfl) : DT X W a (fun env => (fa env).bind trD) :=
  (pt_truth ha he).wk fun σ H Q ⟨B, F, env, r, p⟩ => tD.bindT r p fun v H1 F1 d a1 r1 q1 p1 => by
    cases e : trD d with
    | ok k => rw [e] at p1; exact ⟨k, trD_ok q1 e, p1 _ _ (After.refl r1.fh)⟩
    | er c => exact absurd e (trD_ne d c)
    | no => rw [e] at p1; exact p1.elim
def andT (f g : En → R Bool) : En → R Bool := fun env => (f env).bind fun k => match k with
  | true => g env
  | false => .ok false
def orT (f g : En → R Bool) : En → R Bool := fun env => (f env).bind fun k => match k with
  | true => .ok true
  | false => g env
def notT (f : En → R Bool) : En → R Bool := fun env => (f env).bind fun k => .ok (!k)
variable {ta tb : En → R Bool} {rest : List Expr}
theorem dw_and1 (ha : DT X W a ta) : DW X W (.BoolOp .And [a] pos) ta := pw_and1 ha
theorem dw_or1 (ha : DT X W a ta) : DW X W (.BoolOp .Or [a] pos) ta := pw_or1 ha
theorem dw_and (ha : DT X W a ta) (hb : DW X W (.BoolOp .And (b :: rest) pos) tb) : DW X W (.BoolOp .And (a :: b :: rest) pos) (andT ta tb) :=
  (pw_and ha hb).wk fun σ H Q ⟨B, F, env, r, p⟩ => tT.bindT r p fun k H1 F1 a1 r1 p1 => by
    cases k with
    | true => rw [if_pos rfl]; exact ⟨B, F1, env, r1, p1⟩
    | false => rw [if_neg Bool.false_ne_true]; exact p1 _ _ (After.refl r1.fh)
theorem dw_or (ha : DT X W a ta) (hb : DW X W (.BoolOp .Or (b :: rest) pos) tb) : DW X W (.BoolOp .Or (a :: b :: rest) pos) (orT ta tb) :=
  (pw_or ha hb).wk fun σ H Q ⟨B, F, env, r, p⟩ => tT.bindT r p fun k H1 F1 a1 r1 p1 => by
    cases k with
    | true => rw [if_pos rfl]; exact p1 _ _ (After.refl r1.fh)
    | false => rw [if_neg Bool.false_ne_true]; exact ⟨B, F1, env, r1, p1⟩
theorem dt_not (ha : DT X W a ta) : DT X W (.UnaryOp .Not a pos) (notT ta) :=
  (pt_not ha).wk fun σ H Q ⟨B, F, env, r, p⟩ => tT.bindT r p fun k H1 F1 a1 r1 p1 => p1 _ _ (After.refl r1.fh)
def ifD (t : En → R Bool) (f g : En → R D) : En → R D := fun env => (t env).bind fun k => match k with
  | true => f env
  | false => g env
theorem de_if (hc : DT X W c ta) (ha : DE X W m a fa) (hb : DE X W m b fb) : DE X W m (.IfExp c a b pos) (ifD ta fa fb) :=
  (pe_ifExp hc ha hb).wk fun σ H Q ⟨B, F, env, r, p⟩ => tT.bind r p fun k H1 F1 a1 r1 p1 => by
    cases k with
    | true => rw [if_pos rfl]; exact ⟨B, F1, env, r1, p1⟩
    | false => rw [if_neg Bool.false_ne_true]; exact ⟨B, F1, env, r1, p1⟩
/-! and, or, not as values, of bools -/
def andV (f g : En → R D) : En → R D := fun env => (f env).bind fun k => match k with
  | .bool true => g env
  | .bool false => .ok (.bool false)
  | _ => .no
def orV (f g : En → R D) : En → R D := fun env => (f env).bind fun k => match k with
  | .bool true => .ok (.bool true)
  | .bool false => g env
  | _ => .no
def notV (f : En → R D) : En → R D := fun env => (f env).bind fun k => match k with
  | .bool k => .ok (.bool (!k))
  | _ => .no
theorem de_one {op : BoolOp} (h : DE X W m a fa) : DE X W m (.BoolOp op [a] pos) fa := pe_one h
theorem de_and (ha : DE X W .h a fa) (hb : DE X W m (.BoolOp .And (b :: rest) pos) fb) : DE X W m (.BoolOp .And (a :: b :: rest) pos) (andV fa fb) :=
  (pe_and ha hb).wk fun σ H Q ⟨B, F, env, r, p⟩ => tD.bind r p fun v H1 F1 d a1 r1 q1 p1 => by
    split at p1
    · exact ⟨true, q1.blI, by rw [if_pos rfl]; exact ⟨B, F1, env, r1, p1⟩⟩
    · exact ⟨false, q1.blI, by rw [if_neg Bool.false_ne_true]; exact p1 _ _ _ (After.refl r1.fh) (Rp.bl _)⟩
    · exact p1.elim
theorem de_or (ha : DE X W .h a fa) (hb : DE X W m (.BoolOp .Or (b :: rest) pos) fb) : DE X W m (.BoolOp .Or (a :: b :: rest) pos) (orV fa fb) :=
  (pe_or ha hb).wk fun σ H Q ⟨B, F, env, r, p⟩ => tD.bind r p fun v H1 F1 d a1 r1 q1 p1 => by
    split at p1
    · exact ⟨true, q1.blI, by rw [if_pos rfl]; exact p1 _ _ _ (After.refl r1.fh) (Rp.bl _)⟩
    · exact ⟨false, q1.blI, by rw [if_neg Bool.false_ne_true]; exact ⟨B, F1, env, r1, p1⟩⟩
    · exact p1.elim
theorem de_not (ha : DE X W .h a fa) : DE X W m (.UnaryOp .Not a pos) (notV fa) :=
  (pe_not ha).wk fun σ H Q ⟨B, F, env, r, p⟩ => tD.bind r p fun v H1 F1 d a1 r1 q1 p1 => by
    split at p1
    · exact ⟨_, q1.blI, p1 _ _ _ (After.refl r1.fh) (Rp.bl _)⟩
    · exact p1.elim

/-! ### argument lists -/
def nilA : En → R (List D) := fun _ => .ok []
def consA (f : En → R D) (g : En → R (List D)) : En → R (List D) := fun env => (f env).bind fun d => (g env).bind fun ds => .ok (d :: ds)
theorem da_nil : DA X W [] [] nilA := pa_nil.wk fun σ H Q ⟨B, F, env, r, p⟩ => p _ _ _ (After.refl r.fh) .nil
theorem da_cons {ms : List Md} {es : List Expr} {g : En → R (List D)} (ha : DE X W m a fa) (hb : DA X W ms es g) (hs : starEach (a :: es) X.env = (false, eval a X.env) :: starEach es X.env := by rfl) : DA X W (m :: ms) (a :: es) (consA fa g) :=
  (pa_cons ha hb hs).wk fun σ H Q ⟨B, F, env, r, p⟩ => tD.bindA r p fun v H1 F1 d a1 r1 q1 p1 => by
    refine ⟨B, F1, env, r1, ?_⟩
    cases e : g env with
    | ok ds => rw [e] at p1; exact fun vs H2 F2 a2 q2 => p1 _ _ _ a2 (.cons (q1.after a2) q2)
    | er c => rw [e] at p1; exact p1
    | no => rw [e] at p1; exact p1
def allf : List Md → Bool
  | [] => true
  | .f :: ms => allf ms
  | _ :: _ => false
theorem allf_of : ∀ {ms : List Md}, allf ms = true → ∀ m ∈ ms, m = .f
  | [], _, m, h => by cases h
  | .f :: ms, h, m, hm => (List.mem_cons.mp hm).elim id fun z => allf_of (ms := ms) h m z
  | .q :: _, h, _, _ => by cases h
  | .h :: _, h, _, _ => by cases h
theorem RpL.fs {K : PySem.W.Frag} {F H : Hp} {ms : List Md} {vs : List V} {ds : List D} (r : RpL K F H ms vs ds) (h : ∀ m ∈ ms, m = .f) : DpAll K F vs ds := by
  induction r with
  | nil => exact .nil
  | @cons m v d ms vs ds x _ ih =>
    have e := h m List.mem_cons_self
    subst e
    exact .cons x (ih fun m' hm => h m' (List.mem_cons_of_mem _ hm))

/-! ### displays -/
def tupR (f : En → R (List D)) : En → R D := fun env => (f env).bind fun ds => if ds.length ≤ 1000 then .ok (.tuple ds) else .no
theorem le_line {n : Nat} (h : n ≤ 1000) : n ≤ sizeLine := Nat.le_trans h (by rw [sizeLine_eq]; decide)
theorem de_tup {es : List Expr} {x1 : Nat} {ms : List Md} {f : En → R (List D)} (h : DA X W ms es f) (hm : allf ms = true := by rfl) : DE X W .f (.Tuple es x1 pos) (tupR f) :=
  (pe_tup h).wk fun σ H Q ⟨B, F, env, r, p⟩ => tA.bind r p fun vs H1 F1 ds a1 r1 q1 p1 => by
    split at p1
    · rename_i hl
      have q2 := q1.fs (allf_of hm)
      exact ⟨by rw [q2.len]; exact le_line hl, fun q n => p1 _ _ _ (After.new r1.fh n) (.tup (SqT.of upd_same) (DpAll.mono (After.new r1.fh n).ff _ _ q2))⟩
    · exact p1.elim
def lstR (f : En → R (List D)) : En → R S := fun env => (f env).bind fun ds => if ds.length ≤ 1000 then .ok (.ow (ds.map .fr)) else .no
theorem do_lst {es : List Expr} {ms : List Md} {f : En → R (List D)} (h : DA X W ms es f) (hm : allf ms = true := by rfl) : DO X W (.List es pos) (lstR f) :=
  (pe_lst h).wk fun σ H Q ⟨B, F, env, r, p⟩ => tA.bindO r p fun vs H1 F1 ds a1 r1 q1 p1 => by
    split at p1
    · rename_i hl
      have q2 := q1.fs (allf_of hm)
      exact ⟨by rw [q2.len]; exact le_line hl, fun q n => p1 _ _ _ [q] (After.newO r1.fh n) (.ow (as := []) (r1.fh.free n) upd_same (OwAll.ofDp q2)) (by simp) (fun x hx => by
        rcases List.mem_cons.mp hx with e | e
        · subst e; exact n
        · cases e)⟩
    · exact p1.elim
/-- what is fresh may be shared from now on -/
theorem frz {K : PySem.W.Frag} {F H F' H' : Hp} {v : V} {s : S} {as : List Addr} (x : After F H F' H') (o : Ow K F' H' v s as) (fr : ∀ a ∈ as, H a = none) : ∃ F2, After F H F2 H' ∧ Dp K F2 v s.toD := by
  have hn : ∀ a ∈ as, F' a = none := fun a z => (o.at _ _ _ a z).1
  refine ⟨fun a => if a ∈ as then H' a else F' a, ⟨x.ff.trans (.mixF hn), .mixH x.fh, x.hh, fun a u e n => ?_⟩, Ow.dp (F := F') (H := H') (.mixF hn) _ _ _ o fun a ha => if_pos ha⟩
  split at e
  · rename_i hm; exact fr a hm
  · exact x.nw a u e n
def unO (f : En → R S) : En → R D := fun env => (f env).bind fun s => .ok s.toD
theorem tO.ofD {K : PySem.W.Frag} {ec : Str → Value} {W : WX} {f : En → R S} {σ : L2.St} {H : Hp} {Q : VK} (h : tD K ec W .f (unO f) σ H Q) : tO K ec W f σ H Q := by
  obtain ⟨B, F, env, r, p⟩ := h
  refine ⟨B, F, env, r, ?_⟩
  unfold unO at p
  cases e : f env with
  | ok s =>
    rw [e] at p
    intro v H' F' as x o n fr
    obtain ⟨F2, y, z⟩ := frz x o fr
    exact p v H' F2 y z
  | er c => rw [e] at p; exact p
  | no => rw [e] at p; exact p
theorem de_o {f : En → R S} (h : DO X W a f) : DE X W .f a (unO f) := h.wk fun σ H Q q => tO.ofD q
def frR (f : En → R D) : En → R S := fun env => (f env).bind fun d => .ok (.fr d)
theorem do_f (h : DE X W .f a fa) : DO X W a (frR fa) := h.wk fun σ H Q ⟨B, F, env, r, p⟩ => ⟨B, F, env, r, by
  unfold frR at p
  cases e : fa env with
  | ok d =>
    rw [e] at p
    exact fun v H' F' x q => p v H' F' [] x (.fr q) .nil fun _ h => by cases h
  | er c => rw [e] at p; exact p
  | no => rw [e] at p; exact p⟩

/-! ### items -/
def ixD (x y : D) : R D := match y with
  | .int i => match x with
    | .list ds => match atI ds i with
      | some d => .ok d
      | none => .no
    | .tuple ds => match atI ds i with
      | some d => .ok d
      | none => .no
    | _ => .no
  | _ => .no
theorem atI_get {α β : Type} {xs : List α} {ys : List β} {i : Int} {y : β} (hl : xs.length = ys.length) (h : atI ys i = some y) : ∃ k, ixN ys.length i = some k ∧ ys[k]? = some y ∧ atI xs i = xs[k]? := by
  unfold atI at h ⊢
  cases e : ixN ys.length i with
  | none => rw [e] at h; cases h
  | some k => rw [e] at h; rw [hl, e]; exact ⟨k, rfl, h, rfl⟩
theorem ixD_ne : ∀ d e c, ixD d e ≠ .er c := fun d e c => by
  unfold ixD
  repeat' split
  all_goals exact fun z => nomatch z
theorem ixD_op {K : PySem.W.Frag} : Op2 K (rIx K) .q .h .f ixD := fun ec W σ F H x y d e Q s rx ry he p => by
  cases e with
  | int i =>
    cases d with
    | list ds =>
      simp only [ixD] at p
      cases hz : atI ds i with
      | none => rw [hz] at p; exact p.elim
      | some z =>
        rw [hz] at p
        obtain ⟨a, vs, rfl, h1, h2⟩ := rx.items (by intro z; cases z) s
        obtain ⟨k, h3, h4, h5⟩ := atI_get h2.len hz
        obtain ⟨v, h6, h7⟩ := h2.getD h4
        exact .inl ⟨a, vs, i, v, rfl, ry.intI, h1, h5.trans h6, p _ _ _ (After.refl s) h7⟩
    | tuple ds =>
      simp only [ixD] at p
      cases hz : atI ds i with
      | none => rw [hz] at p; exact p.elim
      | some z =>
        rw [hz] at p
        obtain ⟨a, vs, rfl, h1, h2⟩ := rx.itemsT (by intro z; cases z) s
        obtain ⟨k, h3, h4, h5⟩ := atI_get h2.len hz
        obtain ⟨v, h6, h7⟩ := h2.getD h4
        exact .inr (.inl ⟨a, vs, i, v, rfl, ry.intI, h1, h5.trans h6, p _ _ _ (After.refl s) h7⟩)
    | _ => exact p.elim
  | _ => exact p.elim
theorem ixD_oph {K : PySem.W.Frag} : Op2 K (rIx K) .h .h .h ixD := fun ec W σ F H x y d e Q s rx ry he p => by
  cases e with
  | int i =>
    cases d with
    | list ds =>
      simp only [ixD] at p
      cases hz : atI ds i with
      | none => rw [hz] at p; exact p.elim
      | some z =>
        rw [hz] at p
        cases (show Dp K H x (.list ds) from rx) with
        | lst h1 h2 =>
          obtain ⟨k, h3, h4, h5⟩ := atI_get h2.len hz
          obtain ⟨v, h6, h7⟩ := h2.getD h4
          exact .inl ⟨_, _, i, v, rfl, ry.intI, h1, h5.trans h6, p _ _ _ (After.refl s) h7⟩
    | tuple ds =>
      simp only [ixD] at p
      cases hz : atI ds i with
      | none => rw [hz] at p; exact p.elim
      | some z =>
        rw [hz] at p
        cases (show Dp K H x (.tuple ds) from rx) with
        | tup h1 h2 =>
          obtain ⟨k, h3, h4, h5⟩ := atI_get h2.len hz
          obtain ⟨v, h6, h7⟩ := h2.getD h4
          exact .inr (.inl ⟨_, _, i, v, rfl, ry.intI, h1, h5.trans h6, p _ _ _ (After.refl s) h7⟩)
    | _ => exact p.elim
  | _ => exact p.elim
theorem de_ix (ha : DE X W .q a fa) (hb : DE X W .h b fb) (hs : PlainIx b := by intro _ _; rfl) : DE X W .f (.Subscript a b pos) (b2 fa fb ixD) :=
  (pe_ix ix_seq ha hb hs).wk fun σ H Q ⟨B, F, env, r, p⟩ => tD.bind r p fun v H1 F1 d a1 r1 q1 p1 => tD.bind r1 p1 fun u H2 F2 e a2 r2 q2 p2 => ixD_op _ _ _ F2 H2 v u d e Q r2.fh (q1.after a2) q2 (ixD_ne d e) p2
theorem de_ixh (ha : DE X W .h a fa) (hb : DE X W .h b fb) (hs : PlainIx b := by intro _ _; rfl) : DE X W .h (.Subscript a b pos) (b2 fa fb ixD) :=
  (pe_ix ix_seq ha hb hs).wk fun σ H Q ⟨B, F, env, r, p⟩ => tD.bind r p fun v H1 F1 d a1 r1 q1 p1 => tD.bind r1 p1 fun u H2 F2 e a2 r2 q2 p2 => ixD_oph _ _ _ F2 H2 v u d e Q r2.fh (q1.after a2) q2 (ixD_ne d e) p2
/-- a scalar, however it is known -/
def scR (f : En → R D) : En → R D := fun env => (f env).bind fun d => if sca d = true then .ok d else .no
theorem de_sc (h : DE X W m1 a fa) : DE X W m a (scR fa) := h.wk fun σ H Q ⟨B, F, env, r, p⟩ => ⟨B, F, env, r, by
  unfold scR at p
  cases e : fa env with
  | ok d =>
    rw [e] at p
    show ∀ v H' F', After F H F' H' → _ → _
    intro v H' F' x q
    replace p : PoE X.K (ecOf X.mg) W m F H σ Q (if sca d = true then .ok d else .no) := p
    split at p
    · rename_i hs; exact p v H' F' x (Rp.sc hs q)
    · exact p.elim
  | er c => rw [e] at p; exact p
  | no => rw [e] at p; exact p⟩

/-! ### slices -/
def DP (X : Cx) (W : WX) (e : Option Expr) (f : En → R (Option Int)) : Prop := match e with
  | none => f = fun _ => .ok none
  | some e => ∃ g, DE X W .h e g ∧ f = fun env => (g env).bind fun d => match d with | .int i => .ok (some i) | _ => .no
theorem dp_none : DP X W none (fun _ => .ok none) := rfl
theorem dp_some (h : DE X W .h a fa) : DP X W (some a) (fun env => (fa env).bind fun d => match d with | .int i => .ok (some i) | _ => .no) := ⟨_, h, rfl⟩
end
end DL
namespace DL
open PySem PySem.Spec PyProof.Rows L2
variable [Tabs]
/-- what stands around: the context of a body that may raise, its wish W -/
structure Cxt (X : Cx) (W : WX) (k : Nat) : Prop where
  calm : X.calm = true
  nd : X.N.Nodup
  tk : Takes X W
  rm : Room k X.A
  gd : X.A.guards = some []
  po : PassesOwn (model X.prog X.w) X.A X.env X.xe
section
variable {X : Cx} {W : WX} {m m1 m2 : Md} {pos p2 : Pos} {j : Nat} {a b c : Expr} {fa fb fc : En → R D}

/-! ### slices -/
def cutD {A : Type} (xs : List A) (lo hi : Option Int) : List A := (xs.drop (HT.sIx xs.length 0 lo)).take (HT.sIx xs.length xs.length hi - HT.sIx xs.length 0 lo)
theorem cutV_dp {K : PySem.W.Frag} {F : Hp} {vs : List V} {ds : List D} {lo hi : Option Int} (h : DpAll K F vs ds) : DpAll K F (cutV vs lo hi) (cutD ds lo hi) := by
  unfold cutV cutD
  rw [h.len]
  exact (h.drop _).take _
/-- the whole of it, of ints -/
def opI : D → R (Option Int)
  | .int i => .ok (some i)
  | _ => .no
abbrev FO := En → R (Option Int)
def noneO : FO := fun _ => .ok none
def someO (f : En → R D) : FO := fun env => (f env).bind opI
/-- a part of a slice -/
inductive DPt (X : Cx) (W : WX) : Option Expr → FO → Prop
  | none : DPt X W none noneO
  | some {e : Expr} {f : En → R D} : DE X W .h e f → DPt X W (some e) (someO f)
def slcD (x : D) (lo hi : Option Int) : R S := match x with
  | .list ds => .ok (.ow ((cutD ds lo hi).map .fr))
  | _ => .no
def slcT (x : D) (lo hi : Option Int) : R D := match x with
  | .tuple ds => .ok (.tuple (cutD ds lo hi))
  | .str z => if z.length ≤ sizeLine then .ok (.str (cutS z lo hi)) else .no
  | .list ds => .ok (.list (cutD ds lo hi))
  | _ => .no
theorem part_run {K : PySem.W.Frag} {ec : Str → Value} {B F H : Hp} {env : En} {σ : L2.St} {lo : Option Expr} {fl : FO} (hX : X.K = K) (he : ecOf X.mg = ec) (hl : DPt X W lo fl) : ∃ tl, PO X lo tl ∧ ∀ {α : Type} {B F H : Hp} {env : En} {σ : L2.St} {k : Option Int → R S} {Q : VK} {Q' : Option Int → Hp → Prop},
    Rel K B F H env σ → PoO K ec W F H σ Q ((fl env).bind k) → (∀ o H' F', After F H F' H' → Rel K B F' H' env σ → PoO K ec W F' H' σ Q (k o) → Q' o H') → tl σ H Q' := by
  cases hl with
  | none => exact ⟨_, po_none, fun r p h => h none _ _ (After.refl r.fh) r p⟩
  | @some e f hf =>
    refine ⟨_, po_some hf, fun {α B F H env σ k Q Q'} r p h => ?_⟩
    have p' : PoO K ec W F H σ Q ((f env).bind fun d => (opI d).bind k) := by
      unfold someO at p
      cases z : f env with
      | ok d => rw [z] at p; exact p
      | er c => rw [z] at p; exact p
      | no => rw [z] at p; exact p
    subst hX he
    refine tD.bindO r p' fun v H1 F1 d a1 r1 q1 p1 => ?_
    cases d with
    | int i => exact ⟨i, q1.intI, h (some i) _ _ a1 r1 p1⟩
    | _ => exact p1.elim
def slR (fa : En → R D) (fl fh : FO) (g : D → Option Int → Option Int → R S) : En → R S := fun env => (fa env).bind fun x => (fl env).bind fun l => (fh env).bind fun h => g x l h
theorem do_slice {lo hi : Option Expr} {fl fh : FO} (ha : DE X W .q a fa) (hl : DPt X W lo fl) (hh : DPt X W hi fh) : DO X W (.Subscript a (.Slice lo hi none p2) pos) (slR fa fl fh slcD) := by
  obtain ⟨tl, ol, rl⟩ := part_run (B := fun _ => none) (F := fun _ => none) (H := fun _ => none) (env := []) (σ := []) rfl rfl hl
  obtain ⟨th, oh, rh⟩ := part_run (B := fun _ => none) (F := fun _ => none) (H := fun _ => none) (env := []) (σ := []) rfl rfl hh
  refine (pe_slice sl_list ha ol oh).wk fun σ H Q ⟨B, F, env, r, p⟩ => ?_
  refine tD.bindO r p fun v H1 F1 d a1 r1 q1 p1 => ?_
  refine rl (α := Unit) r1 p1 fun l H2 F2 a2 r2 p2 => ?_
  refine rh (α := Unit) r2 p2 fun h H3 F3 a3 r3 p3 => ?_
  cases d with
  | list ds =>
    obtain ⟨a, vs, rfl, h1, h2⟩ := ((q1.after a2).after a3).items (by intro z; cases z) r3.fh
    exact ⟨a, vs, rfl, h1, fun q n => p3 _ _ _ [q] (After.newO r3.fh n) (.ow (as := []) (r3.fh.free n) upd_same (OwAll.ofDp (cutV_dp h2))) (by simp) (fun x hx => by
      rcases List.mem_cons.mp hx with e | e
      · subst e; exact n
      · cases e)⟩
  | _ => exact p3.elim

/-! ### built-in functions -/
/-- a built-in by values, of data -/
structure Bi (X : Cx) (f : Value) (ms : List Md) (m : Md) (g : List D → R D) : Prop where
  ne : ∀ ds c, g ds ≠ .er c
  rule : ∃ r, CallR X f r ∧ ∀ (ec : Str → Value) (W : WX) (σ : L2.St) (F H : Hp) (vs : List V) (ds : List D) (Q : VK), Same F H → RpL X.K F H ms vs ds → PoE X.K ec W m F H σ Q (g ds) → r vs H Q
structure BiO (X : Cx) (f : Value) (ms : List Md) (g : List D → R S) : Prop where
  ne : ∀ ds c, g ds ≠ .er c
  rule : ∃ r, CallR X f r ∧ ∀ (ec : Str → Value) (W : WX) (σ : L2.St) (F H : Hp) (vs : List V) (ds : List D) (Q : VK), Same F H → RpL X.K F H ms vs ds → PoO X.K ec W F H σ Q (g ds) → r vs H Q
def cal (fs : En → R (List D)) {A : Type} (g : List D → R A) : En → R A := fun env => (fs env).bind g
variable {x : Str} {p : Pos} {e : Expr} {es : List Expr} {ms : List Md} {fs : En → R (List D)} {id T : String}
theorem de_callB {g : List D → R D} (B : Bi X (.builtin id) ms m g) (hg : Gl X x) (hm : X.mg x = none) (hv : bootBuiltins x = some (.builtin id)) (ha : DA X W ms (e :: es) fs) (hn : x ≠ "__name__" := by decide) (hdb : (x == ("__debug__" : Str)) = false := by decide)
    (he : starEach (e :: es) X.env = (false, eval e X.env) :: starEach es X.env := by rfl) (hpl : (backTo pos (starEach es X.env)).any (·.1) = false := by rfl) : DE X W m (.Call (.Name x p) (e :: es) [] pos) (cal fs g) := by
  obtain ⟨r, h1, h2⟩ := B.rule
  exact (pe_callB h1 hg hm hv ha hn hdb he hpl).wk fun σ H Q ⟨B, F, env, r, p⟩ => tA.bind r p fun vs H1 F1 ds a1 r1 q1 p1 => h2 _ _ _ _ _ _ _ _ r1.fh q1 p1
theorem de_callT {g : List D → R D} (B : Bi X (.type T) ms m g) (hg : Gl X x) (hm : X.mg x = none) (hv : bootBuiltins x = some (.type T)) (ha : DA X W ms (e :: es) fs) (hn : x ≠ "__name__" := by decide) (hdb : (x == ("__debug__" : Str)) = false := by decide)
    (he : starEach (e :: es) X.env = (false, eval e X.env) :: starEach es X.env := by rfl) (hpl : (backTo pos (starEach es X.env)).any (·.1) = false := by rfl) : DE X W m (.Call (.Name x p) (e :: es) [] pos) (cal fs g) := by
  obtain ⟨r, h1, h2⟩ := B.rule
  exact (pe_callTy h1 hg hm hv ha hn hdb he hpl).wk fun σ H Q ⟨B, F, env, r, p⟩ => tA.bind r p fun vs H1 F1 ds a1 r1 q1 p1 => h2 _ _ _ _ _ _ _ _ r1.fh q1 p1
/-- a module's name for a built-in -/
theorem de_callM {g : List D → R D} (B : Bi X (.builtin id) ms m g) (hg : Gl X x) (hm : X.mg x = some (.builtin id)) (ha : DA X W ms (e :: es) fs) (hdb : (x == ("__debug__" : Str)) = false := by decide)
    (he : starEach (e :: es) X.env = (false, eval e X.env) :: starEach es X.env := by rfl) (hpl : (backTo pos (starEach es X.env)).any (·.1) = false := by rfl) : DE X W m (.Call (.Name x p) (e :: es) [] pos) (cal fs g) := by
  obtain ⟨r, h1, h2⟩ := B.rule
  exact (pe_callBfun h1 hg hm ha hdb he hpl).wk fun σ H Q ⟨B, F, env, r, p⟩ => tA.bind r p fun vs H1 F1 ds a1 r1 q1 p1 => h2 _ _ _ _ _ _ _ _ r1.fh q1 p1
theorem do_callB {g : List D → R S} (B : BiO X (.builtin id) ms g) (hg : Gl X x) (hm : X.mg x = none) (hv : bootBuiltins x = some (.builtin id)) (ha : DA X W ms (e :: es) fs) (hn : x ≠ "__name__" := by decide) (hdb : (x == ("__debug__" : Str)) = false := by decide)
    (he : starEach (e :: es) X.env = (false, eval e X.env) :: starEach es X.env := by rfl) (hpl : (backTo pos (starEach es X.env)).any (·.1) = false := by rfl) : DO X W (.Call (.Name x p) (e :: es) [] pos) (cal fs g) := by
  obtain ⟨r, h1, h2⟩ := B.rule
  exact (pe_callB h1 hg hm hv ha hn hdb he hpl).wk fun σ H Q ⟨B, F, env, r, p⟩ => tA.bindO r p fun vs H1 F1 ds a1 r1 q1 p1 => h2 _ _ _ _ _ _ _ _ r1.fh q1 p1
theorem do_callT {g : List D → R S} (B : BiO X (.type T) ms g) (hg : Gl X x) (hm : X.mg x = none) (hv : bootBuiltins x = some (.type T)) (ha : DA X W ms (e :: es) fs) (hn : x ≠ "__name__" := by decide) (hdb : (x == ("__debug__" : Str)) = false := by decide)
    (he : starEach (e :: es) X.env = (false, eval e X.env) :: starEach es X.env := by rfl) (hpl : (backTo pos (starEach es X.env)).any (·.1) = false := by rfl) : DO X W (.Call (.Name x p) (e :: es) [] pos) (cal fs g) := by
  obtain ⟨r, h1, h2⟩ := B.rule
  exact (pe_callTy h1 hg hm hv ha hn hdb he hpl).wk fun σ H Q ⟨B, F, env, r, p⟩ => tA.bindO r p fun vs H1 F1 ds a1 r1 q1 p1 => h2 _ _ _ _ _ _ _ _ r1.fh q1 p1
def one {A : Type} (g : D → R A) : List D → R A
  | [d] => g d
  | _ => .no
def two {A : Type} (g : D → D → R A) : List D → R A
  | [d, e] => g d e
  | _ => .no
theorem one_ne {A : Type} {g : D → R A} (h : ∀ d c, g d ≠ .er c) : ∀ ds c, one g ds ≠ .er c := fun ds c => by
  unfold one
  split
  · exact h _ _
  · exact (fun z => nomatch z)
theorem two_ne {A : Type} {g : D → D → R A} (h : ∀ d e c, g d e ≠ .er c) : ∀ ds c, two g ds ≠ .er c := fun ds c => by
  unfold two
  split
  · exact h _ _ _
  · exact (fun z => nomatch z)
def lenD : D → R D
  | .str x => if x.length ≤ sizeLine then .ok (.int x.length) else .no
  | .list ds => .ok (.int ds.length)
  | .tuple ds => .ok (.int ds.length)
  | _ => .no
theorem lenD_ne : ∀ d c, lenD d ≠ .er c := fun d c => by
  unfold lenD
  repeat' split
  all_goals exact (fun z => nomatch z)
theorem bi_len : Bi X (.builtin "len") [.h] m (one lenD) := ⟨one_ne lenD_ne, _, call_len, fun ec W σ F H vs ds Q s r p => by
  cases r with
  | cons q t =>
    cases t
    rename_i v d
    have q : Dp X.K H v d := q
    cases q with
    | str x =>
      simp only [one, lenD] at p
      split at p
      · rename_i hl; exact ⟨_, _, rfl, ⟨hl, rfl⟩, p _ _ _ (After.refl s) (Rp.int _)⟩
      · exact p.elim
    | @lst a xs ds hs ha => exact ⟨_, xs.length, rfl, .inl ⟨xs, hs, rfl⟩, by rw [ha.len]; exact p _ _ _ (After.refl s) (Rp.int _)⟩
    | @tup a xs ds hs ha => exact ⟨_, xs.length, rfl, .inr ⟨xs, hs, rfl⟩, by rw [ha.len]; exact p _ _ _ (After.refl s) (Rp.int _)⟩
    | _ => exact p.elim⟩
def absD : D → R D
  | .int i => .ok (.int (if i < 0 then -i else i))
  | _ => .no
theorem bi_abs : Bi X (.builtin "abs") [.h] m (one absD) := ⟨one_ne fun d c => by unfold absD; split <;> exact (fun z => nomatch z), _, call_abs, fun ec W σ F H vs ds Q s r p => by
  cases r with
  | cons q t =>
    cases t
    rename_i v d
    cases d with
    | int i => exact ⟨i, by rw [q.intI], p _ _ _ (After.refl s) (Rp.int _)⟩
    | _ => exact p.elim⟩
def intD : D → R D
  | .int i => .ok (.int i)
  | .bool k => .ok (.int (if k then 1 else 0))
  | _ => .no
theorem bi_int : Bi X (.type "int") [.h] m (one intD) := ⟨one_ne fun d c => by unfold intD; split <;> exact (fun z => nomatch z), _, call_int1, fun ec W σ F H vs ds Q s r p => by
  cases r with
  | cons q t =>
    cases t
    rename_i v d
    cases d with
    | int i => exact .inl ⟨i, by rw [q.intI], p _ _ _ (After.refl s) (Rp.int _)⟩
    | bool k => exact .inr ⟨k, by rw [q.blI], p _ _ _ (After.refl s) (Rp.int _)⟩
    | _ => exact p.elim⟩
def gcdD : D → D → R D
  | .int a, .int b => .ok (.int ((Nat.gcd a.natAbs b.natAbs : Nat) : Int))
  | _, _ => .no
theorem bi_gcd : Bi X (.builtin "math.gcd") [.h, .h] m (two gcdD) := ⟨two_ne fun d e c => by unfold gcdD; split <;> exact (fun z => nomatch z), _, cr_gcd, fun ec W σ F H vs ds Q s r p => by
  cases r with
  | cons q t =>
    cases t with
    | cons q' t =>
      cases t
      rename_i v d v' d'
      cases d with
      | int i =>
        cases d' with
        | int j => exact ⟨i, j, by rw [q.intI, q'.intI], p _ _ _ (After.refl s) (Rp.int _)⟩
        | _ => exact p.elim
      | _ => exact p.elim⟩
def bitsD : D → R D
  | .int i => .ok (.int (Builtin.Int.intBits i : Nat))
  | _ => .no
def listD : D → R S
  | .list ds => .ok (.ow (ds.map .fr))
  | .tuple ds => .ok (.ow (ds.map .fr))
  | _ => .no
theorem bo_list : BiO X (.type "list") [.q] (one listD) := ⟨one_ne fun d c => by unfold listD; split <;> exact (fun z => nomatch z), _, call_list_of, fun ec W σ F H vs ds Q s r p => by
  cases r with
  | cons q t =>
    cases t
    rename_i v d
    have fin : ∀ {ds : List D} {vs : List V}, DpAll X.K F vs ds → PoO X.K ec W F H σ Q (.ok (.ow (ds.map .fr))) → ∀ l, H l = none → Q (.ref l) (upd H l (.lst vs)) := fun {ds vs} h2 p l n => p _ _ _ [l] (After.newO s n) (.ow (as := []) (s.free n) upd_same (OwAll.ofDp h2)) (by simp) (fun x hx => by
      rcases List.mem_cons.mp hx with e | e
      · subst e; exact n
      · cases e)
    cases d with
    | list ds =>
      obtain ⟨a, vs, rfl, h1, h2⟩ := q.items (by intro z; cases z) s
      exact ⟨a, vs, rfl, .inl h1, fin h2 p⟩
    | tuple ds =>
      obtain ⟨a, vs, rfl, h1, h2⟩ := q.itemsT (by intro z; cases z) s
      exact ⟨a, vs, rfl, .inr h1, fin h2 p⟩
    | _ => exact p.elim⟩
def tupleD : D → R D
  | .list ds => .ok (.tuple ds)
  | _ => .no
theorem bi_tuple : Bi X (.type "tuple") [.q] .f (one tupleD) := ⟨one_ne fun d c => by unfold tupleD; split <;> exact (fun z => nomatch z), _, call_tuple_of, fun ec W σ F H vs ds Q s r p => by
  cases r with
  | cons q t =>
    cases t
    rename_i v d
    cases d with
    | list ds =>
      obtain ⟨a, vs, rfl, h1, h2⟩ := q.items (by intro z; cases z) s
      exact ⟨a, vs, rfl, .inl ⟨h1, fun l n => p _ _ _ (After.new s n) (.tup (SqT.of upd_same) (DpAll.mono (After.new s n).ff _ _ h2))⟩⟩
    | _ => exact p.elim⟩
/-! lists of ints, of bools -/
def ints? : List D → Option (List Int)
  | [] => some []
  | .int i :: ds => (ints? ds).map (i :: ·)
  | _ :: _ => none
theorem ints?_dp {K : PySem.W.Frag} {F : Hp} : ∀ {vs : List V} {ds : List D} {ns : List Int}, DpAll K F vs ds → ints? ds = some ns → vs = ns.map V.int
  | _, [], _, .nil, e => by cases e; rfl
  | _, .int i :: ds, ns, .cons a t, e => by
    rw [ints?] at e
    cases q : ints? ds with
    | none => rw [q] at e; cases e
    | some es =>
      rw [q] at e; cases e
      cases a
      rw [ints?_dp t q]; rfl
  | _, .none :: _, _, _, e => by cases e
  | _, .bool _ :: _, _, _, e => by cases e
  | _, .str _ :: _, _, _, e => by cases e
  | _, .list _ :: _, _, _, e => by cases e
  | _, .tuple _ :: _, _, _, e => by cases e
  | _, .dict _ :: _, _, _, e => by cases e
theorem ints?_map : ∀ ns : List Int, ints? (ns.map PyData.int) = some ns
  | [] => rfl
  | n :: ns => by show (ints? (ns.map PyData.int)).map (n :: ·) = _; rw [ints?_map ns]; rfl
def bools? : List D → Option (List Bool)
  | [] => some []
  | .bool i :: ds => (bools? ds).map (i :: ·)
  | _ :: _ => none
theorem bools?_dp {K : PySem.W.Frag} {F : Hp} : ∀ {vs : List V} {ds : List D} {ns : List Bool}, DpAll K F vs ds → bools? ds = some ns → vs = ns.map V.bl
  | _, [], _, .nil, e => by cases e; rfl
  | _, .bool i :: ds, ns, .cons a t, e => by
    rw [bools?] at e
    cases q : bools? ds with
    | none => rw [q] at e; cases e
    | some es =>
      rw [q] at e; cases e
      cases a
      rw [bools?_dp t q]; rfl
  | _, .none :: _, _, _, e => by cases e
  | _, .int _ :: _, _, _, e => by cases e
  | _, .str _ :: _, _, _, e => by cases e
  | _, .list _ :: _, _, _, e => by cases e
  | _, .tuple _ :: _, _, _, e => by cases e
  | _, .dict _ :: _, _, _, e => by cases e
theorem bools?_map : ∀ ns : List Bool, bools? (ns.map PyData.bool) = some ns
  | [] => rfl
  | n :: ns => by show (bools? (ns.map PyData.bool)).map (n :: ·) = _; rw [bools?_map ns]; rfl
def onInts {A : Type} (g : List Int → R A) : D → R A
  | .list ds => match ints? ds with
    | some ns => g ns
    | none => .no
  | _ => .no
def onBools {A : Type} (g : List Bool → R A) : D → R A
  | .list ds => match bools? ds with
    | some ns => g ns
    | none => .no
  | _ => .no
theorem onInts_ne {A : Type} {g : List Int → R A} (h : ∀ d c, g d ≠ .er c) : ∀ ds c, onInts g ds ≠ .er c := fun ds c => by
  unfold onInts
  repeat' split
  all_goals first | exact h _ _ | exact (fun z => nomatch z)
theorem onBools_ne {A : Type} {g : List Bool → R A} (h : ∀ d c, g d ≠ .er c) : ∀ ds c, onBools g ds ≠ .er c := fun ds c => by
  unfold onBools
  repeat' split
  all_goals first | exact h _ _ | exact (fun z => nomatch z)
/-- what a built-in over a list of ints asks -/
theorem onInts_r {K : PySem.W.Frag} {F H : Hp} {v : V} {d : D} {A : Type} {g : List Int → R A} {P : R A → Prop} (q : Dp K H v d) (p : P (onInts g d)) (h0 : ¬ P .no) : ∃ a ns, v = .ref a ∧ SqL K H a (ns.map V.int) ∧ P (g ns) := by
  cases q with
  | lst hs ha =>
    simp only [onInts] at p
    split at p
    · rename_i ns e
      have := ints?_dp ha e
      subst this
      exact ⟨_, ns, rfl, hs, p⟩
    · exact absurd p h0
  | _ => exact absurd p h0
theorem onBools_r {K : PySem.W.Frag} {F H : Hp} {v : V} {d : D} {A : Type} {g : List Bool → R A} {P : R A → Prop} (q : Dp K H v d) (p : P (onBools g d)) (h0 : ¬ P .no) : ∃ a ns, v = .ref a ∧ SqL K H a (ns.map V.bl) ∧ P (g ns) := by
  cases q with
  | lst hs ha =>
    simp only [onBools] at p
    split at p
    · rename_i ns e
      have := bools?_dp ha e
      subst this
      exact ⟨_, ns, rfl, hs, p⟩
    · exact absurd p h0
  | _ => exact absurd p h0
def sumL (ns : List Int) : R D := .ok (.int ns.sum)
theorem bi_sum (hc : X.calm = true) : Bi X (.builtin "sum") [.h] m (one (onInts sumL)) := ⟨one_ne (onInts_ne fun _ _ z => (nomatch z)), _, cr_sum hc, fun ec W σ F H vs ds Q s r p => by
  cases r with
  | cons q t =>
    cases t
    obtain ⟨a, ns, rfl, h1, p⟩ := onInts_r (F := F) q p (fun z => z)
    exact ⟨a, ns, rfl, h1, p _ _ _ (After.refl s) (Rp.int _)⟩⟩
def maxI : List Int → Int
  | [] => 0
  | x :: xs => xs.foldl (fun m y => if m < y then y else m) x
def minI : List Int → Int
  | [] => 0
  | x :: xs => xs.foldl (fun m y => if y < m then y else m) x
theorem maxI_fold : ∀ (xs : List Int) (x : Int), (xs.foldl (fun m y => if m < y then y else m) x ∈ x :: xs) ∧ ∀ y ∈ x :: xs, y ≤ xs.foldl (fun m y => if m < y then y else m) x
  | [], x => ⟨List.mem_cons_self, fun y hy => (List.mem_cons.mp hy).elim (fun e => Int.le_of_eq e) (fun e => by cases e)⟩
  | z :: xs, x => by
    obtain ⟨h1, h2⟩ := maxI_fold xs (if x < z then z else x)
    rw [List.foldl_cons]
    refine ⟨?_, fun y hy => ?_⟩
    · rcases List.mem_cons.mp h1 with e | e
      · rw [e]
        split
        · exact List.mem_cons_of_mem _ List.mem_cons_self
        · exact List.mem_cons_self
      · exact List.mem_cons_of_mem _ (List.mem_cons_of_mem _ e)
    · have h3 := h2 _ List.mem_cons_self
      rcases List.mem_cons.mp hy with e | e
      · subst e
        refine Int.le_trans ?_ h3
        split <;> omega
      · rcases List.mem_cons.mp e with e | e
        · subst e
          refine Int.le_trans ?_ h3
          split <;> omega
        · exact h2 y (List.mem_cons_of_mem _ e)
theorem minI_fold : ∀ (xs : List Int) (x : Int), (xs.foldl (fun m y => if y < m then y else m) x ∈ x :: xs) ∧ ∀ y ∈ x :: xs, xs.foldl (fun m y => if y < m then y else m) x ≤ y
  | [], x => ⟨List.mem_cons_self, fun y hy => (List.mem_cons.mp hy).elim (fun e => Int.le_of_eq e.symm) (fun e => by cases e)⟩
  | z :: xs, x => by
    obtain ⟨h1, h2⟩ := minI_fold xs (if z < x then z else x)
    rw [List.foldl_cons]
    refine ⟨?_, fun y hy => ?_⟩
    · rcases List.mem_cons.mp h1 with e | e
      · rw [e]
        split
        · exact List.mem_cons_of_mem _ List.mem_cons_self
        · exact List.mem_cons_self
      · exact List.mem_cons_of_mem _ (List.mem_cons_of_mem _ e)
    · have h3 := h2 _ List.mem_cons_self
      rcases List.mem_cons.mp hy with e | e
      · subst e
        refine Int.le_trans h3 ?_
        split <;> omega
      · rcases List.mem_cons.mp e with e | e
        · subst e
          refine Int.le_trans h3 ?_
          split <;> omega
        · exact h2 y (List.mem_cons_of_mem _ e)
theorem maxI_eq {ns : List Int} {m : Int} (h : 0 < ns.length) (h1 : m ∈ ns) (h2 : ∀ y, y ∈ ns → y ≤ m) : m = maxI ns := by
  cases ns with
  | nil => cases h
  | cons x xs =>
    obtain ⟨h3, h4⟩ := maxI_fold xs x
    exact Int.le_antisymm (h4 m h1) (h2 _ h3)
theorem minI_eq {ns : List Int} {m : Int} (h : 0 < ns.length) (h1 : m ∈ ns) (h2 : ∀ y, y ∈ ns → m ≤ y) : m = minI ns := by
  cases ns with
  | nil => cases h
  | cons x xs =>
    obtain ⟨h3, h4⟩ := minI_fold xs x
    exact Int.le_antisymm (h2 _ h3) (h4 m h1)
def maxL (ns : List Int) : R D := if 0 < ns.length then .ok (.int (maxI ns)) else .no
def minL (ns : List Int) : R D := if 0 < ns.length then .ok (.int (minI ns)) else .no
theorem bi_max (hc : X.calm = true) : Bi X (.builtin "max") [.h] m (one (onInts maxL)) := ⟨one_ne (onInts_ne fun _ _ => by unfold maxL; split <;> exact (fun z => nomatch z)), _, cr_max hc, fun ec W σ F H vs ds Q s r p => by
  cases r with
  | cons q t =>
    cases t
    obtain ⟨a, ns, rfl, h1, p⟩ := onInts_r (F := F) q p (fun z => z)
    unfold maxL at p
    split at p
    · rename_i hl
      exact ⟨a, ns, rfl, h1, hl, fun m h2 h3 => by rw [maxI_eq hl h2 h3]; exact p _ _ _ (After.refl s) (Rp.int _)⟩
    · exact p.elim⟩
theorem bi_min (hc : X.calm = true) : Bi X (.builtin "min") [.h] m (one (onInts minL)) := ⟨one_ne (onInts_ne fun _ _ => by unfold minL; split <;> exact (fun z => nomatch z)), _, cr_min hc, fun ec W σ F H vs ds Q s r p => by
  cases r with
  | cons q t =>
    cases t
    obtain ⟨a, ns, rfl, h1, p⟩ := onInts_r (F := F) q p (fun z => z)
    unfold minL at p
    split at p
    · rename_i hl
      exact ⟨a, ns, rfl, h1, hl, fun m h2 h3 => by rw [minI_eq hl h2 h3]; exact p _ _ _ (After.refl s) (Rp.int _)⟩
    · exact p.elim⟩
def max2D : D → D → R D
  | .int i, .int j => .ok (.int (if j > i then j else i))
  | _, _ => .no
def min2D : D → D → R D
  | .int i, .int j => .ok (.int (if j < i then j else i))
  | _, _ => .no
theorem bi_max2 (hc : X.calm = true) : Bi X (.builtin "max") [.h, .h] m (two max2D) := ⟨two_ne fun d e c => by unfold max2D; split <;> exact (fun z => nomatch z), _, call_max2 hc, fun ec W σ F H vs ds Q s r p => by
  cases r with
  | cons q t =>
    cases t with
    | cons q' t =>
      cases t
      rename_i v d v' d'
      cases d with
      | int i =>
        cases d' with
        | int j => exact ⟨i, j, by rw [q.intI, q'.intI], p _ _ _ (After.refl s) (Rp.int _)⟩
        | _ => exact p.elim
      | _ => exact p.elim⟩
theorem bi_min2 (hc : X.calm = true) : Bi X (.builtin "min") [.h, .h] m (two min2D) := ⟨two_ne fun d e c => by unfold min2D; split <;> exact (fun z => nomatch z), _, call_min2 hc, fun ec W σ F H vs ds Q s r p => by
  cases r with
  | cons q t =>
    cases t with
    | cons q' t =>
      cases t
      rename_i v d v' d'
      cases d with
      | int i =>
        cases d' with
        | int j => exact ⟨i, j, by rw [q.intI, q'.intI], p _ _ _ (After.refl s) (Rp.int _)⟩
        | _ => exact p.elim
      | _ => exact p.elim⟩
def anyL (ns : List Bool) : R D := .ok (.bool (ns.any (fun b => b)))
def allL (ns : List Bool) : R D := .ok (.bool (ns.all fun b => b))
theorem bi_any (hc : X.calm = true) : Bi X (.builtin "any") [.h] m (one (onBools anyL)) := ⟨one_ne (onBools_ne fun _ _ z => (nomatch z)), _, cr_any hc, fun ec W σ F H vs ds Q s r p => by
  cases r with
  | cons q t =>
    cases t
    obtain ⟨a, ns, rfl, h1, p⟩ := onBools_r (F := F) q p (fun z => z)
    exact ⟨a, ns, rfl, h1, p _ _ _ (After.refl s) (Rp.bl _)⟩⟩
theorem bi_all (hc : X.calm = true) : Bi X (.builtin "all") [.h] m (one (onBools allL)) := ⟨one_ne (onBools_ne fun _ _ z => (nomatch z)), _, cr_all hc, fun ec W σ F H vs ds Q s r p => by
  cases r with
  | cons q t =>
    cases t
    obtain ⟨a, ns, rfl, h1, p⟩ := onBools_r (F := F) q p (fun z => z)
    exact ⟨a, ns, rfl, h1, p _ _ _ (After.refl s) (Rp.bl _)⟩⟩
/-- sorted, of ints -/
def sortI (ns : List Int) : List Int := ns.mergeSort fun a b => decide (a ≤ b)
theorem sortI_eq {ns ms : List Int} (h : ms.Perm ns) (s : ms.Pairwise (· ≤ ·)) : ms = sortI ns := by
  have h1 : (sortI ns).Perm ns := List.mergeSort_perm _ _
  have h2 : (sortI ns).Pairwise (· ≤ ·) := by
    have := List.pairwise_mergeSort (le := fun a b : Int => decide (a ≤ b)) (fun a b c h1 h2 => by simp only [decide_eq_true_eq] at *; omega) (fun a b => by simp only [Bool.or_eq_true, decide_eq_true_eq]; omega) ns
    exact this.imp fun h => by simpa using h
  exact List.Perm.eq_of_pairwise (le := (· ≤ ·)) (fun a b _ _ h1 h2 => Int.le_antisymm h1 h2) s h2 (h.trans h1.symm)
def sortL (ns : List Int) : R S := .ok (.ow ((sortI ns).map fun i => .fr (.int i)))
theorem dp_ints {K : PySem.W.Frag} {F : Hp} : ∀ ns : List Int, DpAll K F (ns.map V.int) (ns.map PyData.int)
  | [] => .nil
  | n :: ns => .cons (.int n) (dp_ints ns)
theorem bo_sorted : BiO X (.builtin "sorted") [.h] (one (onInts sortL)) := ⟨one_ne (onInts_ne fun _ _ z => (nomatch z)), _, cr_sortedI, fun ec W σ F H vs ds Q s r p => by
  cases r with
  | cons q t =>
    cases t
    obtain ⟨a, ns, rfl, h1, p⟩ := onInts_r (F := F) q p (fun z => z)
    refine ⟨a, ns, rfl, h1, fun ns' l h2 h3 n => ?_⟩
    rw [sortI_eq h2 h3]
    have q := OwAll.ofDp (F := F) (H := upd H l (.lst ((sortI ns).map V.int))) (dp_ints (K := X.K) (sortI ns))
    rw [List.map_map] at q
    exact p _ _ _ [l] (After.newO s n) (.ow (as := []) (s.free n) upd_same q) (by simp) (fun x hx => by
      rcases List.mem_cons.mp hx with e | e
      · subst e; exact n
      · cases e)⟩
end
end DL
namespace DL
open PySem PySem.Spec PyProof.Rows L2
variable [Tabs]
/-! ### what a for walks -/
/-- J hands out ds, over every heap that keeps G; F: what may be shared -/
def ItOk (K : PySem.W.Frag) (G : Hp) (J : It) (F : Hp) (ds : List D) : Prop :=
  (∀ i H, Same G H → i < ds.length → J.go i H) ∧ (∀ i H, Same G H → ds.length ≤ i → J.stop i H) ∧
    ∀ i H Fc x H', Same G H → Same F Fc → Same Fc H → i < ds.length → J.yld i H x H' → ∃ d F', ds[i]? = some d ∧ After Fc H F' H' ∧ Dp K F' x d
def PoI (K : PySem.W.Frag) (ec : Str → Value) (W : WX) (st : Bool) (F H : Hp) (σ : L2.St) (Q : It → Hp → Prop) : R (List D) → Prop
  | .ok ds => ∀ J H' F', After F H F' H' → ItOk K (if st then F' else H') J F' ds → Q J H'
  | .er c => ∀ H' F', After F H F' H' → W (ec c) none σ H'
  | .no => False
def tI (K : PySem.W.Frag) (ec : Str → Value) (W : WX) (st : Bool) (f : En → R (List D)) : TI := fun σ H Q => ∃ B F env, Rel K B F H env σ ∧ PoI K ec W st F H σ Q (f env)
def DI (X : Cx) (tg : Expr) (W : WX) (st : Bool) (e : Expr) (f : En → R (List D)) : Prop := PI X tg e (tI X.K (ecOf X.mg) W st f)
theorem _root_.L2.PI.wk {X : Cx} {tg e : Expr} {t t' : TI} (h : PI X tg e t) (k : ∀ σ H Q, t' σ H Q → t σ H Q) : PI X tg e t' := ⟨fun pins s σ H Q I q => h.run pins s σ H Q I (k _ _ _ q)⟩
theorem _root_.L2.PI.or {X : Cx} {tg e : Expr} {t t' : TI} (h : PI X tg e t) (h' : PI X tg e t') : PI X tg e (fun σ H Q => t σ H Q ∨ t' σ H Q) := ⟨fun pins s σ H Q I q => q.elim (fun q => h.run pins s σ H Q I q) fun q => h'.run pins s σ H Q I q⟩
section
variable {K : PySem.W.Frag} {ec : Str → Value} {W : WX} {st : Bool} {F H F' H' : Hp} {σ : L2.St}
theorem PoI.after {Q : It → Hp → Prop} {r : R (List D)} (p : PoI K ec W st F H σ Q r) (x : After F H F' H') : PoI K ec W st F' H' σ Q r := by
  cases r with
  | ok d => exact fun v H2 F2 a r => p v H2 F2 (x.trans a) r
  | er c => exact fun H2 F2 a => p H2 F2 (x.trans a)
  | no => exact p
theorem tD.bindI {m1 : Md} {B : Hp} {env : En} {f : En → R D} {k : D → R (List D)} {Q : It → Hp → Prop} (r : Rel K B F H env σ) (p : PoI K ec W st F H σ Q ((f env).bind k))
    {Q' : VK} (h : ∀ v H' F' d, After F H F' H' → Rel K B F' H' env σ → Rp K m1 F' H' v d → PoI K ec W st F' H' σ Q (k d) → Q' v H') : tD K ec W m1 f σ H Q' := by
  refine ⟨B, F, env, r, ?_⟩
  cases e : f env with
  | ok d => rw [e] at p; exact fun v H' F' a q => h v H' F' d a (r.after a) q (PoI.after (r := k d) p a)
  | er c => rw [e] at p; exact p
  | no => rw [e] at p; exact p
theorem tA.bindI {B : Hp} {env : En} {f : En → R (List D)} {ms : List Md} {k : List D → R (List D)} {Q : It → Hp → Prop} (r : Rel K B F H env σ) (p : PoI K ec W st F H σ Q ((f env).bind k))
    {Q' : List V → Hp → Prop} (h : ∀ vs H' F' ds, After F H F' H' → Rel K B F' H' env σ → RpL K F' H' ms vs ds → PoI K ec W st F' H' σ Q (k ds) → Q' vs H') : tA K ec W ms f σ H Q' := by
  refine ⟨B, F, env, r, ?_⟩
  cases e : f env with
  | ok d => rw [e] at p; exact fun v H' F' a q => h v H' F' d a (r.after a) q (PoI.after (r := k d) p a)
  | er c => rw [e] at p; exact p
  | no => rw [e] at p; exact p
theorem itl_ok {G : Hp} {a : Addr} {vs : List V} {ds : List D} (h1 : SqL K G a vs) (h2 : DpAll K F vs ds) : ItOk K G (Itl K a) F ds := by
  refine ⟨fun i H s hi => ?_, fun i H s hi => ⟨vs, s.seq h1, by rw [h2.len]; exact hi⟩, fun i H Fc x H' s sf sh hi y => ?_⟩
  · have hv : i < vs.length := by rw [h2.len]; exact hi
    exact ⟨vs, vs[i], s.seq h1, List.getElem?_eq_getElem hv⟩
  · obtain ⟨rfl, y⟩ := y
    obtain ⟨d, e1, e2⟩ := h2.get (y vs (s.seq h1))
    exact ⟨d, Fc, e1, After.refl sh, Dp.mono sf _ _ e2⟩
theorem itt_ok {G : Hp} {a : Addr} {vs : List V} {ds : List D} (h1 : SqT K G a vs) (h2 : DpAll K F vs ds) : ItOk K G (Itt K a) F ds := by
  refine ⟨fun i H s hi => ?_, fun i H s hi => ⟨vs, SqT.same s h1, by rw [h2.len]; exact hi⟩, fun i H Fc x H' s sf sh hi y => ?_⟩
  · have hv : i < vs.length := by rw [h2.len]; exact hi
    exact ⟨vs, vs[i], SqT.same s h1, List.getElem?_eq_getElem hv⟩
  · obtain ⟨rfl, y⟩ := y
    obtain ⟨d, e1, e2⟩ := h2.get (y vs (SqT.same s h1))
    exact ⟨d, Fc, e1, After.refl sh, Dp.mono sf _ _ e2⟩
theorem itv_ok {G : Hp} {a : Addr} {vs : List V} {ds : List D} (h1 : SqL K G a vs) (h2 : DpAll K F vs ds) : ItOk K G (Itv K a vs.length) F ds.reverse := by
  have hl := h2.len
  refine ⟨fun i H s hi => ?_, fun i H s hi => ?_, fun i H Fc x H' s sf sh hi y => ?_⟩
  · rw [List.length_reverse] at hi
    have hv : vs.length - 1 - i < vs.length := by omega
    exact ⟨by omega, vs, vs[vs.length - 1 - i], s.seq h1, List.getElem?_eq_getElem hv⟩
  · rw [List.length_reverse] at hi
    show vs.length ≤ i
    omega
  · obtain ⟨rfl, y⟩ := y
    have hy := y vs (s.seq h1)
    obtain ⟨d, e1, e2⟩ := h2.get hy
    refine ⟨d, Fc, ?_, After.refl sh, Dp.mono sf _ _ e2⟩
    rw [List.length_reverse] at hi
    rw [List.getElem?_reverse (by omega), ← hl]; exact e1
def rngL (lo : Int) (n : Nat) : List D := (List.range n).map fun i => .int (lo + (i : Nat))
theorem rngL_len {lo : Int} {n : Nat} : (rngL lo n).length = n := by unfold rngL; simp
theorem rngL_get {lo : Int} {n i : Nat} (h : i < n) : (rngL lo n)[i]? = some (.int (lo + (i : Nat))) := by unfold rngL; simp [h]
theorem itr_ok {G : Hp} {lo : Int} {n : Nat} : ItOk K G (Itr lo n) F (rngL lo n) := by
  refine ⟨fun i H s hi => by rw [rngL_len] at hi; exact hi, fun i H s hi => by rw [rngL_len] at hi; exact hi, fun i H Fc x H' s sf sh hi y => ?_⟩
  obtain ⟨rfl, rfl⟩ := y
  rw [rngL_len] at hi
  exact ⟨_, Fc, rngL_get hi, After.refl sh, .int _⟩
def stpL (lo c : Int) (n : Nat) : List D := (List.range n).map fun i => .int (lo + (i : Nat) * c)
theorem stpL_len {lo c : Int} {n : Nat} : (stpL lo c n).length = n := by unfold stpL; simp
theorem stpL_get {lo c : Int} {n i : Nat} (h : i < n) : (stpL lo c n)[i]? = some (.int (lo + (i : Nat) * c)) := by unfold stpL; simp [h]
theorem itc_ok {G : Hp} {lo c : Int} {n : Nat} : ItOk K G (Itc lo c n) F (stpL lo c n) := by
  refine ⟨fun i H s hi => by rw [stpL_len] at hi; exact hi, fun i H s hi => by rw [stpL_len] at hi; exact hi, fun i H Fc x H' s sf sh hi y => ?_⟩
  obtain ⟨rfl, rfl⟩ := y
  rw [stpL_len] at hi
  exact ⟨_, Fc, stpL_get hi, After.refl sh, .int _⟩
def enuL (k : Nat) : List D → List D
  | [] => []
  | d :: ds => .tuple [.int (k : Nat), d] :: enuL (k + 1) ds
theorem enuL_len : ∀ (ds : List D) (k : Nat), (enuL k ds).length = ds.length
  | [], _ => rfl
  | _ :: ds, k => by simp [enuL, enuL_len ds (k + 1)]
theorem enuL_get : ∀ (ds : List D) (k i : Nat) (d : D), ds[i]? = some d → (enuL k ds)[i]? = some (.tuple [.int ((k + i : Nat) : Int), d])
  | [], _, _, _, h => by simp at h
  | e :: ds, k, 0, d, h => by simp at h; subst h; rfl
  | e :: ds, k, i + 1, d, h => by
    have := enuL_get ds (k + 1) i d (by simpa using h)
    rw [show k + (i + 1) = k + 1 + i by omega]
    simpa [enuL] using this
/-- a pair that an iterator lays anew -/
theorem pair_new {Fc H : Hp} {p : Addr} {x y : V} {d e : D} (sh : Same Fc H) (n : H p = none) (h1 : Dp K Fc x d) (h2 : Dp K Fc y e) : ∃ F', After Fc H F' (upd H p (.tup [x, y])) ∧ Dp K F' (.ref p) (.tuple [d, e]) :=
  ⟨_, After.new sh n, .tup (SqT.of upd_same) (.cons (Dp.mono (After.new sh n).ff _ _ h1) (.cons (Dp.mono (After.new sh n).ff _ _ h2) .nil))⟩
theorem ite_ok {G : Hp} {a : Addr} {vs : List V} {ds : List D} (h1 : SqL K G a vs) (h2 : DpAll K F vs ds) : ItOk K G (Ite K a) F (enuL 0 ds) := by
  refine ⟨fun i H s hi => ?_, fun i H s hi => ?_, fun i H Fc x H' s sf sh hi y => ?_⟩
  · rw [enuL_len] at hi
    have hv : i < vs.length := by rw [h2.len]; exact hi
    exact ⟨vs, vs[i], s.seq h1, List.getElem?_eq_getElem hv⟩
  · rw [enuL_len] at hi
    exact ⟨vs, s.seq h1, by rw [h2.len]; exact hi⟩
  · obtain ⟨T, x, rfl, n, rfl, y⟩ := y
    obtain ⟨d, e1, e2⟩ := h2.get (y vs (s.seq h1))
    obtain ⟨F', q1, q2⟩ := pair_new (x := .int (i : Nat)) (d := .int (i : Nat)) sh n (.int _) (Dp.mono sf _ _ e2)
    refine ⟨_, F', enuL_get ds 0 i d e1, q1, ?_⟩
    rw [Nat.zero_add]
    exact q2
def zipL (ds es : List D) : List D := ds.zipWith (fun d e => .tuple [d, e]) es
theorem zipL_len (ds es : List D) : (zipL ds es).length = min ds.length es.length := by unfold zipL; simp
theorem zipL_get {ds es : List D} {i : Nat} {d e : D} (h1 : ds[i]? = some d) (h2 : es[i]? = some e) : (zipL ds es)[i]? = some (.tuple [d, e]) := by unfold zipL; simp [List.getElem?_zipWith, h1, h2]
theorem itz_ok {G : Hp} {a b : Addr} {vs us : List V} {ds es : List D} (h1 : SqL K G a vs) (h2 : DpAll K F vs ds) (h3 : SqL K G b us) (h4 : DpAll K F us es) : ItOk K G (Itz K a b) F (zipL ds es) := by
  refine ⟨fun i H s hi => ?_, fun i H s hi => ?_, fun i H Fc x H' s sf sh hi y => ?_⟩
  · rw [zipL_len] at hi
    have hv : i < vs.length := by rw [h2.len]; omega
    have hu : i < us.length := by rw [h4.len]; omega
    exact ⟨vs, us, vs[i], us[i], s.seq h1, s.seq h3, List.getElem?_eq_getElem hv, List.getElem?_eq_getElem hu⟩
  · rw [zipL_len] at hi
    exact ⟨vs, us, s.seq h1, s.seq h3, by rw [h2.len, h4.len]; omega⟩
  · obtain ⟨T, x, y', rfl, n, rfl, y1, y2⟩ := y
    obtain ⟨d, e1, e2⟩ := h2.get (y1 vs (s.seq h1))
    obtain ⟨e, e3, e4⟩ := h4.get (y2 us (s.seq h3))
    obtain ⟨F', q1, q2⟩ := pair_new sh n (Dp.mono sf _ _ e2) (Dp.mono sf _ _ e4)
    exact ⟨_, F', zipL_get e1 e3, q1, q2⟩
end
section
variable {X : Cx} {W : WX} {m : Md} {pos p tpos : Pos} {tg a b c : Expr} {fa fb : En → R D} {fs : En → R (List D)} {elts : List Expr} {kk : Nat}
def seqD : D → R (List D)
  | .list ds => .ok ds
  | .tuple ds => .ok ds
  | _ => .no
def seqR (f : En → R D) : En → R (List D) := fun env => (f env).bind seqD
theorem di_seq (ha : DE X W .f a fa) : DI X tg W true a (seqR fa) :=
  ((pi_list ha).or (pi_tup ha)).wk fun σ H Q ⟨B, F, env, r, p⟩ => by
    cases e : fa env with
    | ok d =>
      unfold seqR at p
      rw [e] at p
      cases d with
      | list ds => exact .inl ⟨B, F, env, r, by
          rw [e]
          intro v H' F' x q
          cases q with
          | lst h1 h2 => exact ⟨_, rfl, ⟨_, x.fh.seq h1⟩, p _ _ _ x (itl_ok h1 h2)⟩⟩
      | tuple ds => exact .inr ⟨B, F, env, r, by
          rw [e]
          intro v H' F' x q
          cases q with
          | tup h1 h2 => exact ⟨_, rfl, ⟨_, SqT.same x.fh h1⟩, p _ _ _ x (itt_ok h1 h2)⟩⟩
      | _ => exact p.elim
    | er c => unfold seqR at p; rw [e] at p; exact .inl ⟨B, F, env, r, by rw [e]; exact p⟩
    | no => unfold seqR at p; rw [e] at p; exact p.elim
theorem di_seqq (ha : DE X W .q a fa) : DI X tg W false a (seqR fa) :=
  ((pi_list ha).or (pi_tup ha)).wk fun σ H Q ⟨B, F, env, r, p⟩ => by
    cases e : fa env with
    | ok d =>
      unfold seqR at p
      rw [e] at p
      cases d with
      | list ds => exact .inl ⟨B, F, env, r, by
          rw [e]
          intro v H' F' x q
          obtain ⟨a, vs, rfl, h1, h2⟩ := q.items (by intro z; cases z) x.fh
          exact ⟨_, rfl, ⟨_, h1⟩, p _ _ _ x (itl_ok h1 h2)⟩⟩
      | tuple ds => exact .inr ⟨B, F, env, r, by
          rw [e]
          intro v H' F' x q
          obtain ⟨a, vs, rfl, h1, h2⟩ := q.itemsT (by intro z; cases z) x.fh
          exact ⟨_, rfl, ⟨_, h1⟩, p _ _ _ x (itt_ok h1 h2)⟩⟩
      | _ => exact p.elim
    | er c => unfold seqR at p; rw [e] at p; exact .inl ⟨B, F, env, r, by rw [e]; exact p⟩
    | no => unfold seqR at p; rw [e] at p; exact p.elim
def b62 (i : Int) : Bool := decide (-(2 ^ 62) ≤ i) && decide (i < 2 ^ 62)
def rng1 : List D → R (List D)
  | [.int i] => if b62 i = true then .ok (rngL 0 i.toNat) else .no
  | _ => .no
def rng2 : List D → R (List D)
  | [.int i, .int j] => if b62 i = true ∧ b62 j = true then .ok (rngL i (j - i).toNat) else .no
  | _ => .no
instance (i j c : Int) (n : Nat) : Decidable (RgC i j c n) := by unfold RgC; infer_instance
def rng3 : List D → R (List D)
  | [.int i, .int j, .int c] => if RgC i j c (Builtin.Range.rangeSize i j c).toNat then .ok (stpL i c (Builtin.Range.rangeSize i j c).toNat) else .no
  | _ => .no
theorem b62_of {i : Int} (h : b62 i = true) : -(2 ^ 62) ≤ i ∧ i < 2 ^ 62 := by
  unfold b62 at h
  rw [Bool.and_eq_true] at h
  exact ⟨of_decide_eq_true h.1, of_decide_eq_true h.2⟩
theorem di_rng1 {st : Bool} (hg : Gl X "range") (hm : X.mg "range" = none) (ha : DA X W [.h] [a] fs) (hs : starEach [a] X.env = [(false, eval a X.env)] := by rfl) : DI X tg W st (.Call (.Name "range" p) [a] [] pos) (cal fs rng1) :=
  (pi_range1 hg hm ha hs).wk fun σ H Q ⟨B, F, env, r, p⟩ => tA.bindI r p fun vs H1 F1 ds a1 r1 q1 p1 => by
    cases q1 with
    | cons q t =>
      cases t
      rename_i v d
      cases d with
      | int i =>
        simp only [rng1] at p1
        split at p1
        · rename_i h
          have h := b62_of h
          exact ⟨i, by rw [q.intI], h.1, h.2, p1 _ _ _ (After.refl r1.fh) itr_ok⟩
        · exact p1.elim
      | _ => exact p1.elim
theorem di_rng2 {st : Bool} (hg : Gl X "range") (hm : X.mg "range" = none) (ha : DA X W [.h, .h] [a, b] fs) (hs : starEach [a, b] X.env = [(false, eval a X.env), (false, eval b X.env)] := by rfl) (hs2 : starEach [b] X.env = [(false, eval b X.env)] := by rfl) : DI X tg W st (.Call (.Name "range" p) [a, b] [] pos) (cal fs rng2) :=
  (pi_range2 hg hm ha hs hs2).wk fun σ H Q ⟨B, F, env, r, p⟩ => tA.bindI r p fun vs H1 F1 ds a1 r1 q1 p1 => by
    cases q1 with
    | cons q t =>
      cases t with
      | cons q' t =>
        cases t
        rename_i v d v' d'
        cases d with
        | int i =>
          cases d' with
          | int j =>
            simp only [rng2] at p1
            split at p1
            · rename_i h
              have h1 := b62_of h.1
              have h2 := b62_of h.2
              exact ⟨i, j, by rw [q.intI, q'.intI], ⟨h1.1, h1.2, h2.1, h2.2⟩, p1 _ _ _ (After.refl r1.fh) itr_ok⟩
            · exact p1.elim
          | _ => exact p1.elim
        | _ => exact p1.elim
theorem di_rng3 {st : Bool} (hg : Gl X "range") (hm : X.mg "range" = none) (ha : DA X W [.h, .h, .h] [a, b, c] fs) (hs : starEach [a, b, c] X.env = (false, eval a X.env) :: starEach [b, c] X.env := by rfl) (hpl : (backTo pos (starEach [b, c] X.env)).any (·.1) = false := by rfl) : DI X tg W st (.Call (.Name "range" p) [a, b, c] [] pos) (cal fs rng3) :=
  (pi_range3 hg hm ha hs hpl).wk fun σ H Q ⟨B, F, env, r, p⟩ => tA.bindI r p fun vs H1 F1 ds a1 r1 q1 p1 => by
    cases q1 with
    | cons q t =>
      cases t with
      | cons q' t =>
        cases t with
        | cons q2 t =>
          cases t
          rename_i v d v' d' v2 d2
          cases d with
          | int i =>
            cases d' with
            | int j =>
              cases d2 with
              | int k =>
                simp only [rng3] at p1
                split at p1
                · rename_i h
                  exact ⟨i, j, k, _, by rw [q.intI, q'.intI, q2.intI], h, p1 _ _ _ (After.refl r1.fh) itc_ok⟩
                · exact p1.elim
              | _ => exact p1.elim
            | _ => exact p1.elim
          | _ => exact p1.elim
def enu1 : List D → R (List D)
  | [.list ds] => .ok (enuL 0 ds)
  | _ => .no
def rev1 : List D → R (List D)
  | [.list ds] => .ok ds.reverse
  | _ => .no
def zip2 : List D → R (List D)
  | [.list ds, .list es] => .ok (zipL ds es)
  | _ => .no
theorem di_enum (hg : Gl X "enumerate") (hm : X.mg "enumerate" = none) (ha : DA X W [.f] [a] fs) (hs : starEach [a] X.env = [(false, eval a X.env)] := by rfl) : DI X (.Tuple elts kk tpos) W true (.Call (.Name "enumerate" p) [a] [] pos) (cal fs enu1) :=
  (pi_enum hg hm ha hs).wk fun σ H Q ⟨B, F, env, r, p⟩ => tA.bindI r p fun vs H1 F1 ds a1 r1 q1 p1 => by
    cases q1 with
    | cons q t =>
      cases t
      rename_i v d
      cases d with
      | list ds =>
        cases q with
        | lst h1 h2 => exact ⟨_, _, rfl, r1.fh.seq h1, p1 _ _ _ (After.refl r1.fh) (ite_ok h1 h2)⟩
      | _ => exact p1.elim
theorem di_enumq (hg : Gl X "enumerate") (hm : X.mg "enumerate" = none) (ha : DA X W [.q] [a] fs) (hs : starEach [a] X.env = [(false, eval a X.env)] := by rfl) : DI X (.Tuple elts kk tpos) W false (.Call (.Name "enumerate" p) [a] [] pos) (cal fs enu1) :=
  (pi_enum hg hm ha hs).wk fun σ H Q ⟨B, F, env, r, p⟩ => tA.bindI r p fun vs H1 F1 ds a1 r1 q1 p1 => by
    cases q1 with
    | cons q t =>
      cases t
      rename_i v d
      cases d with
      | list ds =>
        obtain ⟨a, vs, rfl, h1, h2⟩ := q.items (by intro z; cases z) r1.fh
        exact ⟨_, _, rfl, h1, p1 _ _ _ (After.refl r1.fh) (ite_ok h1 h2)⟩
      | _ => exact p1.elim
theorem di_rev (hg : Gl X "reversed") (hm : X.mg "reversed" = none) (ha : DA X W [.f] [a] fs) (hs : starEach [a] X.env = [(false, eval a X.env)] := by rfl) : DI X tg W true (.Call (.Name "reversed" p) [a] [] pos) (cal fs rev1) :=
  (pi_reversed hg hm ha hs).wk fun σ H Q ⟨B, F, env, r, p⟩ => tA.bindI r p fun vs H1 F1 ds a1 r1 q1 p1 => by
    cases q1 with
    | cons q t =>
      cases t
      rename_i v d
      cases d with
      | list ds =>
        cases q with
        | lst h1 h2 => exact ⟨_, _, rfl, r1.fh.seq h1, p1 _ _ _ (After.refl r1.fh) (itv_ok h1 h2)⟩
      | _ => exact p1.elim
theorem di_zip (hg : Gl X "zip") (hm : X.mg "zip" = none) (ha : DA X W [.f, .f] [a, b] fs) (hs : starEach [a, b] X.env = (false, eval a X.env) :: starEach [b] X.env := by rfl) (hpl : (backTo pos (starEach [b] X.env)).any (·.1) = false := by rfl) :
    DI X (.Tuple elts kk tpos) W true (.Call (.Name "zip" p) [a, b] [] pos) (cal fs zip2) :=
  (pi_zip hg hm ha hs hpl).wk fun σ H Q ⟨B, F, env, r, p⟩ => tA.bindI r p fun vs H1 F1 ds a1 r1 q1 p1 => by
    cases q1 with
    | cons q t =>
      cases t with
      | cons q' t =>
        cases t
        rename_i v d v' d'
        cases d with
        | list ds =>
          cases d' with
          | list es =>
            cases q with
            | lst h1 h2 =>
              cases q' with
              | lst h3 h4 => exact ⟨_, _, _, _, rfl, r1.fh.seq h1, r1.fh.seq h3, p1 _ _ _ (After.refl r1.fh) (itz_ok h1 h2 h3 h4)⟩
          | _ => exact p1.elim
        | _ => exact p1.elim
end

/-! ### targets -/
/-- only the slots js are changed -/
def Eo (js : List Nat) (σ σ' : L2.St) : Prop := σ'.length = σ.length ∧ ∀ k, k ∉ js → σ'[k]? = σ[k]?
theorem Eo.trans {js ks : List Nat} {a b c : L2.St} (h : Eo js a b) (h' : Eo ks b c) : Eo (js ++ ks) a c :=
  ⟨h'.1.trans h.1, fun k hk => (h'.2 k fun z => hk (List.mem_append_right _ z)).trans (h.2 k fun z => hk (List.mem_append_left _ z))⟩
theorem wipe_get (σ : L2.St) (i : Nat) : ∀ vs : List Nat, (wipe σ vs)[i]? = if i ∈ vs ∧ i < σ.length then some none else σ[i]?
  | [] => by rw [if_neg (by simp)]; rfl
  | v :: vs => by
    unfold wipe
    rw [List.getElem?_set, wipe_length, wipe_get σ i vs]
    by_cases hv : v = i
    · subst hv
      by_cases hl : v < σ.length
      · simp [hl]
      · rw [if_pos rfl, if_neg hl, if_neg (fun z => hl z.2)]
        exact (List.getElem?_eq_none (by omega)).symm
    · rw [if_neg hv]
      have e : (i ∈ v :: vs) ↔ i ∈ vs := ⟨fun z => (List.mem_cons.mp z).elim (fun q => absurd q.symm hv) id, fun z => List.mem_cons_of_mem _ z⟩
      simp only [e]
theorem Eo.wipe {js vs : List Nat} {σ σ' : L2.St} (h : Eo js σ σ') (hs : ∀ j ∈ js, j ∈ vs) : L2.wipe σ' vs = L2.wipe σ vs := by
  apply List.ext_getElem?
  intro i
  rw [wipe_get, wipe_get, h.1]
  by_cases hi : i ∈ vs ∧ i < σ.length
  · rw [if_pos hi, if_pos hi]
  · rw [if_neg hi, if_neg hi]
    by_cases hv : i ∈ vs
    · have : ¬ i < σ.length := fun z => hi ⟨hv, z⟩
      rw [List.getElem?_eq_none (by rw [h.1]; omega), List.getElem?_eq_none (by omega)]
    · exact h.2 i fun z => hv (hs i z)
theorem Eo.set {i : Nat} {σ : L2.St} {x : Option V} : Eo [i] σ (σ.set i x) := ⟨by simp, fun k hk => by
  have : i ≠ k := fun e => hk (by simp [e])
  rw [List.getElem?_set_ne this]⟩
theorem wipe_wipe {σ : L2.St} {vs : List Nat} : wipe (wipe σ vs) vs = wipe σ vs := by
  apply List.ext_getElem?
  intro i
  rw [wipe_get, wipe_length, wipe_get]
  by_cases hi : i ∈ vs ∧ i < σ.length
  · rw [if_pos hi, if_pos hi]
  · rw [if_neg hi, if_neg hi]
def tG (K : PySem.W.Frag) (js : List Nat) (b : D → En → Option En) : TG := fun v σ H Q => ∃ B F env d env', Rel K B F H env σ ∧ Dp K F v d ∧ b d env = some env' ∧ ∀ σ', Eo js σ σ' → Rel K B F H env' σ' → Q σ' H
def tGs (K : PySem.W.Frag) (js : List Nat) (b : List D → En → Option En) : TGs := fun v σ H Q => ∃ B F env d env', Rel K B F H env σ ∧ DpAll K F v d ∧ b d env = some env' ∧ ∀ σ', Eo js σ σ' → Rel K B F H env' σ' → Q σ' H
def DG (X : Cx) (tg : Expr) (js : List Nat) (b : D → En → Option En) : Prop := PG X tg (tG X.K js b)
def DGs (X : Cx) (tg : List Expr) (js : List Nat) (b : List D → En → Option En) : Prop := PGs X tg (tGs X.K js b)
theorem _root_.L2.PG.wk {X : Cx} {e : Expr} {t t' : TG} (h : PG X e t) (k : ∀ v σ H Q, t' v σ H Q → t v σ H Q) : PG X e t' := ⟨fun pins s σ H v u Q I r q => h.run pins s σ H v u Q I r (k _ _ _ _ q)⟩
theorem _root_.L2.PGs.wk {X : Cx} {e : List Expr} {t t' : TGs} (h : PGs X e t) (k : ∀ v σ H Q, t' v σ H Q → t v σ H Q) : PGs X e t' := ⟨fun pins s σ H v u Q I r q => h.run pins s σ H v u Q I r (k _ _ _ _ q)⟩
section
variable {K : PySem.W.Frag} {B F H : Hp} {env : En} {σ : L2.St}
theorem Rel.set {i : Nat} {v : V} {s : Sl} {bs : List Addr} (r : Rel K B F H env σ) (h : OwS K F H v s bs) (n : bs.Nodup) (hb : ∀ a ∈ bs, B a = none) (hn : ∀ as, OwEn K F H σ env as → as.Nodup → (∀ a ∈ as, B a = none) → ∀ a ∈ bs, a ∉ as) :
    Rel K B F H (env.set i (some s)) (σ.set i (some v)) := by
  obtain ⟨as, h1, h2, h3⟩ := r.sl
  obtain ⟨cs, q1, q2, q3⟩ := OwEn.set h i h1 h2 n (hn as h1 h2 h3)
  exact ⟨r.bh, r.fh, cs, q1, q2, fun a ha => (q3 a ha).elim (h3 a) (hb a)⟩
theorem Rel.setF {i : Nat} {v : V} {d : D} (r : Rel K B F H env σ) (h : Dp K F v d) : Rel K B F H (env.set i (some (.v (.fr d)))) (σ.set i (some v)) :=
  r.set (.v (.fr h)) .nil (fun _ z => by cases z) fun _ _ _ _ _ z => by cases z
theorem Rel.drop {i : Nat} {x : Option V} (r : Rel K B F H env σ) : Rel K B F H (env.set i none) (σ.set i x) := by
  obtain ⟨as, h1, h2, h3⟩ := r.sl
  obtain ⟨cs, q1, q2, q3⟩ := OwEn.drop (x := x) i h1 h2
  exact ⟨r.bh, r.fh, cs, q1, q2, fun a ha => h3 a (q3 a ha)⟩
theorem OwEn.forget : ∀ {σ : L2.St} {env : En} {as : List Addr} (i : Nat), OwEn K F H σ env as → as.Nodup → ∃ cs, OwEn K F H σ (env.set i none) cs ∧ cs.Nodup ∧ ∀ a ∈ cs, a ∈ as
  | _, _, _, i, .nil, n => ⟨[], .nil, .nil, fun a ha => ha⟩
  | _, _, _, 0, .un t, n => ⟨_, .un t, n, fun a ha => ha⟩
  | _, _, _, i + 1, .un t, n => by
    obtain ⟨cs, h1, h2, h3⟩ := OwEn.forget i t n
    exact ⟨cs, .un h1, h2, h3⟩
  | _, _, _, 0, .so h t, n => ⟨_, .un t, (List.nodup_append.mp n).2.1, fun a ha => List.mem_append_right _ ha⟩
  | _, _, _, i + 1, .so h t, n => by
    have n' := List.nodup_append.mp n
    obtain ⟨cs, h1, h2, h3⟩ := OwEn.forget i t n'.2.1
    exact ⟨_, .so h h1, List.nodup_append.mpr ⟨n'.1, h2, fun a ha b hb e => n'.2.2 a ha b (h3 b hb) e⟩, fun a ha => (List.mem_append.mp ha).elim (List.mem_append_left _) fun z => List.mem_append_right _ (h3 a z)⟩
theorem Rel.forget {i : Nat} (r : Rel K B F H env σ) : Rel K B F H (env.set i none) σ := by
  obtain ⟨as, h1, h2, h3⟩ := r.sl
  obtain ⟨cs, q1, q2, q3⟩ := OwEn.forget i h1 h2
  exact ⟨r.bh, r.fh, cs, q1, q2, fun a ha => h3 a (q3 a ha)⟩
def wipeE (env : En) : List Nat → En
  | [] => env
  | v :: vs => (wipeE env vs).set v none
theorem Rel.wipe (r : Rel K B F H env σ) : ∀ vs : List Nat, Rel K B F H (wipeE env vs) (L2.wipe σ vs)
  | [] => r
  | v :: vs => (Rel.wipe r vs).drop
end
section
variable {X : Cx} {pos : Pos} {tg : Expr} {ts : List Expr}
def setN (i : Nat) (d : D) (env : En) : Option En := some (env.set i (some (.v (.fr d))))
theorem dg_name {x : Str} (i : Nat) (hN : X.N.Nodup) (hi : X.N[i]? = some x := by rfl) (hx : Loc X.env.scope x := by first | exact Or.inl rfl | exact Or.inr rfl) (hf : X.fn x = true ∨ X.env.scope.names.lookup x = some .local := by first | exact Or.inl rfl | exact Or.inr rfl) : DG X (.Name x pos) [i] (setN i) :=
  (pg_name hN hi hx hf).wk fun v σ H Q ⟨B, F, env, d, env', r, h, e, q⟩ => by
    cases e
    exact q _ Eo.set (r.setF h)
def nilG : List D → En → Option En
  | [], env => some env
  | _, _ => none
def consG (b : D → En → Option En) (c : List D → En → Option En) : List D → En → Option En
  | d :: ds, env => (b d env).bind fun env => c ds env
  | _, _ => none
theorem dg_nil : DGs X [] [] nilG := pgs_nil.wk fun v σ H Q ⟨B, F, env, d, env', r, h, e, q⟩ => by
  cases h with
  | nil => cases e; exact ⟨rfl, q σ ⟨rfl, fun _ _ => rfl⟩ r⟩
  | cons _ _ => cases e
theorem dg_cons {js ks : List Nat} {b : D → En → Option En} {c : List D → En → Option En} (hb : DG X tg js b) (hc : DGs X ts ks c) (hs : (assignEach (tg :: ts) X.env).map (·.2) = assign tg X.env :: (assignEach ts X.env).map (·.2) := by rfl) : DGs X (tg :: ts) (js ++ ks) (consG b c) :=
  (pgs_cons hb hc hs).wk fun v σ H Q ⟨B, F, env, d, env', r, h, e, q⟩ => by
    cases h with
    | nil => cases e
    | @cons v vs d ds h1 h2 =>
      simp only [consG] at e
      cases z : b d env with
      | none => rw [z] at e; cases e
      | some env1 =>
        rw [z] at e
        exact ⟨v, vs, rfl, B, F, env, d, env1, r, h1, z, fun σ1 e1 r1 => ⟨B, F, env1, ds, env', r1, h2, e, fun σ2 e2 r2 => q σ2 (e1.trans e2) r2⟩⟩
def tupG (n : Nat) (b : List D → En → Option En) : D → En → Option En
  | .tuple ds, env => if ds.length = n then b ds env else none
  | .list ds, env => if ds.length = n then b ds env else none
  | _, _ => none
theorem _root_.L2.PG.orr {X : Cx} {e : Expr} {t t' : TG} (h : PG X e t) (h' : PG X e t') : PG X e (fun v σ H Q => t v σ H Q ∨ t' v σ H Q) := ⟨fun pins s σ H v u Q I r q => q.elim (fun q => h.run pins s σ H v u Q I r q) fun q => h'.run pins s σ H v u Q I r q⟩
theorem dg_tup {es : List Expr} {k : Nat} {js : List Nat} {n : Nat} {b : List D → En → Option En} (hc : X.calm = true) (h : DGs X es js b)
    (hn : (assignEach es X.env).length = n := by rfl) (hst : (assignEach es X.env).findIdx? (·.1) = none := by rfl) : DG X (.Tuple es k pos) js (tupG n b) :=
  ((pg_tup hc h hn hst).orr (pg_lst hc h hn hst)).wk fun v σ H Q ⟨B, F, env, d, env', r, hd, e, q⟩ => by
    cases d with
    | tuple ds =>
      cases hd with
      | tup h1 h2 =>
        simp only [tupG] at e
        split at e
        · rename_i hl
          exact .inl ⟨_, _, rfl, SqT.same r.fh h1, h2.len.trans hl, B, F, env, ds, env', r, h2, e, q⟩
        · cases e
    | list ds =>
      cases hd with
      | lst h1 h2 =>
        simp only [tupG] at e
        split at e
        · rename_i hl
          exact .inr ⟨_, _, rfl, r.fh.seq h1, h2.len.trans hl, B, F, env, ds, env', r, h2, e, q⟩
        · cases e
    | _ => cases e
end
end DL
namespace DL
open PySem PySem.Spec PyProof.Rows L2
variable [Tabs]
abbrev never : WX := fun _ _ _ _ => False
def DTs (X : Cx) (W : WX) (ifs : List Expr) (t : En → R Bool) : Prop := PTs X ifs (tT X.K (ecOf X.mg) W t)
theorem _root_.L2.PTs.wk {X : Cx} {ifs : List Expr} {t t' : TT} (h : PTs X ifs t) (k : ∀ σ H Q, t' σ H Q → t σ H Q) : PTs X ifs t' := ⟨fun pins s σ H Q I q => h.run pins s σ H Q I (k _ _ _ q)⟩
def yesT : En → R Bool := fun _ => .ok true
theorem dts_nil {X : Cx} {W : WX} : DTs X W [] yesT := pts_nil.wk fun σ H Q ⟨B, F, env, r, p⟩ => p H F (After.refl r.fh)
theorem dts_one {X : Cx} {W : WX} {c : Expr} {t : En → R Bool} (h : DT X W c t) : DTs X W [c] t := pts_one h
def compF (b : D → En → Option En) (t : En → R Bool) (f : En → R S) (env : En) : List D → R (List S)
  | [] => .ok []
  | d :: ds => match b d env with
    | none => .no
    | some e => match t e with
      | .ok true => match f e with
        | .ok s => match compF b t f env ds with
          | .ok ss => .ok (s :: ss)
          | _ => .no
        | _ => .no
      | .ok false => compF b t f env ds
      | _ => .no
def compR (vs : List Nat) (g : En → R (List D)) (b : D → En → Option En) (t : En → R Bool) (f : En → R S) : En → R S := fun env => (g env).bind fun ds => if ds.length ≤ 1000000 then (match compF b t f (wipeE env vs) ds with
  | .ok ss => .ok (.ow ss)
  | _ => .no) else .no
theorem million : (1000000 : Nat) ≤ sizeLine := by rw [sizeLine_eq]; decide
section
variable {X : Cx} {W : WX} {k : Nat} {pos : Pos} {tg iter elt : Expr} {ifs : List Expr} {scope : Scope} {own : List (Str × Nat)} {st : Bool} {g : En → R (List D)} {js : List Nat} {b : D → En → Option En} {t : En → R Bool} {f : En → R S}
/-- what a list comprehension's rule asks -/
theorem comp_core {vs : List Nat} {K : PySem.W.Frag} {ec : Str → Value} (hj : ∀ j ∈ js, j ∈ vs) (σ : L2.St) (H : Hp) (Q : VK) (h : tO K ec W (compR vs g b t f) σ H Q) :
    tLc (tI K ec W st g) (tG K js b) (tT K ec never t) (tO K ec never f) vs σ H Q := by
  obtain ⟨B, F, env, r, p⟩ := h
  refine ⟨B, F, env, r, ?_⟩
  unfold compR at p
  cases e : g env with
  | er c => rw [e] at p; exact p
  | no => rw [e] at p; exact p
  | ok ds =>
    rw [e] at p
    replace p : PoO K ec W F H σ Q (if ds.length ≤ 1000000 then (match compF b t f (wipeE env vs) ds with | .ok ss => .ok (.ow ss) | _ => .no) else .no) := p
    split at p
    case isFalse => exact p.elim
    rename_i hlen
    cases e2 : compF b t f (wipeE env vs) ds with
    | er c => rw [e2] at p; exact p.elim
    | no => rw [e2] at p; exact p.elim
    | ok tot =>
    rw [e2] at p
    intro J H1 F1 a1 io L hL
    have r1 : Rel K B F1 H1 (wipeE env vs) (wipe σ vs) := (r.after a1).wipe _
    obtain ⟨go, stp, yld⟩ := io
    have sG : ∀ {Fc H' : Hp}, After F1 H1 Fc H' → Same (if st = true then F1 else H1) H' := fun {Fc H'} x => by
      cases st with
      | true => exact x.ff.trans x.fh
      | false => exact x.hh
    refine ⟨fun i m H2 => m = ds.length - i ∧ i ≤ ds.length ∧ ∃ Fc acc ss as rest, After F1 H1 Fc H2 ∧ Fc L = none ∧ H2 L = some (.lst acc) ∧ OwAll K Fc H2 acc ss as ∧ (L :: as).Nodup ∧ (∀ a ∈ as, H1 a = none) ∧ ss.length ≤ i ∧ compF b t f (wipeE env vs) (ds.drop i) = .ok rest ∧ tot = ss ++ rest,
      ⟨ds.length, by simp, Nat.zero_le _, F1, [], [], [], tot, After.newO a1.fh hL, a1.fh.free hL, upd_same, .nil, by simp, by simp, by simp, e2, rfl⟩, ?_⟩
    rintro i m H2 ⟨rfl, hi, Fc, acc, ss, as, rest, x, nL, eL, ow, nd, fr, hss, ec, et⟩
    by_cases hlt : i < ds.length
    · refine .inr ⟨go i H2 (sG x) hlt, fun H' => ∃ Fc acc ss as rest, After F1 H1 Fc H' ∧ Fc L = none ∧ H' L = some (.lst acc) ∧ OwAll K Fc H' acc ss as ∧ (L :: as).Nodup ∧ (∀ a ∈ as, H1 a = none) ∧ ss.length ≤ i + 1 ∧ compF b t f (wipeE env vs) (ds.drop (i + 1)) = .ok rest ∧ tot = ss ++ rest,
        fun H' h => ⟨ds.length - (i + 1), by omega, rfl, hlt, h⟩, fun v H' y => ?_⟩
      obtain ⟨d, F2, ed, x2, hd⟩ := yld i H2 Fc v H' (sG x) x.ff x.fh hlt y
      have eds : ds.drop i = d :: ds.drop (i + 1) := by
        rw [List.drop_eq_getElem_cons hlt]
        congr 1
        rw [List.getElem?_eq_getElem hlt] at ed
        exact Option.some.inj ed
      rw [eds] at ec
      simp only [compF] at ec
      cases e3 : b d (wipeE env vs) with
      | none => rw [e3] at ec; cases ec
      | some env1 =>
      rw [e3] at ec
      have keep : ∀ {G : Hp} {H4 : Hp}, After Fc H2 G H4 → G L = none ∧ H4 L = some (.lst acc) ∧ OwAll K G H4 acc ss as ∧ After F1 H1 G H4 := fun {G H4} z => by
        have k1 := z.keepO ⟨nL, _, eL, rfl⟩
        refine ⟨k1.1, k1.2.trans eL, ow.mono z.ff _ _ _ fun a ha => z.keepO ?_, x.trans z⟩
        exact ow.at _ _ _ a ha
      refine ⟨B, F2, wipeE env vs, d, env1, r1.after (x.trans x2), hd, e3, fun σ2 eo r2 => ⟨by rw [eo.wipe hj, wipe_wipe], ?_⟩⟩
      dsimp only at ec
      refine ⟨B, F2, env1, r2, ?_⟩
      cases e4 : t env1 with
      | er c => rw [e4] at ec; cases ec
      | no => rw [e4] at ec; cases ec
      | ok bb =>
      rw [e4] at ec
      intro H3 F3 x3
      cases bb with
      | false =>
        rw [if_neg Bool.false_ne_true]
        obtain ⟨k1, k2, k3, k4⟩ := keep (x2.trans x3)
        exact ⟨F3, acc, ss, as, rest, k4, k1, k2, k3, nd, fr, Nat.le_succ_of_le hss, ec, et⟩
      | true =>
        rw [if_pos rfl]
        dsimp only at ec
        refine ⟨B, F3, env1, r2.after x3, ?_⟩
        cases e5 : f env1 with
        | er c => rw [e5] at ec; cases ec
        | no => rw [e5] at ec; cases ec
        | ok s =>
        rw [e5] at ec
        dsimp only at ec
        cases e6 : compF b t f (wipeE env vs) (ds.drop (i + 1)) with
        | er c => rw [e6] at ec; cases ec
        | no => rw [e6] at ec; cases ec
        | ok rs =>
        rw [e6] at ec
        cases ec
        intro w H4 F4 bs x4 o4 n4 f4
        obtain ⟨k1, k2, k3, k4⟩ := keep ((x2.trans x3).trans x4)
        have hacc : acc.length = ss.length := ow.len
        refine ⟨acc, k2, by have := million; omega, ?_⟩
        have bnew : ∀ a ∈ bs, H2 a = none := fun a ha => (x2.trans x3).hh.free (f4 a ha)
        have neb : ∀ a ∈ bs, a ≠ L := fun a ha z => by rw [z] at ha; have := bnew L ha; rw [eL] at this; cases this
        have nea : ∀ a ∈ as, a ≠ L := fun a ha z => by rw [z] at ha; exact (List.nodup_cons.mp nd).1 ha
        have sU : After F1 H1 F4 (upd H4 L (.lst (acc ++ [w]))) := by
          exact ⟨k4.ff, k4.fh.updR _ _ k1, k4.hh.updR _ _ hL, k4.nw⟩
        have oa : OwAll K F4 (upd H4 L (.lst (acc ++ [w]))) (acc ++ [w]) (ss ++ [s]) (as ++ (bs ++ [])) := by
          refine OwAll.app (OwAll.mono (Same.refl _) _ _ _ k3 fun a ha => ⟨?_, upd_ne (nea a ha)⟩) (.cons (Ow.mono (Same.refl _) _ _ _ o4 fun a ha => ⟨?_, upd_ne (neb a ha)⟩) .nil)
          · exact (k3.at _ _ _ a ha).1
          · exact (o4.at _ _ _ a ha).1
        refine ⟨F4, acc ++ [w], ss ++ [s], as ++ (bs ++ []), rs, sU, k1, upd_same, oa, ?_, ?_, ?_, by first | exact e6 | rfl, ?_⟩
        · rw [List.append_nil]
          refine List.nodup_cons.mpr ⟨fun z => ?_, List.nodup_append.mpr ⟨(List.nodup_cons.mp nd).2, n4, fun a ha b hb e => ?_⟩⟩
          · rcases List.mem_append.mp z with z | z
            · exact nea L z rfl
            · exact neb L z rfl
          · subst e
            have h1 := bnew a hb
            obtain ⟨_, vs, h2, _⟩ := ow.at _ _ _ a ha
            rw [h1] at h2; cases h2
        · intro a ha
          rw [List.append_nil] at ha
          rcases List.mem_append.mp ha with z | z
          · exact fr a z
          · exact x.hh.free (bnew a z)
        · rw [List.length_append]; exact Nat.succ_le_succ hss
        · rw [et, List.append_assoc]; rfl
    · have e7 : i = ds.length := by omega
      refine .inl ⟨stp i H2 (sG x) (by omega), ?_⟩
      rw [e7, List.drop_length] at ec
      cases ec
      rw [List.append_nil] at et
      subst et
      exact p _ H2 Fc (L :: as) (a1.trans x) (.ow nL eL ow) nd fun a ha => by
        rcases List.mem_cons.mp ha with z | z
        · subst z; exact a1.hh.free hL
        · exact a1.hh.free (fr a z)
theorem do_comp (c : Cxt X W k) (hi : DI X tg W st iter g) (ok : BlkOk X.N X.env.scope scope own)
    (hg : ∀ (s : Shared) (H : Hp) (C : Addr) (cl : List (Str × Addr)) (fp : List Addr), DG (X.blk s H scope (compEnvC scope cl C X.env) fp) tg js b)
    (ht : ∀ (s : Shared) (H : Hp) (C : Addr) (cl : List (Str × Addr)) (fp : List Addr), DTs (X.blk s H scope (compEnvC scope cl C X.env) fp) never ifs t)
    (he : ∀ (s : Shared) (H : Hp) (C : Addr) (cl : List (Str × Addr)) (fp : List Addr), DO (X.blk s H scope (compEnvC scope cl C X.env) fp) never elt f)
    (hj : ∀ j ∈ js, j ∈ own.map (·.2) := by decide) (hs : ∀ x, foldedSetIterable iter X.env x = pure x := by intro _; rfl) :
    DO X W (.ListComp elt [⟨tg, iter, ifs, 0⟩] scope pos) (compR (own.map (·.2)) g b t f) :=
  (pe_lc (g := tG X.K js b) (tt := tT X.K (ecOf X.mg) never t) (te := tO X.K (ecOf X.mg) never f) c.calm c.nd hi ok hg ht he hs).wk fun σ H Q h => comp_core hj σ H Q h
/-- a block's context -/
theorem Cxt.blk (c : Cxt X W k) (s : Shared) (H : Hp) (scope : Scope) (e : Env) (fp : List Addr) : Cxt (X.blk s H scope e fp) never k := ⟨c.calm, c.nd, takes0, c.rm, c.gd, PassesOwn.never⟩
end
end DL
namespace DL
open PySem PySem.Spec PyProof.Rows L2
variable [Tabs]
/-- a statement's outcome -/
inductive SR where
  | nx (e : En) | rt (s : S) | bk (e : En) | ct (e : En) | er (c : Str) (e : En) | no
/-- what is shared grows by what is younger than the entry -/
structure AfterS (B F F' : Hp) : Prop where
  ff : Same F F'
  nw : ∀ a o, F' a = some o → F a = none → B a = none
theorem AfterS.refl {B F : Hp} : AfterS B F F := ⟨Same.refl _, fun a o e n => by rw [n] at e; cases e⟩
theorem AfterS.trans {B F F1 F2 : Hp} (x : AfterS B F F1) (y : AfterS B F1 F2) : AfterS B F F2 := ⟨x.ff.trans y.ff, fun a o e n => by
  cases q : F1 a with
  | some u => exact x.nw a u q n
  | none => exact y.nw a o e q⟩
theorem After.toS {B F H F' H' : Hp} (x : After F H F' H') (b : Same B H) : AfterS B F F' := ⟨x.ff, fun a o e n => b.free (x.nw a o e n)⟩
section
variable (K : PySem.W.Frag) (ec : Str → Value) (W : WX)
def PoS (B F : Hp) (D : Ends) : SR → Prop
  | .nx e => ∀ σ' H' F', AfterS B F F' → Rel K B F' H' e σ' → D.nx σ' H'
  | .bk e => ∀ σ' H' F', AfterS B F F' → Rel K B F' H' e σ' → D.bk σ' H'
  | .ct e => ∀ σ' H' F', AfterS B F F' → Rel K B F' H' e σ' → D.ct σ' H'
  | .er c e => ∀ σ' H' F', AfterS B F F' → Rel K B F' H' e σ' → W (ec c) none σ' H'
  | .rt s => ∀ v H' F' as, AfterS B F F' → Same B H' → Same F' H' → Ow K F' H' v s as → as.Nodup → (∀ a ∈ as, B a = none) → D.rt v H'
  | .no => False
def tS (T : En → SR) : TS := fun D σ H => ∃ B F env, Rel K B F H env σ ∧ PoS K ec W B F D (T env)
end
def DS (X : Cx) (W : WX) (st : Stmt) (T : En → SR) : Prop := PS X st (tS X.K (ecOf X.mg) W T)
def DSs (X : Cx) (W : WX) (sts : List Stmt) (T : En → SR) : Prop := PSs X sts (tS X.K (ecOf X.mg) W T)
theorem _root_.L2.PS.wk {X : Cx} {st : Stmt} {t t' : TS} (h : PS X st t) (k : ∀ D σ H, t' D σ H → t D σ H) : PS X st t' := ⟨fun pins s σ H D I q => h.run pins s σ H D I (k _ _ _ q)⟩
theorem _root_.L2.PSs.wk {X : Cx} {st : List Stmt} {t t' : TS} (h : PSs X st t) (k : ∀ D σ H, t' D σ H → t D σ H) : PSs X st t' := ⟨fun pins s σ H D I q => h.run pins s σ H D I (k _ _ _ q)⟩
def SR.sq (r : SR) (k : En → SR) : SR := match r with
  | .nx e => k e
  | .rt s => .rt s
  | .bk e => .bk e
  | .ct e => .ct e
  | .er c e => .er c e
  | .no => .no
def R.st {A : Type} (r : R A) (env : En) (k : A → SR) : SR := match r with
  | .ok a => k a
  | .er c => .er c env
  | .no => .no
section
variable {K : PySem.W.Frag} {ec : Str → Value} {W : WX} {B F F' H : Hp} {D : Ends} {env : En} {σ : L2.St} {m : Md}
theorem PoS.after {r : SR} (p : PoS K ec W B F D r) (x : AfterS B F F') : PoS K ec W B F' D r := by
  cases r with
  | no => exact p
  | rt s => exact fun v H2 F2 as a => p v H2 F2 as (x.trans a)
  | nx e => exact fun σ2 H2 F2 a => p σ2 H2 F2 (x.trans a)
  | bk e => exact fun σ2 H2 F2 a => p σ2 H2 F2 (x.trans a)
  | ct e => exact fun σ2 H2 F2 a => p σ2 H2 F2 (x.trans a)
  | er c e => exact fun σ2 H2 F2 a => p σ2 H2 F2 (x.trans a)
/-- an expression within a statement -/
theorem tD.st {f : En → R DL.D} {k : DL.D → SR} (r : Rel K B F H env σ) (p : PoS K ec W B F D ((f env).st env k)) {Q : VK}
    (h : ∀ v H' F' d, After F H F' H' → Rel K B F' H' env σ → Rp K m F' H' v d → PoS K ec W B F' D (k d) → Q v H') : tD K ec W m f σ H Q := by
  refine ⟨B, F, env, r, ?_⟩
  cases e : f env with
  | ok d => rw [e] at p; exact fun v H' F' a q => h v H' F' d a (r.after a) q (PoS.after (r := k d) p (a.toS r.bh))
  | er c => rw [e] at p; exact fun H' F' a => p σ H' F' (a.toS r.bh) (r.after a)
  | no => rw [e] at p; exact p
theorem tO.st {f : En → R S} {k : S → SR} (r : Rel K B F H env σ) (p : PoS K ec W B F D ((f env).st env k)) {Q : VK}
    (h : ∀ v H' F' s as, After F H F' H' → Rel K B F' H' env σ → Ow K F' H' v s as → as.Nodup → (∀ a ∈ as, H a = none) → PoS K ec W B F' D (k s) → Q v H') : tO K ec W f σ H Q := by
  refine ⟨B, F, env, r, ?_⟩
  cases e : f env with
  | ok d => rw [e] at p; exact fun v H' F' as a o n fr => h v H' F' d as a (r.after a) o n fr (PoS.after (r := k d) p (a.toS r.bh))
  | er c => rw [e] at p; exact fun H' F' a => p σ H' F' (a.toS r.bh) (r.after a)
  | no => rw [e] at p; exact p
theorem tT.st {f : En → R Bool} {k : Bool → SR} (r : Rel K B F H env σ) (p : PoS K ec W B F D ((f env).st env k)) {Q : Bool → Hp → Prop}
    (h : ∀ b H' F', After F H F' H' → Rel K B F' H' env σ → PoS K ec W B F' D (k b) → Q b H') : tT K ec W f σ H Q := by
  refine ⟨B, F, env, r, ?_⟩
  cases e : f env with
  | ok d => rw [e] at p; exact fun H' F' a => h d H' F' a (r.after a) (PoS.after (r := k d) p (a.toS r.bh))
  | er c => rw [e] at p; exact fun H' F' a => p σ H' F' (a.toS r.bh) (r.after a)
  | no => rw [e] at p; exact p
theorem tI.st {sb : Bool} {f : En → R (List DL.D)} {k : List DL.D → SR} (r : Rel K B F H env σ) (p : PoS K ec W B F D ((f env).st env k)) {Q : It → Hp → Prop}
    (h : ∀ J H' F' ds, After F H F' H' → Rel K B F' H' env σ → ItOk K (if sb then F' else H') J F' ds → PoS K ec W B F' D (k ds) → Q J H') : tI K ec W sb f σ H Q := by
  refine ⟨B, F, env, r, ?_⟩
  cases e : f env with
  | ok d => rw [e] at p; exact fun J H' F' a q => h J H' F' d a (r.after a) q (PoS.after (r := k d) p (a.toS r.bh))
  | er c => rw [e] at p; exact fun H' F' a => p σ H' F' (a.toS r.bh) (r.after a)
  | no => rw [e] at p; exact p
end
section
variable {X : Cx} {W : WX} {k : Nat} {m : Md} {pos pos' : Pos} {e c tg iter : Expr} {f : En → R D} {fo : En → R S} {t : En → R Bool} {st : Stmt} {sts body : List Stmt} {T U : En → SR}
def nxS : En → SR := fun env => .nx env
def sqS (T U : En → SR) : En → SR := fun env => (T env).sq U
theorem dss_nil : DSs X W [] nxS := pss_nil.wk fun D σ H ⟨B, F, env, r, p⟩ => p σ H F AfterS.refl r
theorem dss_cons (h1 : DS X W st T) (h2 : DSs X W sts U) : DSs X W (st :: sts) (sqS T U) := (pss_cons h1 h2).wk fun D σ H ⟨B, F, env, r, p⟩ => by
  refine ⟨B, F, env, r, ?_⟩
  unfold sqS SR.sq at p
  cases e : T env with
  | nx e1 => rw [e] at p; exact fun σ2 H2 F2 a r2 => ⟨B, F2, e1, r2, PoS.after (r := U e1) p a⟩
  | rt s => rw [e] at p; exact p
  | bk s => rw [e] at p; exact p
  | ct s => rw [e] at p; exact p
  | er c s => rw [e] at p; exact p
  | no => rw [e] at p; exact p
theorem dss_one (h1 : DS X W st T) : DSs X W [st] T := pss_one h1
theorem ds_pass : DS X W (.Pass pos) nxS := ps_pass.wk fun D σ H ⟨B, F, env, r, p⟩ => p σ H F AfterS.refl r
theorem ds_break : DS X W (.Break pos) (fun env => .bk env) := ps_break.wk fun D σ H ⟨B, F, env, r, p⟩ => p σ H F AfterS.refl r
theorem ds_cont : DS X W (.Continue pos) (fun env => .ct env) := ps_continue.wk fun D σ H ⟨B, F, env, r, p⟩ => p σ H F AfterS.refl r
theorem ds_doc {x : Str} {j : Nat} : DS X W (.Expr (.Constant (.str x) j pos) pos') nxS := ps_doc.wk fun D σ H ⟨B, F, env, r, p⟩ => p σ H F AfterS.refl r
def exS (f : En → R D) : En → SR := fun env => (f env).st env fun _ => .nx env
theorem ds_expr (he : DE X W m e f) (hs : swapsWith e none pos.line X.env = pure false := by rfl) : DS X W (.Expr e pos) (exS f) :=
  (ps_expr he hs).wk fun D σ H ⟨B, F, env, r, p⟩ => tD.st r p fun v H1 F1 d a r1 q p1 => p1 σ H1 F1 AfterS.refl r1
def rtS (f : En → R D) : En → SR := fun env => (f env).st env fun d => .rt (.fr d)
theorem ds_ret (he : DE X W .f e f) : DS X W (.Return (some e) pos) (rtS f) :=
  (ps_ret he).wk fun D σ H ⟨B, F, env, r, p⟩ => tD.st r p fun v H1 F1 d a r1 q p1 => p1 v H1 F1 [] AfterS.refl r1.bh r1.fh (.fr q) .nil fun _ h => by cases h
def rtO (f : En → R S) : En → SR := fun env => (f env).st env fun s => .rt s
theorem ds_retO (he : DO X W e fo) : DS X W (.Return (some e) pos) (rtO fo) :=
  (ps_ret he).wk fun D σ H ⟨B, F, env, r, p⟩ => tO.st r p fun v H1 F1 s as a r1 o n fr p1 => p1 v H1 F1 as AfterS.refl r1.bh r1.fh o n fun b hb => r.bh.free (fr b hb)
theorem ds_retN : DS X W (.Return none pos) (fun _ => .rt (.fr .none)) := ps_retN.wk fun D σ H ⟨B, F, env, r, p⟩ => p .non H F [] AfterS.refl r.bh r.fh (.fr .non) .nil fun _ h => by cases h
/-- a slot's own value is handed out -/
def rtV (i : Nat) : En → SR := fun env => match env[i]? with
  | some (some (.v s)) => .rt s
  | _ => .no
theorem ds_retV {x : Str} (i : Nat) (hN : X.N[i]? = some x := by rfl) (hv : Vis X.env.scope x := by first | exact Or.inl rfl | exact Or.inr (Or.inl rfl) | exact Or.inr (Or.inr rfl)) (hd : (x == ("__debug__" : Str)) = false := by decide)
    (hcd : (x == ("__classdict__" : Str)) = false := by decide) : DS X W (.Return (some (.Name x pos')) pos) (rtV i) :=
  (ps_ret (pe_var hN hv hd hcd)).wk fun D σ H ⟨B, F, env, r, p⟩ => by
    unfold rtV at p
    split at p
    · rename_i s e
      obtain ⟨as, h1, h2, h3⟩ := r.sl
      obtain ⟨v, bs, q1, q2, q3⟩ := h1.get e
      cases q2 with
      | v q2 => exact ⟨v, q1, p v H F bs AfterS.refl r.bh r.fh q2 (h2.sublist q3) fun b hb => h3 b (q3.subset hb)⟩
    · exact p.elim
def ifS (t : En → R Bool) (T U : En → SR) : En → SR := fun env => (t env).st env fun b => match b with
  | true => T env
  | false => U env
theorem ds_if {a b : List Stmt} (hc : DT X W c t) (ha : DSs X W a T) (hb : DSs X W b U) : DS X W (.If c a b pos) (ifS t T U) :=
  (ps_if hc ha hb).wk fun D σ H ⟨B, F, env, r, p⟩ => tT.st r p fun b H1 F1 a r1 p1 => by
    cases b with
    | true => rw [if_pos rfl]; exact ⟨B, F1, env, r1, p1⟩
    | false => rw [if_neg Bool.false_ne_true]; exact ⟨B, F1, env, r1, p1⟩
/-! assignments -/
def asS (i : Nat) (f : En → R D) : En → SR := fun env => (f env).st env fun d => .nx (env.set i (some (.v (.fr d))))
def asO (i : Nat) (f : En → R S) : En → SR := fun env => (f env).st env fun s => .nx (env.set i (some (.v s)))
theorem Rel.afterSet {K : PySem.W.Frag} {B F H F' H' : Hp} {env : En} {σ : L2.St} {i : Nat} {v : V} {s : S} {bs : List Addr} (r : Rel K B F H env σ) (x : After F H F' H') (o : Ow K F' H' v s bs) (n : bs.Nodup) (fr : ∀ a ∈ bs, H a = none) :
    Rel K B F' H' (env.set i (some (.v s))) (σ.set i (some v)) := by
  obtain ⟨as, h1, h2, h3⟩ := r.sl
  have h4 : OwEn K F' H' σ env as := h1.mono x.ff fun a ha => x.keepO (h1.at a ha)
  obtain ⟨cs, q1, q2, q3⟩ := OwEn.set (.v o) i h4 h2 n fun a ha hm => by
    obtain ⟨_, u, e, _⟩ := h1.at a hm
    rw [fr a ha] at e; cases e
  exact ⟨r.bh.trans x.hh, x.fh, cs, q1, q2, fun a ha => (q3 a ha).elim (h3 a) fun z => r.bh.free (fr a z)⟩
theorem ds_set {x : Str} (i : Nat) (nd : X.N.Nodup) (he : DE X W .f e f) (hi : X.N[i]? = some x := by rfl) (hx : Loc X.env.scope x := by first | exact Or.inl rfl | exact Or.inr rfl) (hs : swapsWith e (some (.Name x pos')) pos.line X.env = pure false := by rfl)
    (hf : X.fn x = true ∨ X.env.scope.names.lookup x = some .local := by first | exact Or.inl rfl | exact Or.inr rfl) : DS X W (.Assign [.Name x pos'] e pos) (asS i f) :=
  (ps_set nd hi hx he hs hf).wk fun D σ H ⟨B, F, env, r, p⟩ => tD.st r p fun v H1 F1 d a r1 q p1 => p1 _ H1 F1 AfterS.refl (r1.setF q)
theorem ds_setO {x : Str} (i : Nat) (nd : X.N.Nodup) (he : DO X W e fo) (hi : X.N[i]? = some x := by rfl) (hx : Loc X.env.scope x := by first | exact Or.inl rfl | exact Or.inr rfl) (hs : swapsWith e (some (.Name x pos')) pos.line X.env = pure false := by rfl)
    (hf : X.fn x = true ∨ X.env.scope.names.lookup x = some .local := by first | exact Or.inl rfl | exact Or.inr rfl) : DS X W (.Assign [.Name x pos'] e pos) (asO i fo) :=
  (ps_set nd hi hx he hs hf).wk fun D σ H ⟨B, F, env, r, p⟩ => tO.st r p fun v H1 F1 s as a r1 o n fr p1 => p1 _ H1 F1 AfterS.refl (r.afterSet a o n fr)
/-- name = [..], on one line, the name a local of the def -/
theorem ds_setC {y : Str} {py spos : Pos} {elt : Expr} {ifs : List Expr} {scope : Scope} {own : List (Str × Nat)} {sb : Bool} {g : En → R (List D)} {js : List Nat} {b : D → En → Option En} {tt : En → R Bool} (i : Nat) (c : Cxt X W k) (hi : DI X tg W sb iter g) (ok : BlkOk X.N X.env.scope scope own)
    (hg : ∀ (s : Shared) (H : Hp) (C : Addr) (cl : List (Str × Addr)) (fp : List Addr), DG (X.blk s H scope (compEnvC scope cl C X.env) fp) tg js b)
    (ht : ∀ (s : Shared) (H : Hp) (C : Addr) (cl : List (Str × Addr)) (fp : List Addr), DTs (X.blk s H scope (compEnvC scope cl C X.env) fp) never ifs tt)
    (he : ∀ (s : Shared) (H : Hp) (C : Addr) (cl : List (Str × Addr)) (fp : List Addr), DO (X.blk s H scope (compEnvC scope cl C X.env) fp) never elt fo)
    (hy : X.N[i]? = some y := by rfl) (hyl : X.env.scope.names.lookup y = some .local := by rfl) (hsw : swapsWith (.ListComp elt [⟨tg, iter, ifs, 0⟩] scope pos) (some (.Name y py)) spos.line X.env = pure true := by exact sw_true rfl rfl rfl (by decide +kernel))
    (hj : ∀ j ∈ js, j ∈ own.map (·.2) := by decide) (hs : ∀ x, foldedSetIterable iter X.env x = pure x := by intro _; rfl) :
    DS X W (.Assign [.Name y py] (.ListComp elt [⟨tg, iter, ifs, 0⟩] scope pos) spos) (asO i (compR (own.map (·.2)) g b tt fo)) :=
  (ps_setLc (g := tG X.K js b) (tt := tT X.K (ecOf X.mg) never tt) (te := tO X.K (ecOf X.mg) never fo) c.calm c.nd hy hyl hsw hi ok hg ht he hs).wk fun D σ H ⟨B, F, env, r, p⟩ =>
    comp_core hj σ H _ (tO.st r p fun v H1 F1 s as a r1 o n fr p1 => p1 _ H1 F1 AfterS.refl (r.afterSet a o n fr))
/-- .. shared at once -/
theorem ds_setCF {y : Str} {py spos : Pos} {elt : Expr} {ifs : List Expr} {scope : Scope} {own : List (Str × Nat)} {sb : Bool} {g : En → R (List D)} {js : List Nat} {b : D → En → Option En} {tt : En → R Bool} (i : Nat) (c : Cxt X W k) (hi : DI X tg W sb iter g) (ok : BlkOk X.N X.env.scope scope own)
    (hg : ∀ (s : Shared) (H : Hp) (C : Addr) (cl : List (Str × Addr)) (fp : List Addr), DG (X.blk s H scope (compEnvC scope cl C X.env) fp) tg js b)
    (ht : ∀ (s : Shared) (H : Hp) (C : Addr) (cl : List (Str × Addr)) (fp : List Addr), DTs (X.blk s H scope (compEnvC scope cl C X.env) fp) never ifs tt)
    (he : ∀ (s : Shared) (H : Hp) (C : Addr) (cl : List (Str × Addr)) (fp : List Addr), DO (X.blk s H scope (compEnvC scope cl C X.env) fp) never elt fo)
    (hy : X.N[i]? = some y := by rfl) (hyl : X.env.scope.names.lookup y = some .local := by rfl) (hsw : swapsWith (.ListComp elt [⟨tg, iter, ifs, 0⟩] scope pos) (some (.Name y py)) spos.line X.env = pure true := by exact sw_true rfl rfl rfl (by decide +kernel))
    (hj : ∀ j ∈ js, j ∈ own.map (·.2) := by decide) (hs : ∀ x, foldedSetIterable iter X.env x = pure x := by intro _; rfl) :
    DS X W (.Assign [.Name y py] (.ListComp elt [⟨tg, iter, ifs, 0⟩] scope pos) spos) (asS i (unO (compR (own.map (·.2)) g b tt fo))) :=
  (ps_setLc (g := tG X.K js b) (tt := tT X.K (ecOf X.mg) never tt) (te := tO X.K (ecOf X.mg) never fo) c.calm c.nd hy hyl hsw hi ok hg ht he hs).wk fun D σ H ⟨B, F, env, r, p⟩ =>
    comp_core hj σ H _ (tO.ofD (tD.st r p fun v H1 F1 d a r1 q p1 => p1 _ H1 F1 AfterS.refl (r1.setF q)))
/-- a tuple's parts, stored -/
def asG (b : D → En → Option En) (f : En → R D) : En → SR := fun env => (f env).st env fun d => match b d env with
  | some e => .nx e
  | none => .no
theorem ds_asg {js : List Nat} {b : D → En → Option En} (he : DE X W .f e f) (hg : DG X tg js b) (hs : swapsWithSole [tg] e pos.line X.env = pure false := by rfl) (hw : swappedStores [tg] e X.env = pure none := by rfl)
    (h1 : (assignEach [tg] X.env).map (·.2) = [assign tg X.env] := by rfl) : DS X W (.Assign [tg] e pos) (asG b f) :=
  (ps_asg he hg hs hw h1).wk fun D σ H ⟨B, F, env, r, p⟩ => tD.st r p fun v H1 F1 d a r1 q p1 => by
    cases z : b d env with
    | none => rw [z] at p1; exact p1.elim
    | some e1 => rw [z] at p1; exact ⟨B, F1, env, d, e1, r1, q, z, fun σ2 _ r2 => p1 σ2 H1 F1 AfterS.refl r2⟩
def parS (i j : Nat) (fs : En → R (List D)) : En → SR := fun env => (fs env).st env fun ds => match ds with
  | [d, d'] => .nx ((env.set i (some (.v (.fr d)))).set j (some (.v (.fr d'))))
  | _ => .no
theorem ds_par {x y : Str} {px py pt pt2 : Pos} {kt k2 : Nat} {a b : Expr} {fs : En → R (List D)} (i j : Nat) (cx : Cxt X W k) (ha : DA X W [.f, .f] [a, b] fs) (hi : X.N[i]? = some x := by rfl) (hj : X.N[j]? = some y := by rfl) (hij : i ≠ j := by decide) (hx : X.env.scope.names.lookup x = some .local := by rfl)
    (hy : X.env.scope.names.lookup y = some .local := by rfl) (hw : swappedStores [.Tuple [.Name x px, .Name y py] kt pt] (.Tuple [a, b] k2 pt2) X.env = pure (some [x, y]) := by rfl) (hs : swapsWithSole [.Tuple [.Name x px, .Name y py] kt pt] (.Tuple [a, b] k2 pt2) pos.line X.env = pure false := by rfl) :
    DS X W (.Assign [.Tuple [.Name x px, .Name y py] kt pt] (.Tuple [a, b] k2 pt2) pos) (parS i j fs) :=
  (ps_par cx.calm cx.nd hi hj hij hx hy ha hw hs).wk fun D σ H ⟨B, F, env, r, p⟩ => by
    refine ⟨B, F, env, r, ?_⟩
    unfold parS at p
    cases e : fs env with
    | er c => rw [e] at p; exact fun H' F' a => p σ H' F' (a.toS r.bh) (r.after a)
    | no => rw [e] at p; exact p
    | ok ds =>
      rw [e] at p
      intro vs H' F' a q
      cases q with
      | cons q1 q => cases q with
        | cons q2 q => cases q with
          | nil => exact ⟨_, _, rfl, p _ H' F' (a.toS r.bh) (((r.after a).setF q1).setF q2)⟩
end
end DL
namespace DL
open PySem PySem.Spec PyProof.Rows L2
variable [Tabs]
/-! ### loops -/
def forF (b : D → En → Option En) (T : En → SR) : List D → En → SR
  | [], env => .nx env
  | d :: ds, env => match b d env with
    | none => .no
    | some e => match T e with
      | .nx e => forF b T ds e
      | .ct e => forF b T ds e
      | .bk e => .nx e
      | .rt s => .rt s
      | .er c e => .er c e
      | .no => .no
def forS (g : En → R (List D)) (b : D → En → Option En) (T : En → SR) : En → SR := fun env => (g env).st env fun ds => forF b T ds env
def whileF (t : En → R Bool) (T : En → SR) : Nat → En → SR
  | 0, _ => .no
  | n + 1, env => (t env).st env fun b => match b with
    | true => match T env with
      | .nx e => whileF t T n e
      | .ct e => whileF t T n e
      | .bk e => .nx e
      | .rt s => .rt s
      | .er c e => .er c e
      | .no => .no
    | false => .nx env
def whileS (fuel : En → Nat) (t : En → R Bool) (T : En → SR) : En → SR := fun env => whileF t T (fuel env) env
section
variable {X : Cx} {W : WX} {k : Nat} {m : Md} {pos pos' : Pos} {e c tg iter : Expr} {f : En → R D} {fo : En → R S} {t : En → R Bool} {st : Stmt} {sts body : List Stmt} {T U : En → SR}
theorem ds_for {g : En → R (List D)} {b : D → En → Option En} {js : List Nat} (cx : Cxt X W k) (hi : DI X tg W true iter g) (hg : DG X tg js b) (hb : DSs X W body T) (hs : ∀ x, foldedSetIterable iter X.env x = pure x := by intro _; rfl) : DS X W (.For tg iter body [] pos) (forS g b T) :=
  (ps_for cx.po cx.calm hi hg hb hs).wk fun D σ H ⟨B, F, env, r, p⟩ => tI.st r p fun J H1 F1 ds a r1 io p1 => by
    obtain ⟨go, stp, yld⟩ := io
    refine ⟨fun i m σ2 H2 => m = ds.length - i ∧ i ≤ ds.length ∧ ∃ F2 env2, AfterS B F1 F2 ∧ Rel X.K B F2 H2 env2 σ2 ∧ PoS X.K (ecOf X.mg) W B F2 D (forF b T (ds.drop i) env2), ⟨ds.length, by simp, Nat.zero_le _, F1, env, AfterS.refl, r1, p1⟩, ?_⟩
    rintro i m σ2 H2 ⟨rfl, hi, F2, env2, x, r2, p2⟩
    by_cases hlt : i < ds.length
    · refine .inr ⟨go i H2 (x.ff.trans r2.fh) hlt, fun σ' H' => ∃ F2 env2, AfterS B F1 F2 ∧ Rel X.K B F2 H' env2 σ' ∧ PoS X.K (ecOf X.mg) W B F2 D (forF b T (ds.drop (i + 1)) env2), fun σ' H' h => ⟨ds.length - (i + 1), by omega, rfl, hlt, h⟩, fun v H' y => ?_⟩
      obtain ⟨d, F3, ed, x3, hd⟩ := yld i H2 F2 v H' (x.ff.trans r2.fh) x.ff r2.fh hlt y
      have eds : ds.drop i = d :: ds.drop (i + 1) := by
        rw [List.drop_eq_getElem_cons hlt]
        congr 1
        rw [List.getElem?_eq_getElem hlt] at ed
        exact Option.some.inj ed
      have xs : AfterS B F2 F3 := x3.toS r2.bh
      rw [eds] at p2
      simp only [forF] at p2
      cases e3 : b d env2 with
      | none => rw [e3] at p2; exact p2.elim
      | some env3 =>
      rw [e3] at p2
      refine ⟨B, F3, env2, d, env3, r2.after x3, hd, e3, fun σ3 _ r3 => ⟨B, F3, env3, r3, ?_⟩⟩
      dsimp only at p2
      cases e4 : T env3 with
      | no => rw [e4] at p2; exact p2.elim
      | rt s => rw [e4] at p2; exact PoS.after (r := .rt s) p2 xs
      | bk e => rw [e4] at p2; exact PoS.after (r := .nx e) p2 xs
      | er c e => rw [e4] at p2; exact PoS.after (r := .er c e) p2 xs
      | nx e => rw [e4] at p2; exact fun σ4 H4 F4 a4 r4 => ⟨F4, e, (x.trans xs).trans a4, r4, PoS.after p2 (xs.trans a4)⟩
      | ct e => rw [e4] at p2; exact fun σ4 H4 F4 a4 r4 => ⟨F4, e, (x.trans xs).trans a4, r4, PoS.after p2 (xs.trans a4)⟩
    · have e7 : i = ds.length := by omega
      refine .inl ⟨stp i H2 (x.ff.trans r2.fh) (by omega), ?_⟩
      rw [e7, List.drop_length] at p2
      exact p2 σ2 H2 F2 AfterS.refl r2
theorem ds_while (fuel : En → Nat) (cx : Cxt X W k) (hc : DT X W c t) (hb : DSs X W body T) : DS X W (.While c body [] pos) (whileS fuel t T) :=
  (ps_while cx.po hc hb).wk fun D σ H ⟨B, F, env, r, p⟩ => by
    refine ⟨fun m σ2 H2 => ∃ F2 env2, AfterS B F F2 ∧ Rel X.K B F2 H2 env2 σ2 ∧ PoS X.K (ecOf X.mg) W B F2 D (whileF t T m env2), ⟨fuel env, F, env, AfterS.refl, r, p⟩, ?_⟩
    rintro m σ2 H2 ⟨F2, env2, x, r2, p2⟩
    cases m with
    | zero => exact p2.elim
    | succ n =>
      simp only [whileF] at p2
      refine tT.st r2 p2 fun b H3 F3 a r3 p3 => ?_
      have xs : AfterS B F2 F3 := a.toS r2.bh
      cases b with
      | false => rw [if_neg Bool.false_ne_true]; exact p3 σ2 H3 F3 AfterS.refl r3
      | true =>
        rw [if_pos rfl]
        refine ⟨fun σ' H' => ∃ F2 env2, AfterS B F F2 ∧ Rel X.K B F2 H' env2 σ' ∧ PoS X.K (ecOf X.mg) W B F2 D (whileF t T n env2), fun σ' H' h => ⟨n, Nat.lt_succ_self n, h⟩, B, F3, env2, r3, ?_⟩
        dsimp only at p3
        cases e4 : T env2 with
        | no => rw [e4] at p3; exact p3.elim
        | rt s => rw [e4] at p3; exact p3
        | bk e => rw [e4] at p3; exact p3
        | er c e => rw [e4] at p3; exact p3
        | nx e => rw [e4] at p3; exact fun σ4 H4 F4 a4 r4 => ⟨F4, e, (x.trans xs).trans a4, r4, PoS.after p3 a4⟩
        | ct e => rw [e4] at p3; exact fun σ4 H4 F4 a4 r4 => ⟨F4, e, (x.trans xs).trans a4, r4, PoS.after p3 a4⟩

/-! ### a slot's own list is changed -/
theorem Rel.mut {K : PySem.W.Frag} {B F H F' H' : Hp} {env : En} {σ : L2.St} {i : Nat} {ss : List S} (r : Rel K B F H env σ) (x : After F H F' H') (e : env[i]? = some (some (.v (.ow ss)))) :
    ∃ a vs bs, σ[i]? = some (some (.ref a)) ∧ F' a = none ∧ H' a = some (.lst vs) ∧ OwAll K F' H' vs ss bs ∧ a ∉ bs ∧ bs.Nodup ∧ (∀ b ∈ bs, ∃ o, H b = some o) ∧ (∃ o, H a = some o) ∧
      ∀ vs' ss' cs, OwAll K F' H' vs' ss' cs → a ∉ cs → cs.Nodup → (∀ b ∈ cs, b ∈ bs ∨ H b = none) → Rel K B F' (upd H' a (.lst vs')) (env.set i (some (.v (.ow ss')))) σ := by
  obtain ⟨as, h1, h2, h3⟩ := r.sl
  have h4 : OwEn K F' H' σ env as := h1.mono x.ff fun a ha => x.keepO (h1.at a ha)
  obtain ⟨a, vs, bs, q1, q2, q3, q4, q5, q6, q7, q8, q9⟩ := h4.mut h2 e
  refine ⟨a, vs, bs, q1, q2, q3, q4, q6, q7, fun b hb => let ⟨_, o, e, _⟩ := h1.at b (q8 b hb); ⟨o, e⟩, (let ⟨_, o, e, _⟩ := h1.at a q5; ⟨o, e⟩), fun vs' ss' cs w1 w2 w3 w4 => ?_⟩
  obtain ⟨ds, u1, u2, u3⟩ := q9 vs' ss' cs w1 w2 w3 fun b hb => (w4 b hb).imp id fun z hm => by
    obtain ⟨_, o, e, _⟩ := h1.at b hm
    rw [z] at e; cases e
  have rb := r.bh.trans x.hh
  have rf : Same F' H' := x.fh
  refine ⟨rb.updR _ _ (h3 a q5), rf.updR _ _ q2, ds, u1, u2, fun b hb => ?_⟩
  rcases u3 b hb with z | z
  · exact h3 b z
  · rcases w4 b z with w | w
    · exact h3 b (q8 b w)
    · exact r.bh.free w
/-- x.append(e), x a slot's own list -/
def apS (i : Nat) (f : En → R S) : En → SR := fun env => match env[i]? with
  | some (some (.v (.ow ss))) => (f env).st env fun s => if ss.length < 1000000 then .nx (env.set i (some (.v (.ow (ss ++ [s]))))) else .no
  | _ => .no
theorem tyV_lst {K : PySem.W.Frag} {H : Hp} {a : Addr} {xs : List V} (h : H a = some (.lst xs)) : tyV K "list" (.ref a) H := Or.inl ⟨rfl, _, Or.inl (Or.inl h)⟩
theorem ds_append {x : Str} {xp ap cp : Pos} (i : Nat) (he : DO X W e fo) (hN : X.N[i]? = some x := by rfl) (hv : Vis X.env.scope x := by first | exact Or.inl rfl | exact Or.inr (Or.inl rfl) | exact Or.inr (Or.inr rfl)) (hd : (x == ("__debug__" : Str)) = false := by decide)
    (hcd : (x == ("__classdict__" : Str)) = false := by decide) (hss : starEach [e] X.env = (false, eval e X.env) :: starEach [] X.env := by rfl)
    (hbase : attributeBase (.Name x xp) "append" X.env (eval (.Name x xp) X.env) = eval (.Name x xp) X.env := by rfl)
    (hfew : ((backTo cp (starEach [e] X.env)).all (fun x => !x.1) && (backToKw cp (keywordEach [] X.env)).all (fun x => x.1.isSome)
      && decide ([e].length + ([] : List Keyword).length + (if ([] : List Keyword).isEmpty then 0 else 1) < 30)) = true := by rfl)
    (hline : (ap.endLine == cp.line) = true := by rfl) (hplain : (backTo cp (starEach [] X.env)).any (·.1) = false := by rfl)
    (hs : swapsWith (.Call (.Attribute (.Name x xp) "append" ap) [e] [] cp) none pos.line X.env = pure false := by rfl) :
    DS X W (.Expr (.Call (.Attribute (.Name x xp) "append" ap) [e] [] cp) pos) (apS i fo) :=
  (ps_expr (pe_bm F.plainAttrs_list F.slot_list_append F.type_list_append mt_append (pe_var hN hv hd hcd) (pa_cons he pa_nil hss) hbase hfew hline hss hplain) hs).wk fun D σ H ⟨B, F, env, r, p⟩ => by
    unfold apS at p
    split at p
    · rename_i ss ee
      obtain ⟨a0, vs0, bs0, z1, z2, z3, _⟩ := r.mut (After.refl r.fh) ee
      refine ⟨.ref a0, z1, tyV_lst z3, ?_⟩
      refine tO.st r p fun v H1 F1 s as a r1 o n fr p1 => ?_
      obtain ⟨a1, vs, bs, q1, q2, q3, q4, q5, q6, q7, q8, q9⟩ := r.mut a ee
      have ea : a1 = a0 := by
        have := q1.symm.trans z1
        simpa using this
      subst ea
      replace p1 : PoS X.K (ecOf X.mg) W B F1 D (if ss.length < 1000000 then .nx (env.set i (some (.v (.ow (ss ++ [s]))))) else .no) := p1
      split at p1
      · rename_i hl
        have nas : ∀ b ∈ as, b ≠ a1 := fun b hb z => by
          obtain ⟨o', w⟩ := q8
          rw [← z, fr b hb] at w; cases w
        have nbs : ∀ b ∈ as, b ∉ bs := fun b hb z => by
          obtain ⟨o', w⟩ := q7 b z
          rw [fr b hb] at w; cases w
        refine ⟨a1, vs, v, rfl, rfl, q3, by have := q4.len; have := million; omega, ?_⟩
        refine p1 σ _ F1 AfterS.refl (q9 (vs ++ [v]) (ss ++ [s]) (bs ++ (as ++ [])) (OwAll.app q4 (.cons o .nil)) ?_ ?_ ?_)
        · intro z
          rw [List.append_nil] at z
          rcases List.mem_append.mp z with z | z
          · exact q5 z
          · exact nas a1 z rfl
        · rw [List.append_nil]
          exact List.nodup_append.mpr ⟨q6, n, fun x hx y hy z => nbs y hy (z ▸ hx)⟩
        · intro b hb
          rw [List.append_nil] at hb
          exact (List.mem_append.mp hb).imp id (fr b)
      · exact p1.elim
    · exact p.elim
end
end DL
namespace DL
open PySem PySem.Spec PyProof.Rows L2
variable [Tabs]
theorem OwAll.set {K : PySem.W.Frag} {F H : Hp} {v : V} {s : S} {cs : List Addr} (hv : Ow K F H v s cs) (nc : cs.Nodup) : ∀ {vs : List V} {ss : List S} {bs : List Addr} (n : Nat), OwAll K F H vs ss bs → bs.Nodup → (∀ b ∈ cs, b ∉ bs) →
    ∃ ds, OwAll K F H (vs.set n v) (ss.set n s) ds ∧ ds.Nodup ∧ ∀ b ∈ ds, b ∈ bs ∨ b ∈ cs
  | _, _, _, _, .nil, _, _ => ⟨[], .nil, .nil, fun b hb => by cases hb⟩
  | _, _, _, 0, .cons (bs := bs) a t, n, k => ⟨cs ++ bs, .cons hv t, List.nodup_append.mpr ⟨nc, (List.nodup_append.mp n).2.1, fun x hx y hy z => k x hx (List.mem_append_right _ (z ▸ hy))⟩, fun b hb => (List.mem_append.mp hb).elim .inr fun z => .inl (List.mem_append_right _ z)⟩
  | _, _, _, i + 1, .cons (as := as) a t, n, k => by
    have n' := List.nodup_append.mp n
    obtain ⟨ds, h1, h2, h3⟩ := OwAll.set hv nc i t n'.2.1 fun b hb z => k b hb (List.mem_append_right _ z)
    refine ⟨as ++ ds, .cons a h1, List.nodup_append.mpr ⟨n'.1, h2, fun x hx y hy z => ?_⟩, fun b hb => ?_⟩
    · subst z
      rcases h3 x hy with w | w
      · exact n'.2.2 x hx x w rfl
      · exact k x w (List.mem_append_left _ hx)
    · rcases List.mem_append.mp hb with z | z
      · exact .inl (List.mem_append_left _ z)
      · exact (h3 b z).imp (List.mem_append_right _) id
section
variable {X : Cx} {W : WX} {k : Nat} {m : Md} {pos pos' : Pos} {e c tg iter ei : Expr} {f fi : En → R D} {fo : En → R S} {t : En → R Bool} {st : Stmt} {sts body : List Stmt} {T U : En → SR}
/-- x[j] = e, x a slot's own list -/
def siS (i : Nat) (f : En → R S) (g : En → R D) : En → SR := fun env => (f env).st env fun s => match env[i]? with
  | some (some (.v (.ow ss))) => (g env).st env fun d => match d with
    | .int j => match ixN ss.length j with
      | some n => .nx (env.set i (some (.v (.ow (ss.set n s)))))
      | none => .no
    | _ => .no
  | _ => .no
theorem ds_setI {x : Str} {xp sp : Pos} (i : Nat) (he : DO X W e fo) (hi : DE X W .h ei fi) (hN : X.N[i]? = some x := by rfl) (hv : Vis X.env.scope x := by first | exact Or.inl rfl | exact Or.inr (Or.inl rfl) | exact Or.inr (Or.inr rfl)) (hd : (x == ("__debug__" : Str)) = false := by decide)
    (hcd : (x == ("__classdict__" : Str)) = false := by decide)
    (ha : ∀ v, assign (.Subscript (.Name x xp) ei sp) X.env v = (do
      let ov ← holding [v] (eval (.Name x xp) X.env)
      let iv ← holding [v, ov] (eval ei X.env)
      standAt sp
      holding [v, ov, iv] (setItem ov iv v)
      release [v, ov, iv] []) := by intro _; rfl)
    (hs : swapsWithSole [.Subscript (.Name x xp) ei sp] e pos.line X.env = pure false := by rfl) (hw : swappedStores [.Subscript (.Name x xp) ei sp] e X.env = pure none := by rfl)
    (h1 : (assignEach [.Subscript (.Name x xp) ei sp] X.env).map (·.2) = [assign (.Subscript (.Name x xp) ei sp) X.env] := by rfl) :
    DS X W (.Assign [.Subscript (.Name x xp) ei sp] e pos) (siS i fo fi) :=
  (ps_asg he (pg_sub (pe_var hN hv hd hcd) hi set_list ha) hs hw h1).wk fun D σ H ⟨B, F, env, r, p⟩ => tO.st r p fun v H1 F1 s as a r1 o n fr p1 => by
    cases ee : env[i]? with
    | none => rw [ee] at p1; exact p1.elim
    | some z => cases z with
      | none => rw [ee] at p1; exact p1.elim
      | some z => cases z with
        | m _ => rw [ee] at p1; exact p1.elim
        | xc _ => rw [ee] at p1; exact p1.elim
        | v z => cases z with
          | fr _ => rw [ee] at p1; exact p1.elim
          | tu _ => rw [ee] at p1; exact p1.elim
          | ow ss =>
    rw [ee] at p1
    obtain ⟨a0, vs0, bs0, z1, z2, z3, _⟩ := r.mut a ee
    refine ⟨.ref a0, z1, ?_⟩
    refine tD.st r1 p1 fun u H2 F2 d a2 r2 q p2 => ?_
    obtain ⟨a1, vs, bs, q1, q2, q3, q4, q5, q6, q7, q8, q9⟩ := r.mut (a.trans a2) ee
    have ea : a1 = a0 := by
      have := q1.symm.trans z1
      simpa using this
    subst ea
    cases d with
    | int j =>
      dsimp only at p2
      cases en : ixN ss.length j with
      | none => rw [en] at p2; exact p2.elim
      | some n1 =>
        rw [en] at p2
        have nas : ∀ b ∈ as, b ≠ a1 := fun b hb z => by
          obtain ⟨o', w⟩ := q8
          rw [← z, fr b hb] at w; cases w
        have nbs : ∀ b ∈ as, b ∉ bs := fun b hb z => by
          obtain ⟨o', w⟩ := q7 b z
          rw [fr b hb] at w; cases w
        have o2 : Ow X.K F2 H2 v s as := o.mono a2.ff _ _ _ fun b hb => a2.keepO (o.at _ _ _ b hb)
        obtain ⟨ds, w1, w2, w3⟩ := OwAll.set o2 n n1 q4 q6 nbs
        refine ⟨a1, vs, j, n1, rfl, q.intI, q3, by rw [q4.len]; exact en, ?_⟩
        refine p2 σ _ F2 AfterS.refl (q9 _ _ ds w1 (fun z => ?_) w2 fun b hb => (w3 b hb).imp id (fr b))
        rcases w3 a1 z with z | z
        · exact q5 z
        · exact nas a1 z rfl
    | _ => exact p2.elim
/-- y = x.pop(), x a slot's own list, its last item shared -/
def poS (i j : Nat) : En → SR := fun env => match env[i]? with
  | some (some (.v (.ow ss))) => match ss.getLast? with
    | some (.fr d) => .nx ((env.set i (some (.v (.ow ss.dropLast)))).set j (some (.v (.fr d))))
    | _ => .no
  | _ => .no
theorem OwAll.split {K : PySem.W.Frag} {F H : Hp} : ∀ {ss : List S} {vs : List V} {bs : List Addr} {s : S}, OwAll K F H vs ss bs → ss.getLast? = some s → bs.Nodup →
    ∃ v cs as, vs[vs.length - 1]? = some v ∧ Ow K F H v s cs ∧ OwAll K F H vs.dropLast ss.dropLast as ∧ as.Nodup ∧ ∀ b ∈ as, b ∈ bs
  | [], _, _, _, _, e, _ => by simp at e
  | [s], _, _, _, .cons a .nil, e, n => by
    simp at e; subst e
    exact ⟨_, _, [], rfl, a, .nil, .nil, fun b hb => by cases hb⟩
  | s :: s2 :: ss, _, _, _, .cons (as := as) a (.cons a2 t), e, n => by
    have n' := List.nodup_append.mp n
    obtain ⟨v, cs, ds, h1, h2, h3, h4, h5⟩ := OwAll.split (ss := s2 :: ss) (.cons a2 t) (by simpa [List.getLast?_cons_cons] using e) n'.2.1
    refine ⟨v, cs, as ++ ds, ?_, h2, by simpa [List.dropLast] using OwAll.cons a h3, List.nodup_append.mpr ⟨n'.1, h4, fun x hx y hy z => n'.2.2 x hx y (h5 y hy) z⟩, fun b hb => (List.mem_append.mp hb).elim (List.mem_append_left _) fun z => List.mem_append_right _ (h5 b z)⟩
    simpa using h1
theorem ds_pop {x y : Str} {xp ap cp yp : Pos} (i j : Nat) (nd : X.N.Nodup) (hN : X.N[i]? = some x := by rfl) (hv : Vis X.env.scope x := by first | exact Or.inl rfl | exact Or.inr (Or.inl rfl) | exact Or.inr (Or.inr rfl)) (hd : (x == ("__debug__" : Str)) = false := by decide)
    (hcd : (x == ("__classdict__" : Str)) = false := by decide) (hi : X.N[j]? = some y := by rfl) (hx : Loc X.env.scope y := by first | exact Or.inl rfl | exact Or.inr rfl)
    (hbase : attributeBase (.Name x xp) "pop" X.env (eval (.Name x xp) X.env) = eval (.Name x xp) X.env := by rfl) (hline : (ap.endLine == cp.line) = true := by rfl)
    (hs : swapsWith (.Call (.Attribute (.Name x xp) "pop" ap) [] [] cp) (some (.Name y yp)) pos.line X.env = pure false := by rfl) (hf : X.fn y = true ∨ X.env.scope.names.lookup y = some .local := by first | exact Or.inl rfl | exact Or.inr rfl) :
    DS X W (.Assign [.Name y yp] (.Call (.Attribute (.Name x xp) "pop" ap) [] [] cp) pos) (poS i j) :=
  (ps_set nd hi hx (pe_bm0 F.plainAttrs_list F.slot_list_pop F.type_list_pop mt_pop (pe_var hN hv hd hcd) hbase hline) hs hf).wk fun D σ H ⟨B, F, env, r, p⟩ => by
    unfold poS at p
    split at p
    · rename_i ss ee
      split at p
      · rename_i d el
        obtain ⟨a, vs, bs, q1, q2, q3, q4, q5, q6, q7, q8, q9⟩ := r.mut (After.refl r.fh) ee
        obtain ⟨v, cs, as, w1, w2, w3, w4, w5⟩ := q4.split el q6
        have r2 := q9 _ _ as w3 (fun z => q5 (w5 a z)) w4 fun b hb => .inl (w5 b hb)
        cases w2 with
        | fr w2 => exact ⟨.ref a, q1, tyV_lst q3, a, vs, v, rfl, rfl, q3, w1, p _ _ F AfterS.refl (r2.setF w2)⟩
      · exact p.elim
    · exact p.elim
def agS (i : Nat) (f : En → R D) : En → SR := fun env => match env[i]? with
  | some (some (.v (.fr (.int a)))) => (f env).st env fun d => match d with
    | .int b => .nx (env.set i (some (.v (.fr (.int (a + b))))))
    | _ => .no
  | _ => .no
theorem ds_addI {x : Str} (i : Nat) (nd : X.N.Nodup) (he : DE X W .f e f) (hi : X.N[i]? = some x := by rfl) (hx : Loc X.env.scope x := by first | exact Or.inl rfl | exact Or.inr rfl)
    (hf : X.fn x = true ∨ X.env.scope.names.lookup x = some .local := by first | exact Or.inl rfl | exact Or.inr rfl) : DS X W (.AugAssign (.Name x pos') .Add e pos) (agS i f) :=
  (ps_aug nd hi hx he ip_add hf).wk fun D σ H ⟨B, F, env, r, p⟩ => by
    unfold agS at p
    split at p
    · rename_i a ee
      obtain ⟨as, h1, _, _⟩ := r.sl
      obtain ⟨v, bs, q1, q2, _⟩ := h1.get ee
      cases q2 with
      | v q2 => cases q2 with
        | fr q2 =>
          cases q2
          refine ⟨_, q1, tD.st r p fun u H1 F1 d a1 r1 q p1 => ?_⟩
          cases d with
          | int b =>
            cases q
            exact ⟨_, _, rfl, rfl, p1 _ H1 F1 AfterS.refl (r1.setF (.int _))⟩
          | _ => exact p1.elim
    · exact p.elim

/-! ### more is forgotten, more is shared: no code -/
def fgE (env : En) : List Nat → En
  | [] => env
  | i :: is => (fgE env is).set i none
theorem Rel.forgets {K : PySem.W.Frag} {B F H : Hp} {env : En} {σ : L2.St} (r : Rel K B F H env σ) : ∀ is : List Nat, Rel K B F H (fgE env is) σ
  | [] => r
  | i :: is => (Rel.forgets r is).forget
def fgS (is : List Nat) (T : En → SR) : En → SR := fun env => T (fgE env is)
theorem ds_forget (is : List Nat) (h : DS X W st T) : DS X W st (fgS is T) := h.wk fun D σ H ⟨B, F, env, r, p⟩ => ⟨B, F, fgE env is, r.forgets is, p⟩
theorem dss_forget (is : List Nat) (h : DSs X W sts T) : DSs X W sts (fgS is T) := h.wk fun D σ H ⟨B, F, env, r, p⟩ => ⟨B, F, fgE env is, r.forgets is, p⟩
def fzE (env : En) (i : Nat) : En := match env[i]? with
  | some (some (.v s)) => env.set i (some (.v (.fr s.toD)))
  | _ => env
theorem OwEn.share {K : PySem.W.Frag} {F H : Hp} {v : V} : ∀ {σ : L2.St} {env : En} {as : List Addr} {i : Nat} {s : Sl} {bs : List Addr}, OwEn K F H σ env as → as.Nodup → env[i]? = some (some s) → σ[i]? = some (some v) → OwS K F H v s bs →
    ∃ cs ds, OwEn K F H σ (env.set i none) cs ∧ OwS K F H v s ds ∧ cs.Nodup ∧ (∀ b ∈ cs, b ∈ as) ∧ (∀ b ∈ ds, b ∈ as) ∧ ∀ b ∈ ds, b ∉ cs
  | _, _, _, _, _, _, .nil, _, e, _, _ => by simp at e
  | _, _, _, 0, _, _, .un t, _, e, _, _ => by simp at e
  | _, _, _, i + 1, _, _, .un t, n, e, f, o => by
    obtain ⟨cs, ds, h1, h2, h3, h4, h5, h6⟩ := OwEn.share (i := i) t n (by simpa using e) (by simpa using f) o
    exact ⟨cs, ds, .un h1, h2, h3, h4, h5, h6⟩
  | _, _, _, 0, _, _, .so (bs := bs) (as := as) h t, n, e, f, o => by
    simp at e f; subst e; subst f
    have n' := List.nodup_append.mp n
    exact ⟨as, bs, .un t, h, n'.2.1, fun b hb => List.mem_append_right _ hb, fun b hb => List.mem_append_left _ hb, fun b hb z => n'.2.2 b hb b z rfl⟩
  | _, _, _, i + 1, _, _, .so (bs := hs) h t, n, e, f, o => by
    have n' := List.nodup_append.mp n
    obtain ⟨cs, ds, h1, h2, h3, h4, h5, h6⟩ := OwEn.share (i := i) t n'.2.1 (by simpa using e) (by simpa using f) o
    refine ⟨hs ++ cs, ds, .so h h1, h2, List.nodup_append.mpr ⟨n'.1, h3, fun x hx y hy z => n'.2.2 x hx y (h4 y hy) z⟩, fun b hb => (List.mem_append.mp hb).elim (List.mem_append_left _) fun z => List.mem_append_right _ (h4 b z), fun b hb => List.mem_append_right _ (h5 b hb), fun b hb z => ?_⟩
    rcases List.mem_append.mp z with w | w
    · exact n'.2.2 b w b (h5 b hb) rfl
    · exact h6 b hb w
theorem OwEn.put {K : PySem.W.Frag} {F H : Hp} {v : V} {d : D} (hd : Dp K F v d) : ∀ {σ : L2.St} {env : En} {as : List Addr} {i : Nat}, OwEn K F H σ (env.set i none) as → σ[i]? = some (some v) → OwEn K F H σ (env.set i (some (.v (.fr d)))) as
  | _, [], _, _, h, e => by cases h; simp at e
  | _, _ :: _, _, 0, h, e => by
    cases h with
    | un t => simp at e; subst e; exact .so (bs := []) (.v (.fr hd)) t
  | _, x :: env, _, i + 1, h, e => by
    cases h with
    | un t => exact .un (OwEn.put hd (i := i) t (by simpa using e))
    | so a t => exact .so a (OwEn.put hd (i := i) t (by simpa using e))
theorem Rel.share {K : PySem.W.Frag} {B F H : Hp} {env : En} {σ : L2.St} (i : Nat) (r : Rel K B F H env σ) : ∃ F', AfterS B F F' ∧ Rel K B F' H (fzE env i) σ := by
  unfold fzE
  split
  · rename_i s e
    obtain ⟨as, h1, h2, h3⟩ := r.sl
    obtain ⟨v, bs, q1, q2, q3⟩ := h1.get e
    obtain ⟨cs, ds, w1, w2, w3, w4, w5, w6⟩ := h1.share h2 e q1 q2
    cases w2 with
    | v o =>
      let G : Hp := fun a => if a ∈ ds then H a else F a
      have hF : ∀ a o, F a = some o → a ∉ ds := fun a u e z => by
        have := (o.at _ _ _ a z).1
        rw [e] at this; cases this
      have gF : Same F G := .mixF fun a z => (o.at _ _ _ a z).1
      have gH : Same G H := .mixH r.fh
      refine ⟨G, ⟨gF, fun a u e n => ?_⟩, r.bh, gH, cs, OwEn.put (Ow.dp gF _ _ _ o fun a ha => if_pos ha) (w1.mono gF fun a ha => ⟨?_, rfl⟩) q1, w3, fun a ha => h3 a (w4 a ha)⟩
      · have e : (if a ∈ ds then H a else F a) = some u := e
        split at e
        · rename_i hm; exact h3 a (w5 a hm)
        · rw [n] at e; cases e
      · show (if a ∈ ds then H a else F a) = none
        rw [if_neg fun z => w6 a z ha]
        exact (w1.at a ha).1
  · exact ⟨F, AfterS.refl, r⟩
def fzS (i : Nat) (T : En → SR) : En → SR := fun env => T (fzE env i)
theorem ds_share (i : Nat) (h : DS X W st T) : DS X W st (fzS i T) := h.wk fun D σ H ⟨B, F, env, r, p⟩ => by
  obtain ⟨F', x, r'⟩ := r.share i
  exact ⟨B, F', _, r', PoS.after p x⟩
end
end DL
namespace DL
open PySem PySem.Spec PyProof.Rows L2
variable [Tabs]
/-! ### own errors -/
/-- an own error class without a body of its own -/
structure ErC (K : PySem.W.Frag) (mg : Str → Option Value) (x : Str) (C : Addr) : Prop where
  g : mg x = some (.ref C)
  q : ∃ bmB : List Value, PySem.W.excIn K C bmB "ValueError.__new__" = true ∧ bmB = [.type "ValueError", .type "Exception", .type "BaseException", .type "object"]
  k : PySem.W.keepIn K (.ref C) = true
  b : PySem.W.subIn K (.ref C) (.type "BaseException") = some true
  t : PySem.W.typeIn K (.ref C) = some (.type "type")
theorem ErC.ec {K : PySem.W.Frag} {mg : Str → Option Value} {x : Str} {C : Addr} (e : ErC K mg x C) : ecOf mg x = .ref C := by unfold ecOf; rw [e.g]; rfl
section
variable {X : Cx} {W : WX} {k : Nat} {m : Md} {pos pos' p p2 : Pos} {e c tg iter ei : Expr} {f fi : En → R D} {fo : En → R S} {t : En → R Bool} {st : Stmt} {sts body : List Stmt} {T U : En → SR} {C : Addr}
def erS (x : Str) : En → SR := fun env => .er x env
theorem ds_raise {x msg : Str} {j : Nat} (cx : Cxt X W k) (E : ErC X.K X.mg x C) (hg : Gl X x := by rfl) (hdb : (x == ("__debug__" : Str)) = false := by decide) : DS X W (.Raise (some (.Call (.Name x p) [.Constant (.str msg) j p2] [] pos)) none pos') (erS x) := by
  obtain ⟨bmB, q, rfl⟩ := E.q
  refine (ps_raise cx.calm cx.tk (pmk_own F.excBase_ValueError q E.g E.k (raises_own E.b E.t) hg hdb)).wk fun D σ H ⟨B, F, env, r, pp⟩ => ?_
  have := pp σ H F AfterS.refl r
  rw [E.ec] at this
  exact this

/-! ### try: body, except x as n: suite; except x: suite -/
def SR.un (i : Nat) : SR → SR
  | .nx e => .nx (e.set i none)
  | .bk e => .bk (e.set i none)
  | .ct e => .ct (e.set i none)
  | .rt s => .rt s
  | .er _ _ => .no
  | .no => .no
def SR.shut : SR → SR
  | .er _ _ => .no
  | r => r
/-- an outcome that does not hang on the address -/
noncomputable def tryX (g : Addr → SR) : SR := open Classical in if ∀ a, g a = g 0 then g 0 else .no
theorem tryX_eq {g : Addr → SR} {r : SR} (h : ∀ a, g a = r) : tryX g = r := by
  unfold tryX
  rw [if_pos (fun a => (h a).trans (h 0).symm)]
  exact h 0
theorem PoS.tryX {K : PySem.W.Frag} {ec : Str → Value} {W : WX} {B F : Hp} {D : Ends} {g : Addr → SR} (p : PoS K ec W B F D (DL.tryX g)) (a : Addr) : PoS K ec W B F D (g a) := by
  unfold DL.tryX at p
  split at p
  · rename_i h; rw [h a]; exact p
  · exact p.elim
/-- sel: whether the clause takes an error of the class -/
noncomputable def tryS (i : Nat) (sel : Str → Option Bool) (T : En → SR) (U : Str → Addr → En → SR) : En → SR := fun env => match T env with
  | .er c e => match sel c with
    | some true => tryX fun a => (U c a (e.set i (some (.xc a)))).un i
    | some false => .er c e
    | none => .no
  | r => r
def tryO (sel : Str → Option Bool) (T : En → SR) (U : Str → En → SR) : En → SR := fun env => match T env with
  | .er c e => match sel c with
    | some true => (U c e).shut
    | some false => .er c e
    | none => .no
  | r => r
theorem Cxt.tr (cx : Cxt X W k) {W' : WX} {pn : List (Addr × Obj)} {xe : Value → Shared → Prop} (tk : Takes (X.tr pn xe) W') (po : PassesOwn (model X.prog X.w) X.A X.env xe) : Cxt (X.tr pn xe) W' k := ⟨cx.calm, cx.nd, tk, cx.rm, cx.gd, po⟩
theorem pss_ex {X : Cx} {sts : List Stmt} {A : Type} {P : A → Prop} {t : A → TS} (h : ∀ a, P a → PSs X sts (t a)) : PSs X sts (fun D σ H => ∃ a, P a ∧ t a D σ H) := ⟨fun pins s σ H D I ⟨a, pa, q⟩ => (h a pa).run pins s σ H D I q⟩
/-- what the clause is over -/
structure Cl (X : Cx) (n : Str) (cv : Value) (sel : Str → Option Bool) : Prop where
  nm : Names X n cv
  ex : ∀ c b, sel c = some b → PySem.W.exmOne X.K (ecOf X.mg c) cv = some b
theorem ds_tryO {n : Str} {np : Pos} {cv : Value} {b0 : Stmt} {suite : List Stmt} {sel : Str → Option Bool} {U : Str → En → SR} (cx : Cxt X W k) (cl : Cl X n cv sel)
    (hb : ∀ (W' : WX) (pn : List (Addr × Obj)) (xe : Value → Shared → Prop), Cxt (X.tr pn xe) W' k → DSs (X.tr pn xe) W' body T)
    (hu : ∀ (c : Str) (a : Addr) (oe : Obj) (pn : List (Addr × Obj)), sel c = some true → Zc (ecOf X.mg c) none oe → (∃ vs, oe.data = .fields vs) → DSs (X.suite a ((a, oe) :: pn)) never (b0 :: suite) (U c))
    (hs : X.stack = X.env :: X.outer := by rfl) (hf : X.env.frame = some X.env.locals := by rfl) :
    DS X W (.Try body [.ExceptHandler (some (.Name n np)) none (b0 :: suite) pos'] [] [] pos) (tryO sel T U) := by
  refine (ps_try_only (Wout := W) (tb := fun W' => tS X.K (ecOf X.mg) W' T) (ts := fun a cls d D σ H => ∃ c, (cls = ecOf X.mg c ∧ d = none ∧ sel c = some true) ∧ tS X.K (ecOf X.mg) never (U c) D σ H) hs hf cl.nm cx.tk (fun W' pn xe tk po => hb W' pn xe (cx.tr tk po)) (fun a oe cls d pn hz hd => pss_ex fun c hc => ?_)).wk fun D σ H ⟨B, F, env, r, p⟩ => ?_
  · obtain ⟨rfl, rfl, h3⟩ := hc
    exact hu c a oe pn h3 hz hd
  · refine ⟨B, F, env, r, ?_⟩
    unfold tryO at p
    cases e : T env with
    | nx e1 => rw [e] at p; exact p
    | rt s => rw [e] at p; exact p
    | bk s => rw [e] at p; exact p
    | ct s => rw [e] at p; exact p
    | no => rw [e] at p; exact p
    | er c e1 =>
      rw [e] at p
      intro σ2 H2 F2 x2 r2
      dsimp only at p
      cases es : sel c with
      | none => rw [es] at p; exact p.elim
      | some b =>
        rw [es] at p
        refine ⟨b, cl.ex c b es, fun hbt a na => ?_, fun hbf => ?_⟩
        · subst hbt
          refine ⟨c, ⟨rfl, rfl, es⟩, B, F2, e1, r2, ?_⟩
          have p' := PoS.after (r := (U c e1).shut) p x2
          cases eu : U c e1 with
          | er c2 e2 => rw [eu] at p'; exact p'.elim
          | nx e2 => rw [eu] at p'; exact p'
          | rt s => rw [eu] at p'; exact p'
          | bk s => rw [eu] at p'; exact p'
          | ct s => rw [eu] at p'; exact p'
          | no => rw [eu] at p'; exact p'
        · subst hbf
          exact p σ2 H2 F2 x2 r2
theorem ds_tryS {n : Str} {np : Pos} {y : Str} {cv : Value} {b0 : Stmt} {suite : List Stmt} {sel : Str → Option Bool} {U : Str → Addr → En → SR} (i : Nat) (cx : Cxt X W k) (cl : Cl X n cv sel)
    (hb : ∀ (W' : WX) (pn : List (Addr × Obj)) (xe : Value → Shared → Prop), Cxt (X.tr pn xe) W' k → DSs (X.tr pn xe) W' body T)
    (hu : ∀ (c : Str) (a : Addr) (oe : Obj) (pn : List (Addr × Obj)), sel c = some true → Zc (ecOf X.mg c) none oe → (∃ vs, oe.data = .fields vs) → DSs (X.suite a ((a, oe) :: pn)) never (b0 :: suite) (U c a))
    (hi : X.N[i]? = some y := by rfl) (hy : X.env.kindOf y = some .local := by rfl) (hs : X.stack = X.env :: X.outer := by rfl) (hf : X.env.frame = some X.env.locals := by rfl) :
    DS X W (.Try body [.ExceptHandler (some (.Name n np)) (some y) (b0 :: suite) pos'] [] [] pos) (tryS i sel T U) := by
  refine (ps_try_as (Wout := W) (tb := fun W' => tS X.K (ecOf X.mg) W' T) (ts := fun a cls d D σ H => ∃ c, (cls = ecOf X.mg c ∧ d = none ∧ sel c = some true) ∧ tS X.K (ecOf X.mg) never (U c a) D σ H) hs hf cx.nd hi hy cl.nm cx.tk (fun W' pn xe tk po => hb W' pn xe (cx.tr tk po)) (fun a oe cls d pn hz hd => pss_ex fun c hc => ?_)).wk fun D σ H ⟨B, F, env, r, p⟩ => ?_
  · obtain ⟨rfl, rfl, h3⟩ := hc
    exact hu c a oe pn h3 hz hd
  · refine ⟨B, F, env, r, ?_⟩
    unfold tryS at p
    cases e : T env with
    | nx e1 => rw [e] at p; exact p
    | rt s => rw [e] at p; exact p
    | bk s => rw [e] at p; exact p
    | ct s => rw [e] at p; exact p
    | no => rw [e] at p; exact p
    | er c e1 =>
      rw [e] at p
      intro σ2 H2 F2 x2 r2
      dsimp only at p
      cases es : sel c with
      | none => rw [es] at p; exact p.elim
      | some b =>
        rw [es] at p
        refine ⟨b, cl.ex c b es, fun hbt a na => ?_, fun hbf => ?_⟩
        · subst hbt
          refine ⟨c, ⟨rfl, rfl, es⟩, B, F2, e1.set i (some (.xc a)), r2.set (.xc a) .nil (fun _ z => by cases z) (fun _ _ _ _ _ z => by cases z), ?_⟩
          have p' := PoS.after (PoS.tryX p a) x2
          cases eu : U c a (e1.set i (some (.xc a))) with
          | er c2 e2 => rw [eu] at p'; exact p'.elim
          | nx e2 => rw [eu] at p'; exact fun σ3 H3 F3 a3 r3 => p' _ H3 F3 a3 r3.drop
          | rt s => rw [eu] at p'; exact p'
          | bk e2 => rw [eu] at p'; exact fun σ3 H3 F3 a3 r3 => p' _ H3 F3 a3 r3.drop
          | ct e2 => rw [eu] at p'; exact fun σ3 H3 F3 a3 r3 => p' _ H3 F3 a3 r3.drop
          | no => rw [eu] at p'; exact p'
        · subst hbf
          exact p σ2 H2 F2 x2 r2
/-- isinstance(e, C), e the exception that the suite holds -/
def isiS (i : Nat) (a : Addr) (b : Bool) : En → R D := fun env => match env[i]? with
  | some (some (.xc a')) => if a' = a then .ok (.bool b) else .no
  | _ => .no
theorem de_isE {a D0 : Addr} {oe : Obj} {pn : List (Addr × Obj)} {W : WX} {m : Md} {x y : Str} {p0 p1 p2 : Pos} {cv : Value} {v : V} {b : Bool} (i : Nat) (E : ExcC X.K D0) (hz : Zc (.ref D0) none oe) (hf : ∃ vs, oe.data = .fields vs)
    (hn : (X.suite a ((a, oe) :: pn)).N[i]? = some x) (hv : Vis (X.suite a ((a, oe) :: pn)).env.scope x) (hd : (x == ("__debug__" : Str)) = false) (hcd : (x == ("__classdict__" : Str)) = false)
    (hc : PE (X.suite a ((a, oe) :: pn)) (.Name y p2) (tC v)) (hcv : ClsV v cv) (hk : PySem.W.kitOne X.K (.ref D0) cv = some b)
    (hg : Gl (X.suite a ((a, oe) :: pn)) "isinstance") (hm : X.mg "isinstance" = none)
    (he : starEach [.Name x p1, .Name y p2] (X.suite a ((a, oe) :: pn)).env = (false, eval (.Name x p1) (X.suite a ((a, oe) :: pn)).env) :: starEach [.Name y p2] (X.suite a ((a, oe) :: pn)).env)
    (he2 : starEach [.Name y p2] (X.suite a ((a, oe) :: pn)).env = (false, eval (.Name y p2) (X.suite a ((a, oe) :: pn)).env) :: starEach [] (X.suite a ((a, oe) :: pn)).env)
    (hpl : (backTo pos (starEach [.Name y p2] (X.suite a ((a, oe) :: pn)).env)).any (·.1) = false) :
    DE (X.suite a ((a, oe) :: pn)) W m (.Call (.Name "isinstance" p0) [.Name x p1, .Name y p2] [] pos) (isiS i a b) := by
  refine (pe_callB (call_isE E hz hf) hg hm PyProof.Rows.boot_isinstance (pa_cons (pe_var hn hv hd hcd) (pa_cons hc pa_nil he2) he) (by decide) (by decide) he hpl).wk fun σ H Q ⟨B, F, env, r, p⟩ => ?_
  unfold isiS at p
  split at p
  · rename_i a' ee
    split at p
    · rename_i h
      subst h
      obtain ⟨as, h1, _, _⟩ := r.sl
      obtain ⟨w, bs, q1, q2, _⟩ := h1.get ee
      cases q2
      exact ⟨.ref a', q1, v, cv, b, rfl, fun u ru => hcv.eq ru, hk, p _ H F (After.refl r.fh) (Rp.bl b)⟩
    · exact p.elim
  · exact p.elim
end
end DL
namespace DL
open PySem PySem.Spec PyProof.Rows L2
variable [Tabs]
/-- a def's promise of data: from the arguments' data the outcome g -/
def Pr (K : PySem.W.Frag) (mg : Str → Option Value) (n : Nat) (g : List D → R S) : Sp := fun vs H Q E => ∃ F ds, (vs.length = n ∧ Tg H) ∧ Same F H ∧ DpAll K F vs ds ∧ match g ds with
  | .ok s => ∀ v H' F' as, After F H F' H' → Ow K F' H' v s as → as.Nodup → (∀ a ∈ as, H a = none) → Q v H'
  | .er c => ∀ H' F', After F H F' H' → E (ecOf mg c) none H'
  | .no => False
/-- the def at f keeps it, wherever no repr is under way -/
structure FnG (P : Program) (w : World) (K : PySem.W.Frag) (mg : Str → Option Value) (base : Heap) (k : Nat) (f : Addr) (fd : FuncData) (ps : List Str) (g : List D → R S) : Prop where
  run : ∀ (A : Around) (outer : List Env) (s : Shared) (H : Hp) (us : List Value) (vs : List V) (Q : VK) (E : XK), Room k A → A.guards = some [] → Env0 P w K mg base A outer s H →
    BindsTo s fd ⟨us, []⟩ (ps.zip us) → Vals vs us → Pr K mg ps.length g vs H Q E → codeAny (model P w) A (.call (.ref f) ⟨us, []⟩) (CR (L2.CX P w) outer P w H s Q E) s
theorem FnG.mono {P : Program} {w : World} {K : PySem.W.Frag} {mg : Str → Option Value} {base : Heap} {j k : Nat} {f : Addr} {fd : FuncData} {ps : List Str} {g : List D → R S} (F : FnG P w K mg base j f fd ps g) (h : j ≤ k) : FnG P w K mg base k f fd ps g :=
  ⟨fun A outer s H us vs Q E hr => F.run A outer s H us vs Q E (hr.mono h)⟩
/-- it says no more than g -/
theorem FnG.imp {P : Program} {w : World} {K : PySem.W.Frag} {mg : Str → Option Value} {base : Heap} {k : Nat} {f : Addr} {fd : FuncData} {ps : List Str} {g g' : List D → R S} (F : FnG P w K mg base k f fd ps g)
    (h : ∀ ds, ds.length = ps.length → g' ds = .no ∨ g ds = g' ds) : FnG P w K mg base k f fd ps g' :=
  ⟨fun A outer s H us vs Q E hr hg e0 hb rv hp => F.run A outer s H us vs Q E hr hg e0 hb rv (by
    obtain ⟨F0, ds, h1, h2, h3, h4⟩ := hp
    refine ⟨F0, ds, h1, h2, h3, ?_⟩
    rcases h ds (h3.len.symm.trans h1.1) with z | z
    · rw [z] at h4; exact h4.elim
    · rw [z]; exact h4)⟩
section
variable {X : Cx} {W : WX} {j k : Nat} {f : Addr} {fd : FuncData} {ps : List Str} {g : List D → R S} {x : Str} {p pos : Pos} {e : Expr} {es : List Expr} {fs : En → R (List D)} {ms : List Md}
theorem do_call (G : FnG X.prog X.w X.K X.mg X.base j f fd ps g) (cx : Cxt X W k) (hk : j ≤ k) (hg : Gl X x) (hm : X.mg x = some (.ref f)) (kp : PySem.W.keepIn X.K (.ref f) = true) (hb : Binds X.K fd ps []) (ha : DA X W ms (e :: es) fs) (hms : allf ms = true) (hl : (e :: es).length = ps.length ∨ True)
    (hn : ∀ ds env, fs env = .ok ds → ds.length = ps.length) (hdb : (x == ("__debug__" : Str)) = false := by decide) (he : starEach (e :: es) X.env = (false, eval e X.env) :: starEach es X.env := by rfl) (hpl : (backTo pos (starEach es X.env)).any (·.1) = false := by rfl) :
    DO X W (.Call (.Name x p) (e :: es) [] pos) (cal fs g) := by
  refine ⟨fun pins s σ H Q I ⟨B, F, env, r, q⟩ => ?_⟩
  refine wpAny_Call_Name_kw (ld_glob I hg hm ?_ hdb)
  have arg : tA X.K (ecOf X.mg) W ms fs σ H (fun vs H1 => vs.length = ps.length ∧ Pr X.K X.mg ps.length g vs H1 Q (WE W σ)) := by
    refine ⟨B, F, env, r, ?_⟩
    unfold cal at q
    cases ef : fs env with
    | er c => rw [ef] at q; exact q
    | no => rw [ef] at q; exact q
    | ok ds =>
      rw [ef] at q
      intro vs H1 F1 a rl
      have dp := rl.fs (allf_of hms)
      have ln : vs.length = ps.length := dp.len.trans (hn ds env ef)
      refine ⟨ln, F1, ds, ⟨ln, (r.bh.trans a.hh).tgH⟩, a.fh, dp, ?_⟩
      have q : PoO X.K (ecOf X.mg) W F H σ Q (g ds) := q
      cases eg : g ds with
      | no => rw [eg] at q; exact q
      | er c => rw [eg] at q; exact fun H2 F2 a2 => q H2 F2 (a.trans a2)
      | ok so => rw [eg] at q; exact fun v H2 F2 as a2 o n fr => q v H2 F2 as (a.trans a2) o n fun b hb => a.hh.free (fr b hb)
  refine PySem.W.callWith_K (h₀ := X.base) I.ok.mod.kin kp (thn (ha.run pos pins s σ H _ I arg) fun us s1 ⟨vs, H1, I1, rv, hlen, hp⟩ => ⟨I1.kIn, ?_⟩) he hpl
  have hus : us.length = ps.length := rv.length.symm.trans hlen
  have bb := hb s1 us I1.kIn (by rw [List.append_nil]; exact hus)
  rw [List.append_nil] at bb
  refine wpAny_call (codeAny_mono (G.run X.A X.stack s1 H1 us vs Q (WE W σ) (cx.rm.mono hk) cx.gd I1.env0 bb rv hp) fun rr s2 hq => ?_)
  cases rr with
  | error u => exact passAt cx.tk σ pins H1 s1 u s2 I1 hq
  | ok fl => cases fl with
    | ret u => exact I1.after hq
    | next => exact hq.elim
    | brk => exact hq.elim
    | cont => exact hq.elim
theorem consA_len {f1 : En → R D} {g1 : En → R (List D)} {n : Nat} (h : ∀ ds env, g1 env = .ok ds → ds.length = n) : ∀ ds env, consA f1 g1 env = .ok ds → ds.length = n + 1 := fun ds env e => by
  unfold consA at e
  cases z : f1 env with
  | ok d =>
    rw [z] at e
    simp only [R.bind] at e
    cases y : g1 env with
    | ok es => rw [y] at e; cases e; simp [h es env y]
    | er c => rw [y] at e; cases e
    | no => rw [y] at e; cases e
  | er c => rw [z] at e; cases e
  | no => rw [z] at e; cases e
theorem nilA_len : ∀ ds env, nilA env = .ok ds → ds.length = 0 := fun ds env e => by cases e; rfl
end

/-! ### a def's body -/
def init (N : List Str) (ds : List D) : En := ds.map (fun d => some (.v (.fr d))) ++ List.replicate (N.length - ds.length) none
def endR : SR → R S
  | .rt s => .ok s
  | .nx _ => .ok (.fr .none)
  | .er c _ => .er c
  | _ => .no
def bodyR (N : List Str) (n : Nat) (T : En → SR) : List D → R S := fun ds => if ds.length = n then endR (T (init N ds)) else .no
theorem owEn_rep {K : PySem.W.Frag} {F H : Hp} : ∀ n : Nat, OwEn K F H (List.replicate n none) (List.replicate n none) []
  | 0 => .nil
  | n + 1 => .un (owEn_rep n)
theorem owEn_init {K : PySem.W.Frag} {F H : Hp} {n : Nat} : ∀ {vs : List V} {ds : List D}, DpAll K F vs ds → OwEn K F H (vs.map some ++ List.replicate n none) (ds.map (fun d => some (Sl.v (.fr d))) ++ List.replicate n none) []
  | _, _, .nil => owEn_rep n
  | _, _, .cons a t => .so (bs := []) (.v (.fr a)) (owEn_init t)
theorem guards_deeper {A : Around} {env : Env} (h : A.guards = some []) : (A.deeper env).guards = some [] := by
  first | exact h | (show (Around.deeper A env).guards = some []; simpa [Around.deeper] using h)
section
variable {P : Program} {w : World} {K : PySem.W.Frag} {mg : Str → Option Value} {base : Heap}
theorem fnG_mk {y qual : Str} {st : Stmt} {f : Addr} {fd : FuncData} {N ps : List Str} {k : Nat} {T : En → SR} (Fn : Fun K y qual st f fd) (S : FnScope N ps (defScope st))
    (hT : ∀ (f0 : Addr) (cdv : Value) (A : Around) (outer : List Env) (s : Shared) (H : Hp) (E : XK),
      Cxt (cxOf (L2.CX P w) P w K mg base N qual (defScope st) f0 cdv A outer s H E) (fun cls d _ H' => E cls d H') k → DSs (cxOf (L2.CX P w) P w K mg base N qual (defScope st) f0 cdv A outer s H E) (fun cls d _ H' => E cls d H') (defBody st) T) :
    FnG P w K mg base (k + 1) f fd ps (bodyR N ps.length T) := by
  obtain ⟨oc, od, kV, doc, pm, an, cdv, ct, osl, rfl, lk, hcd⟩ := Fn.ex
  refine ⟨fun A outer s H us vs Q E hr hgd e0 hb rv hp => ?_⟩
  obtain ⟨F, ds, ⟨hlen, htg⟩, hF, hd, hq⟩ := hp
  have hu : us.length = ps.length := rv.length.symm.trans hlen
  have inH : K.In s.heap := e0.mod.kin.keeps fun b o e => (e0.bs b o e).1
  have noL : s.heap.NoLimit := e0.mod.nolimit.keeps fun b o e => (e0.bs b o e).1
  have kinds : ∀ z ∈ ps.zip us, (defScope st).names.lookup z.1 = some .local ∨ ((defScope st).names.lookup z.1 = some .cell ∧ ((cellsFrom (s.heap.objs.size + 1) (defScope st).names []).lookup z.1).isSome = true) := by
    rintro ⟨n, u⟩ hz
    exact (S.par n (List.of_mem_zip hz).1).imp id fun q => ⟨q, PySem.W.cellsFrom_some _ _ _ (.inl q)⟩
  refine codeAny_call_function hr.depth (inH _ _ lk) rfl S.co S.gen rfl (PySem.W.codeRec_of inH hcd) (hb _ _ _ _ ?_)
  refine wpAny_newFunctionEnv_cells S.kind kinds fun env1 eq1 s1 made => ?_
  subst eq1
  refine ⟨noL.keeps made.toInCall.keep, codeAny_func ?_⟩
  have I : Inv (cxOf (L2.CX P w) P w K mg base N qual (defScope st) f cdv A outer s H E) [] (L2.start N vs) H s1 := inv_start S hr.hd e0 hlen rv made
  have cx : Cxt (cxOf (L2.CX P w) P w K mg base N qual (defScope st) f cdv A outer s H E) (fun cls d _ H' => E cls d H') k :=
    ⟨rfl, S.nd, takes_of rfl rfl rfl rfl, hr.deeper _, guards_deeper hgd, passes_of rfl⟩
  have body := hT f cdv A outer s H E cx
  have rel0 : Rel K H F H (init N ds) (L2.start N vs) := by
    refine ⟨⟨Same.refl _, htg⟩, hF, [], ?_, .nil, fun a ha => by cases ha⟩
    unfold init L2.start
    rw [hd.len]
    exact owEn_init hd
  have run := body.run [] s1 (L2.start N vs) H { nx := fun _ H' => Q .non H', rt := Q } I ⟨H, F, init N ds, rel0, ?_⟩
  · refine wpAny_mono run (fun fl s2 hs => ?_) fun u s2 hs => hs
    cases fl with
    | ret u =>
      obtain ⟨v, σ2, H2, J, rvu, qv⟩ := hs
      exact ⟨v, H2, J.os, J.bare, J.base, J.hok, rvu, qv⟩
    | next =>
      obtain ⟨σ2, H2, J, qv⟩ := hs
      exact ⟨.non, H2, J.os, J.bare, J.base, J.hok, rfl, qv⟩
    | brk => obtain ⟨_, _, _, qv⟩ := hs; exact qv.elim
    | cont => obtain ⟨_, _, _, qv⟩ := hs; exact qv.elim
  · have hl2 : ds.length = ps.length := hd.len.symm.trans hlen
    unfold bodyR at hq
    rw [if_pos hl2] at hq
    cases eT : T (init N ds) with
    | rt s0 => rw [eT] at hq; exact fun v H' F' as a b1 b2 o n fr => hq v H' F' as ⟨a.ff, b2, b1, fun x o e n => a.nw x o e n⟩ o n fr
    | nx e1 => rw [eT] at hq; exact fun σ2 H' F' a r => hq .non H' F' [] ⟨a.ff, r.fh, r.bh, a.nw⟩ (.fr .non) .nil fun _ z => by cases z
    | er c e1 => rw [eT] at hq; exact fun σ2 H' F' a r => hq H' F' ⟨a.ff, r.fh, r.bh, a.nw⟩
    | bk e1 => rw [eT] at hq; exact hq.elim
    | ct e1 => rw [eT] at hq; exact hq.elim
    | no => rw [eT] at hq; exact hq.elim
end
end DL
namespace DL
open PySem PySem.Spec PyProof.Rows L2
variable [Tabs]
/-- the law's call, from its def's promise; cs: the code objects whose tables may grow -/
theorem law_callT {P : Program} {w : World} {K : PySem.W.Frag} {mg mb : Str → Option Value} {k : Nat} {fa a : Addr} {fd : FuncData} {x : Str} {g : List D → R S} {s1 : Shared} {vs : List Value} {ns : List Int} {cs : List (Addr × Addr)}
    (KX : K.In s1.heap) (hns : s1.heap.Ns mainGlobals mg) (hb : s1.heap.Ns builtinsNs mb) (hbb : ∀ x : Str, x ≠ "__name__" → mb x = bootBuiltins x) (hlim : s1.heap.NoLimit) (hg : s1.gens = #[])
    (tab : ∀ q ∈ cs, s1.heap.get? q.2 = some { cls := .none, data := .fields #[] }) (noK : ∀ q ∈ cs, K.lookup q.2 = none) (hcd : ∀ q ∈ cs, PySem.W.CodeHd s1.heap q.1 q.2) (eT : Tabs.T = cs.map fun q => q.2)
    (mainB : cs ≠ [] → ∃ (m : Addr) (mo : Obj), mg "__builtins__" = some (.ref m) ∧ m ≠ builtinsNs ∧ s1.heap.get? m = some mo ∧ mo.cls = .type "module" ∧ mo.dict = some builtinsNs ∧ mo.data = .plain)
    (ha : s1.heap.get? a = some { cls := .type "list", data := .seq vs.toArray }) (hi : IntsAre vs ns) (hl : ns.length ≤ sizeLine) (hr : Room k callerA)
    (Fn : ∀ base : Heap, Mod K mg base → (∀ q ∈ cs, GxR.TabB base mg q.1 q.2) → FnG P w K mg base k fa fd [x] g) (hbind : ∀ (s : Shared) (u : Value), BindsTo s fd ⟨[u], []⟩ [(x, u)])
    (good : g [.list (ns.map .int)] = .ok (.fr (.bool true))) :
    codeAny (model P w) callerA (.call (.ref fa) ⟨[.ref a], []⟩) (fun r s' => r = .ok (.ret (.bool true)) ∧ OldK s1.heap s'.heap ∧ s'.os = s1.os ∧ AllBare s'.gens) s1 := by
  have rv := vals_ints hi
  have atT : ∀ b, b ∈ cs.map (fun q => q.2) → s1.heap.get? b = some { cls := .none, data := .fields #[] } := fun b hb => by
    obtain ⟨q, hq, e⟩ := List.mem_map.mp hb
    subst e; exact tab q hq
  have aNo : a ∉ cs.map (fun q => q.2) := fun z => by
    have := atT a z
    rw [ha] at this
    injection this with this
    injection this with c1
    cases c1
  have main : ∀ H : Hp, (∀ b, H b = none ∨ (b = a ∧ ∃ o ys, H b = some (.frz o (.lst ys))) ∨ (b ∈ cs.map (fun q => q.2) ∧ H b = some (.tbl #[]))) → (∀ b, b ∈ cs.map (fun q => q.2) → H b = some (.tbl #[])) → SqL K H a (ns.map V.int) → HOk P w H s1.heap → (H a ≠ none → K.lookup a = none) →
      codeAny (model P w) callerA (.call (.ref fa) ⟨[.ref a], []⟩) (fun r s' => r = .ok (.ret (.bool true)) ∧ OldK s1.heap s'.heap ∧ s'.os = s1.os ∧ AllBare s'.gens) s1 := by
    intro H hO hTb hS ok hK
    -- what is tracked is a list or a table
    have held : ∀ {b : Addr} {o : Obj}, s1.heap.get? b = some o → H b ≠ none → (o.cls = .type "list" ∧ ∃ ys, o.data = .seq ys) ∨ (o.cls = .none ∧ o.data = .fields #[]) := by
      intro b o e n
      rcases hO b with z | ⟨z, _⟩ | ⟨z, _⟩
      · exact absurd z n
      · subst z
        rw [ha] at e; cases e
        exact .inl ⟨rfl, _, rfl⟩
      · rw [atT b z] at e; cases e
        exact .inr ⟨rfl, rfl⟩
    have freeBy : ∀ {b : Addr} {o : Obj}, s1.heap.get? b = some o → (∀ ys, o.data ≠ .seq ys) → (o.data ≠ .fields #[] ∨ o.cls ≠ .none) → H b = none := by
      intro b o e n1 n2
      by_cases n : H b = none
      · exact n
      · rcases held e n with ⟨_, ys, z⟩ | ⟨z1, z2⟩
        · exact absurd z (n1 ys)
        · exact (n2.elim (fun n => n z2) fun n => n z1).elim
    have dictFree : ∀ {b : Addr} {o : Obj} {es : Array DictEntry} {ep : Nat}, s1.heap.get? b = some o → o.data = .dict es ep → H b = none := by
      intro b o es ep e d
      exact freeBy e (fun ys z => by rw [d] at z; cases z) (.inl fun z => by rw [d] at z; cases z)
    have keepNs : ∀ {b : Addr} {m : Str → Option Value}, s1.heap.Ns b m → (hidT s1.heap H).Ns b m := by
      rintro b m ⟨o, es, ep, e, d, q⟩
      exact ⟨o, es, ep, hidT_get e (dictFree e d), d, q⟩
    have inK : K.In (hidT s1.heap H) := by
      intro b o e
      refine hidT_get (KX b o e) ?_
      rcases hO b with z | ⟨z, _⟩ | ⟨z, _⟩
      · exact z
      · subst z
        by_cases q : H b = none
        · exact q
        · rw [hK q] at e; cases e
      · obtain ⟨q, hq, e2⟩ := List.mem_map.mp z
        subst e2
        rw [noK q hq] at e; cases e
    have mod : Mod K mg (hidT s1.heap H) := ⟨inK, keepNs hns, ⟨mb, keepNs hb, hbb⟩, let ⟨mc, q1, q2⟩ := hlim; ⟨mc, keepNs q1, q2⟩⟩
    have env0 : Env0 P w K mg (hidT s1.heap H) callerA [] s1 H :=
      { frames := rfl, mod := mod, bs := fun b o e => of_hidT e, bsz := Nat.le_of_eq (hidT_size _ _), funs := trivial, frf := fun b q => absurd q (by simp [frs]), hok := ok, bare := .of_eq hg }
    have tb : ∀ q ∈ cs, GxR.TabB (hidT s1.heap H) mg q.1 q.2 := by
      intro q hq
      have tq := tab q hq
      obtain ⟨m, mo, w1, w2, w3, w4, w5, w6⟩ := mainB (by intro z; rw [z] at hq; cases hq)
      obtain ⟨og, eg, pg, g1, g2, _⟩ := hns
      have mg1 : m ≠ mainGlobals := fun z => by
        subst z
        rw [g1] at w3; cases w3
        rw [g2] at w6; cases w6
      have mg2 : m ≠ q.2 := fun z => by
        rw [z, tq] at w3; cases w3
        cases w6
      have mg3 : mainGlobals ≠ q.2 := fun z => by
        rw [z, tq] at g1; cases g1
        cases g2
      refine ⟨?_, ⟨m, mo, w1, w2, mg1, mg2, hidT_get w3 (freeBy w3 (fun ys z => by rw [w6] at z; cases z) (.inl fun z => by rw [w6] at z; cases z)), w4, w5, w6⟩, mg3⟩
      obtain ⟨oc, us, fl, tf, fg, tg, nf, tx, tt, c1, c2, rest⟩ := hcd q hq
      refine ⟨oc, us, fl, tf, fg, tg, nf, tx, tt, hidT_get c1 (freeBy c1 (fun ys z => ?_) (.inr fun z => ?_)), c2, rest⟩
      · rw [rest.1] at z; cases z
      · rw [c2] at z; cases z
    have pr : Pr K mg 1 g [.ref a] H (fun v _ => v = .bl true) fun _ _ _ => False := by
      refine ⟨H, [.list (ns.map .int)], ⟨rfl, fun p hp => ?_⟩, Same.refl _, .cons (.lst hS (dp_ints ns)) .nil, ?_⟩
      · rw [eT] at hp
        exact ⟨#[], hTb p hp, trivial⟩
      rw [good]
      intro v H' F' as _ o _ _
      cases o with
      | fr q => cases q; rfl
    refine codeAny_mono ((Fn _ mod tb).run callerA [] s1 H [.ref a] [.ref a] _ _ hr rfl env0 (hbind s1 (.ref a)) (.cons rfl .nil) pr) fun r s' q => ?_
    cases r with
    | error u =>
      obtain ⟨_, _, _, _, _, _, _, _, _, _, _, _, z⟩ := q
      exact z.elim
    | ok fl => cases fl with
      | next => exact q.elim
      | brk => exact q.elim
      | cont => exact q.elim
      | ret u =>
        obtain ⟨v, H', os, bare, un, ok', rvu, e⟩ := q
        cases e
        cases rvu
        have same : ∀ b o, b ∉ cs.map (fun q => q.2) → s1.heap.get? b = some o → s'.heap.get? b = some o := by
          intro b o nb e
          rcases hO b with z | ⟨_, o2, ys, z⟩ | ⟨z, _⟩
          · exact un.keep b o e z (by intro q; cases q) (by simp)
          · have z2 := un.frzs b o2 _ z
            obtain ⟨e1, _⟩ := ok b _ z
            obtain ⟨e2, _⟩ := ok' b _ z2
            rw [e] at e1; cases e1
            exact e2
          · exact absurd z nb
        have grew : ∀ q ∈ cs, ∃ r : Array Value, s'.heap.get? q.2 = some { cls := .none, data := .fields r } := fun q hq => by
          obtain ⟨r, z⟩ := un.tbls q.2 #[] (hTb q.2 (List.mem_map.mpr ⟨q, hq, rfl⟩))
          exact ⟨_, ok' q.2 _ z⟩
        refine ⟨rfl, ⟨fun b o e => ?_, fun b o e => ?_⟩, os, bare⟩
        · by_cases nb : b ∈ cs.map (fun q => q.2)
          · obtain ⟨q, hq, e2⟩ := List.mem_map.mp nb
            subst e2
            obtain ⟨r, hr⟩ := grew q hq
            have tq := tab q hq
            rw [tq] at e; cases e
            exact .inr (.inl ⟨((hcd q hq).tab tq).isCodeTable, rfl, #[], r, rfl, by rw [Array.empty_append]; exact hr⟩)
          · exact .inl (same b o nb e)
        · by_cases nb : b ∈ cs.map (fun q => q.2)
          · obtain ⟨q, hq, e2⟩ := List.mem_map.mp nb
            subst e2
            obtain ⟨r, hr⟩ := grew q hq
            exact ⟨_, hr⟩
          · exact ⟨o, same b o nb e⟩
  have hlen := hi.length
  let tl := cs.map fun q => q.2
  cases hk : K.lookup a with
  | some o =>
    have e := KX a o hk
    rw [ha] at e; cases e
    let G : Hp := fun b => if b ∈ tl then some (.tbl #[]) else none
    have gT : ∀ b, b ∈ tl → G b = some (.tbl #[]) := fun b hb => if_pos hb
    have gN : ∀ b, b ∉ tl → G b = none := fun b hb => if_neg hb
    refine main G (fun b => ?_) gT (.inr ⟨_, vs.toArray, _, hk, rfl, rfl, rfl, by rw [List.size_toArray, hlen]; exact hl, by simpa using rv⟩) (fun b u z => ?_) fun z => absurd (gN a aNo) z
    · by_cases q : b ∈ tl
      · exact .inr (.inr ⟨q, gT b q⟩)
      · exact .inl (gN b q)
    · by_cases q : b ∈ tl
      · rw [gT b q] at z; cases z
        exact atT b q
      · rw [gN b q] at z; cases z
  | none =>
    let G : Hp := fun b => if b = a then some (.frz { cls := .type "list", data := .seq vs.toArray } (.lst (ns.map V.int))) else if b ∈ tl then some (.tbl #[]) else none
    have gA : G a = some (.frz { cls := .type "list", data := .seq vs.toArray } (.lst (ns.map V.int))) := if_pos rfl
    have gT : ∀ b, b ∈ tl → G b = some (.tbl #[]) := fun b hb => (if_neg (fun z => aNo (by rw [← z]; exact hb))).trans (if_pos hb)
    have gN : ∀ b, b ≠ a → b ∉ tl → G b = none := fun b na hb => (if_neg na).trans (if_neg hb)
    refine main G (fun b => ?_) gT (.inl (.inr ⟨_, gA⟩)) (fun b u z => ?_) fun _ => hk
    · by_cases q : b = a
      · exact .inr (.inl ⟨q, _, _, by rw [q]; exact gA⟩)
      · by_cases q2 : b ∈ tl
        · exact .inr (.inr ⟨q2, gT b q2⟩)
        · exact .inl (gN b q q2)
    · by_cases q : b = a
      · subst q
        rw [gA] at z; cases z
        exact ⟨ha, by rw [List.length_map]; exact hl, vs, _, rv, ha⟩
      · by_cases q2 : b ∈ tl
        · rw [gT b q2] at z; cases z
          exact atT b q2
        · rw [gN b q q2] at z; cases z
end DL
namespace DL
open PySem PySem.Spec PyProof.Rows L2
/-- what is left behind k_fill, from the law's promise -/
theorem walk_ofG {l : PySem.W.OpenLaw} {n k : Nat} {q : Program} {loose : List Str} {XP : (Str → Option Value) → Heap → Prop} {YP : World → Heap → Prop} {d : DefRec} {K : Params → PySem.W.Frag} {x : Str} {g : List D → R S}
    (hn : l.most = some n) (hn2 : n ≤ sizeLine) (hdf : d.params.defaults = []) (hr : Room k callerA) (hY : ∀ (w : World) (h : Heap), YP w h → (K w.params).In h)
    (Fn : ∀ (w : World) (mg : Str → Option Value) (fa : Addr) (h : Heap), (K w.params).In h → h.Ns mainGlobals mg → mg d.name = some (.ref fa) →
      ∃ fd : FuncData, (∀ (s : Shared) (u : Value), BindsTo s fd ⟨[u], []⟩ [(x, u)]) ∧ ∀ base : Heap, (K w.params).In base → base.Ns mainGlobals mg → FnG l.prog w (K w.params) mg base k fa fd [x] g)
    (good : ∀ ns : List Int, ns.length ≤ n → (∀ i ∈ ns, Builtin.Int.intBits i ≤ 1048576) → g [.list (ns.map .int)] = .ok (.fr (.bool true))) :
    PySem.W.WalkO q loose XP YP l.row.toRowW d [] (fun f vs => PySem.call f vs) := by
  refine Att.attach_callB hn hdf fun w s0 s1 mg mb fa o pm cd doc a vs ns G Y ho hd hcd hmg hobj hints hlen hbits hg => ?_
  have KX := hY w _ Y
  obtain ⟨fd, hb, hF⟩ := Fn w mg fa _ KX G.T.g hmg
  exact law_callT (cs := []) KX G.T.g G.T.b G.T.builtins G.T.nolimit hg (fun _ h => nomatch h) (fun _ h => nomatch h) (fun _ h => nomatch h) rfl (fun h => absurd rfl h) hobj hints (Nat.le_trans hlen hn2) hr (fun base k1 _ => hF base k1.kin k1.glob) hb (good ns hlen hbits)
/-- .. with tables: the code objects cs are told by the fragment -/
theorem walk_ofT {l : PySem.W.OpenLaw} {n k : Nat} {q : Program} {loose : List Str} {XP : (Str → Option Value) → Heap → Prop} {YP : World → Heap → Prop} {d : DefRec} {K : Params → PySem.W.Frag} {x : Str} {g : List D → R S}
    (hn : l.most = some n) (hn2 : n ≤ sizeLine) (hdf : d.params.defaults = []) (hr : Room k callerA) (hY : ∀ (w : World) (h : Heap), YP w h → (K w.params).In h)
    (Fn : ∀ (w : World) (mg mb : Str → Option Value) (fa : Addr) (h : Heap), (K w.params).In h → h.Ns mainGlobals mg → mg d.name = some (.ref fa) → (∀ {y : Str} {e : DefRec} {c P : Addr}, (recsOf q).find? (fun e => e.name == y) = some e → PySem.W.tabIn (K w.params) y = some (c, P) → PySem.W.CodeHd h c P ∧ h.get? P = some (PySem.W.tabObj #[])) →
      ∃ (fd : FuncData) (cs : List (Addr × Addr)), (∀ p ∈ cs, h.get? p.2 = some { cls := .none, data := .fields #[] }) ∧ (∀ p ∈ cs, (K w.params).lookup p.2 = none) ∧ (∀ p ∈ cs, PySem.W.CodeHd h p.1 p.2) ∧ (∀ (s : Shared) (u : Value), BindsTo s fd ⟨[u], []⟩ [(x, u)]) ∧
        ∀ base : Heap, Mod (K w.params) mg base → (∀ p ∈ cs, GxR.TabB base mg p.1 p.2) → @FnG ⟨cs.map fun q => q.2⟩ l.prog w (K w.params) mg base k fa fd [x] g)
    (good : ∀ ns : List Int, ns.length ≤ n → (∀ i ∈ ns, Builtin.Int.intBits i ≤ 1048576) → g [.list (ns.map .int)] = .ok (.fr (.bool true))) :
    PySem.W.WalkO q loose XP YP l.row.toRowW d [] (fun f vs => PySem.call f vs) := by
  refine Att.attach_callB hn hdf fun w s0 s1 mg mb fa o pm cd doc a vs ns G Y ho hd hcd hmg hobj hints hlen hbits hg => ?_
  have KX := hY w _ Y
  obtain ⟨fd, cs, t1, t2, t3, hb, hF⟩ := Fn w mg mb fa _ KX G.T.g hmg (fun hr ht => PySem.W.tab_of G.T KX hr ht)
  exact @law_callT ⟨cs.map fun q => q.2⟩ _ _ _ _ _ _ _ _ _ _ _ _ _ _ cs KX G.T.g G.T.b G.T.builtins G.T.nolimit hg t1 t2 t3 rfl (fun _ => G.T.bmain) hobj hints (Nat.le_trans hlen hn2) hr hF hb (good ns hlen hbits)
end DL
namespace DL
open PySem PySem.Spec PyProof.Rows L2
variable [Tabs]
def tyD : D → String
  | .none => "NoneType"
  | .bool _ => "bool"
  | .int _ => "int"
  | .str _ => "str"
  | .list _ => "list"
  | .tuple _ => "tuple"
  | .dict _ => "dict"
theorem Dp.ty {K : PySem.W.Frag} {H : Hp} {v : V} {d : D} (h : Dp K H v d) : TyX K H v (.type (tyD d)) := by
  cases h with
  | non => exact .base .non
  | bl b => exact .base (.bl b)
  | int i => exact .base (.int i)
  | str x => exact .base (.str x)
  | lst hs _ =>
    rcases hs with (h | ⟨o, h⟩) | ⟨o, its, n, h1, h2, _⟩
    · exact .base (.lst h)
    · exact .base (.frz h)
    · exact .kList h1 h2
  | tup hs _ =>
    rcases hs with (h | ⟨o, h⟩) | ⟨o, its, n, h1, h2, _⟩
    · exact .base (.tup h)
    · exact .fTuple h
    · exact .kTuple h1 h2
def isT (T : String) (d : D) : Bool := tyD d == T || (tyD d == "bool" && T == "int")
def knownT : List String := ["bool", "int", "str", "list", "tuple"]
theorem kitB_tab : (["NoneType", "bool", "int", "str", "list", "tuple"].all fun a => knownT.all fun T => decide (kitB a T = some (a == T || (a == "bool" && T == "int")))) = true := by decide +kernel
theorem tyD_mem {K : PySem.W.Frag} {H : Hp} {v : V} {d : D} (h : Dp K H v d) : tyD d ∈ ["NoneType", "bool", "int", "str", "list", "tuple"] := by cases h <;> simp [tyD]
theorem kit_isT {K K' : PySem.W.Frag} {H : Hp} {v : V} {d : D} {T : String} (h : Dp K H v d) (hT : T ∈ knownT) : PySem.W.kitOne K' (.type (tyD d)) (.type T) = some (isT T d) := by
  have := List.all_eq_true.mp kitB_tab _ (tyD_mem h)
  exact kit_ty (of_decide_eq_true (List.all_eq_true.mp this T hT))
section
variable {X : Cx} {W : WX} {k : Nat} {m : Md} {pos p p2 apos : Pos} {a b c : Expr} {fa fb fc : En → R D}
def isiR (T : String) (f : En → R D) : En → R D := fun env => (f env).bind fun d => .ok (.bool (isT T d))
theorem de_isi {T : Str} {Ts : String} (ha : DE X W .h a fa) (hT : Ts ∈ knownT := by decide) (hg : Gl X "isinstance" := by rfl) (hm : X.mg "isinstance" = none) (hg2 : Gl X T := by rfl) (hm2 : X.mg T = none) (hb : bootBuiltins T = some (.type Ts)) (hn : T ≠ "__name__" := by decide) (hdb : (T == ("__debug__" : Str)) = false := by decide)
    (he : starEach [a, .Name T p2] X.env = (false, eval a X.env) :: starEach [.Name T p2] X.env := by rfl) (he2 : starEach [.Name T p2] X.env = (false, eval (.Name T p2) X.env) :: starEach [] X.env := by rfl) (hpl : (backTo pos (starEach [.Name T p2] X.env)).any (·.1) = false := by rfl) :
    DE X W m (.Call (.Name "isinstance" p) [a, .Name T p2] [] pos) (isiR Ts fa) :=
  (pe_callB call_isi hg hm PyProof.Rows.boot_isinstance (pa_cons ha (pa_cons (pe_bltn (v := .ty Ts) hg2 hm2 hb rfl hn hdb) pa_nil he2) he) (by decide) (by decide) he hpl).wk fun σ H Q ⟨B, F, env, r, q⟩ =>
    tD.bind r q fun v H1 F1 d a1 r1 q1 p1 => ⟨v, .ty Ts, _, _, _, rfl, .ty Ts, Dp.ty q1, kit_isT q1 hT, p1 _ _ _ (After.refl r1.fh) (Rp.bl _)⟩
def bitR (f : En → R D) : En → R D := fun env => (f env).bind fun d => match d with
  | .int i => .ok (.int (Builtin.Int.intBits i : Nat))
  | _ => .no
theorem de_bits (ha : DE X W .h a fa) (hbase : attributeBase a "bit_length" X.env (eval a X.env) = eval a X.env := by rfl) (hline : (apos.endLine == pos.line) = true := by rfl) : DE X W m (.Call (.Attribute a "bit_length" apos) [] [] pos) (bitR fa) :=
  (pe_bits ha hbase hline).wk fun σ H Q ⟨B, F, env, r, q⟩ => tD.bind r q fun v H1 F1 d a1 r1 q1 p1 => by
    cases d with
    | int i => exact ⟨i, q1.intI, p1 _ _ _ (After.refl r1.fh) (Rp.int _)⟩
    | _ => exact p1.elim
/-- a chain of two comparisons -/
theorem chain_core {op op' : CmpOp} {g h : D → D → R D} {r r' : R2} (ne : ∀ d e c, g d e ≠ .er c) (ne' : ∀ d e c, h d e ≠ .er c) (h2 : ∀ m, Op2 X.K r .h .h m g) (h2' : ∀ m, Op2 X.K r' .h .h m h) {σ : L2.St} {H : Hp} {Q : VK}
    (q : tD X.K (ecOf X.mg) W m (ch3 fa fb fc g h) σ H Q) : tChain r r' (tD X.K (ecOf X.mg) W .h fa) (tD X.K (ecOf X.mg) W .h fb) (tD X.K (ecOf X.mg) W .h fc) σ H Q := by
  obtain ⟨B, F, env, r0, q⟩ := q
  refine tD.bind r0 q fun v H1 F1 d a1 r1 q1 p1 => tD.bind r1 p1 fun u H2 F2 e a2 r2 q2 p2 => ?_
  refine h2 .f (ecOf X.mg) W σ F2 H2 v u d e _ r2.fh (q1.after a2) q2 (ne d e) ?_
  cases z : g d e with
  | er c => exact absurd z (ne d e c)
  | no => rw [z] at p2; exact p2
  | ok w =>
    rw [z] at p2
    intro v' H' F' a q
    cases w with
    | bool kb =>
      refine ⟨kb, q.blI, ?_⟩
      cases kb with
      | true =>
        rw [if_pos rfl]
        exact tD.bind (r2.after a) (PoE.after p2 a) fun w H4 F4 d4 a4 r4 q4 p4 => h2' m _ _ _ F4 H4 u w e d4 Q r4.fh ((q2.after a).after a4) q4 (ne' e d4) p4
      | false => rw [if_neg Bool.false_ne_true]; exact (PoE.after p2 a) _ _ _ (After.refl a.fh) (Rp.bl _)
    | _ => exact p2.elim
theorem de_ch {op op' : CmpOp} {g h : D → D → R D} (C : Cm X op g) (C' : Cm X op' h) (ha : DE X W .h a fa) (hb : DE X W .h b fb) (hc : DE X W .h c fc) (hm : lastMarks [op, op'] [b, c] = false := by rfl) : DE X W m (.Compare a [op, op'] [b, c] pos) (ch3 fa fb fc g h) := by
  obtain ⟨r, h1, h2⟩ := C.rule
  obtain ⟨r', h1', h2'⟩ := C'.rule
  exact (pe_chain h1 h1' ha hb hc hm).wk fun σ H Q q => chain_core (op := op) (op' := op') C.ne C'.ne h2 h2' q
/-- a bool as a test's answer -/
def tobR (f : En → R D) : En → R Bool := fun env => (f env).bind tob
theorem toT {K : PySem.W.Frag} {ec : Str → Value} {f : En → R D} {σ : L2.St} {H : Hp} {Q : Bool → Hp → Prop} (q : tT K ec W (tobR f) σ H Q) : tD K ec W .f f σ H (fun x H' => ∃ k, x = .bl k ∧ Q k H') := by
  obtain ⟨B, F, env, r, p⟩ := q
  refine ⟨B, F, env, r, ?_⟩
  unfold tobR at p
  cases e : f env with
  | er c => rw [e] at p; exact p
  | no => rw [e] at p; exact p
  | ok d =>
    rw [e] at p
    intro v H' F' a q
    cases d with
    | bool k => cases q; exact ⟨k, rfl, p H' F' a⟩
    | _ => exact p.elim
theorem dt_ch {op op' : CmpOp} {g h : D → D → R D} (C : Cm X op g) (C' : Cm X op' h) (ha : DE X W .h a fa) (hb : DE X W .h b fb) (hc : DE X W .h c fc) (hm : lastMarks [op, op'] [b, c] = false := by rfl) : DT X W (.Compare a [op, op'] [b, c] pos) (tobR (ch3 fa fb fc g h)) := by
  obtain ⟨r, h1, h2⟩ := C.rule
  obtain ⟨r', h1', h2'⟩ := C'.rule
  exact (pt_chain h1 h1' ha hb hc hm).wk fun σ H Q q => chain_core (op := op) (op' := op') C.ne C'.ne h2 h2' (toT q)
/-- [..] * n -/
def repD (s : S) (d : D) : R S := match s, d with
  | .ow ss, .int i => match allF ss with
    | some ds => if b62 i = true ∧ ds.length * i.toNat ≤ 1000000 then .ok (.ow ((List.replicate i.toNat ds).flatten.map .fr)) else .no
    | none => .no
  | _, _ => .no
def repR (f : En → R S) (g : En → R D) : En → R S := fun env => (f env).bind fun s => (g env).bind fun d => repD s d
theorem DpAll.rep {K : PySem.W.Frag} {F : Hp} {vs : List V} {ds : List D} (h : DpAll K F vs ds) : ∀ n : Nat, DpAll K F (List.replicate n vs).flatten (List.replicate n ds).flatten
  | 0 => .nil
  | n + 1 => by
    rw [List.replicate_succ, List.replicate_succ, List.flatten_cons, List.flatten_cons]
    exact h.app (DpAll.rep h n)
theorem do_rep {fo : En → R S} (ha : DO X W a fo) (hb : DE X W .h b fb) : DO X W (.BinOp a .Mult b pos) (repR fo fb) :=
  (pe_op op_rep ha hb).wk fun σ H Q ⟨B, F, env, r, q⟩ => by
    refine ⟨B, F, env, r, ?_⟩
    unfold repR at q
    cases e : fo env with
    | er c => rw [e] at q; exact q
    | no => rw [e] at q; exact q
    | ok s =>
      rw [e] at q
      intro v H1 F1 as a1 o n fr
      have q : PoO X.K (ecOf X.mg) W F H σ Q ((fb env).bind fun d => repD s d) := q
      refine tD.bindO (r.after a1) (PoO.after q a1) fun u H2 F2 d a2 r2 q2 p2 => ?_
      cases s with
      | fr _ => exact p2.elim
      | tu _ => exact p2.elim
      | ow ss =>
        cases d with
        | int i =>
          simp only [repD] at p2
          cases ef : allF ss with
          | none => rw [ef] at p2; exact p2.elim
          | some ds =>
            rw [ef] at p2
            dsimp only at p2
            split at p2
            · rename_i hc
              cases o with
              | ow o1 o2 o3 =>
                have dp := o3.allF ef
                have hb := b62_of hc.1
                have k2 := a2.keepO ⟨o1, _, o2, rfl⟩
                have dl := dp.len
                refine ⟨_, i, _, rfl, q2.intI, k2.2.trans o2, by omega, by omega, by rw [dl]; exact Nat.le_trans hc.2 million, fun l nl => ?_⟩
                exact p2 _ _ _ [l] (After.newO r2.fh nl) (.ow (as := []) (r2.fh.free nl) upd_same (OwAll.ofDp (DpAll.rep (DpAll.mono a2.ff _ _ dp) _))) (by simp) (fun x hx => by
                  rcases List.mem_cons.mp hx with e | e
                  · subst e; exact nl
                  · cases e)
            · exact p2.elim
        | _ => exact p2.elim
end

/-! ### what stands behind the top -/
/-- a def as it stands -/
structure Fd (K : PySem.W.Frag) (mg : Str → Option Value) (x : Str) (st : Stmt) (ps : List Str) : Prop where
  ex : ∃ f fd, Fun K x x st f fd ∧ mg x = some (.ref f) ∧ Binds K fd ps []
/-- a name that may be called, and its outcome -/
structure Cal (P : Program) (w : World) (K : PySem.W.Frag) (mg : Str → Option Value) (base : Heap) (k : Nat) (x : Str) (ps : List Str) (g : List D → R S) : Prop where
  ex : ∃ f fd, FnG P w K mg base k f fd ps g ∧ mg x = some (.ref f) ∧ PySem.W.keepIn K (.ref f) = true ∧ Binds K fd ps [] ∧ ∃ oc od osl, K.lookup f = some ⟨oc, od, .func fd, osl⟩
theorem Cal.imp {P : Program} {w : World} {K : PySem.W.Frag} {mg : Str → Option Value} {base : Heap} {k : Nat} {x : Str} {ps : List Str} {g g' : List D → R S} (c : Cal P w K mg base k x ps g) (h : ∀ ds, ds.length = ps.length → g' ds = .no ∨ g ds = g' ds) : Cal P w K mg base k x ps g' := by
  obtain ⟨f, fd, h1, h2⟩ := c.ex
  exact ⟨f, fd, h1.imp h, h2⟩
/-- a def's name, from its body -/
theorem cal_mk {P : Program} {w : World} {K : PySem.W.Frag} {mg : Str → Option Value} {base : Heap} {x : Str} {st : Stmt} {N ps : List Str} {k : Nat} {T : En → SR} (d : Fd K mg x st ps) (S : FnScope N ps (defScope st))
    (hT : ∀ (f0 : Addr) (cdv : Value) (A : Around) (outer : List Env) (s : Shared) (H : Hp) (E : XK),
      Cxt (cxOf (L2.CX P w) P w K mg base N x (defScope st) f0 cdv A outer s H E) (fun cls d _ H' => E cls d H') k → DSs (cxOf (L2.CX P w) P w K mg base N x (defScope st) f0 cdv A outer s H E) (fun cls d _ H' => E cls d H') (defBody st) T) :
    Cal P w K mg base (k + 1) x ps (bodyR N ps.length T) := by
  obtain ⟨f, fd, h1, h2, h3⟩ := d.ex
  obtain ⟨oc, od, kV, doc, pm, an, cdv, ct, osl, _, lk, _⟩ := h1.ex
  exact ⟨f, fd, fnG_mk h1 S hT, h2, h1.kp, h3, oc, od, osl, lk⟩
section
variable {X : Cx} {W : WX} {j k : Nat} {ps : List Str} {g : List D → R S} {x : Str} {p pos : Pos} {e : Expr} {es : List Expr} {fs : En → R (List D)} {ms : List Md}
theorem do_cal (c : Cal X.prog X.w X.K X.mg X.base j x ps g) (cx : Cxt X W k) (hk : j ≤ k) (ha : DA X W ms (e :: es) fs) (hms : allf ms = true) (hn : ∀ ds env, fs env = .ok ds → ds.length = ps.length) (hg : Gl X x := by rfl) (hdb : (x == ("__debug__" : Str)) = false := by decide)
    (he : starEach (e :: es) X.env = (false, eval e X.env) :: starEach es X.env := by rfl) (hpl : (backTo pos (starEach es X.env)).any (·.1) = false := by rfl) : DO X W (.Call (.Name x p) (e :: es) [] pos) (cal fs g) := by
  obtain ⟨f, fd, h1, h2, h3, h4, _⟩ := c.ex
  exact do_call h1 cx hk hg h2 h3 h4 ha hms (.inr trivial) hn hdb he hpl
end
/-- an own error class, with all that handlers ask -/
structure ErA (K : PySem.W.Frag) (mg : Str → Option Value) (x : Str) (C : Addr) : Prop where
  e : ErC K mg x C
  i : PySem.W.isClsIn K C = true
  x : ExcC K C
structure Er (K : PySem.W.Frag) (mg : Str → Option Value) (x : Str) : Prop where
  ex : ∃ C, ErA K mg x C
theorem ds_rs {X : Cx} {W : WX} {k : Nat} {pos pos' p p2 : Pos} {x msg : Str} {j : Nat} (cx : Cxt X W k) (E : Er X.K X.mg x) (hg : Gl X x := by rfl) (hdb : (x == ("__debug__" : Str)) = false := by decide) : DS X W (.Raise (some (.Call (.Name x p) [.Constant (.str msg) j p2] [] pos)) none pos') (erS x) := by
  obtain ⟨C, h⟩ := E.ex
  exact ds_raise cx h.e hg hdb
/-- whether an error of the class c is one of the class d -/
def SubO (K : PySem.W.Frag) (mg : Str → Option Value) (c d : Str) (b : Bool) : Prop := PySem.W.subIn K (ecOf mg c) (ecOf mg d) = some b
theorem exm_sub {K : PySem.W.Frag} {mg : Str → Option Value} {c d : Str} {b : Bool} (E : Er K mg d) (h : SubO K mg c d b) : PySem.W.exmOne K (ecOf mg c) (ecOf mg d) = some b := by
  obtain ⟨C, e⟩ := E.ex
  unfold SubO at h
  rw [e.e.ec] at h ⊢
  have e1 : (PySem.W.subIn K (.ref C) (.type "BaseException") == some true) = true := by rw [e.e.b] <;> rfl
  have e2 : ((PySem.W.clsIn K C).isSome && PySem.W.typeIn K (.ref C) == some (.type "type")) = true := by
    have z : (PySem.W.clsIn K C).isSome = true := e.i
    rw [z, e.e.t] <;> rfl
  exact (if_pos e1).trans ((if_pos e2).trans h)
theorem names_own {X : Cx} {d : Str} (E : Er X.K X.mg d) (hg : Gl X d := by rfl) (hdb : (d == ("__debug__" : Str)) = false := by decide) : Names X d (ecOf X.mg d) := by
  obtain ⟨C, e⟩ := E.ex
  exact ⟨hg, hdb, .inl (by rw [e.e.ec]; exact e.e.g)⟩
theorem kit_own {K : PySem.W.Frag} {mg : Str → Option Value} {c d : Str} {b : Bool} (E : Er K mg d) (h : SubO K mg c d b) (hr : SubO K mg d d true) : PySem.W.kitOne K (ecOf mg c) (ecOf mg d) = some b := by
  obtain ⟨C, e⟩ := E.ex
  unfold SubO at h hr
  rw [e.e.ec] at h hr ⊢
  unfold PySem.W.kitOne
  split
  · rename_i z
    have z' : ecOf mg c = .ref C := beq_iff_eq.mp z
    rw [z', hr] at h
    exact h
  · unfold PySem.W.kitCls
    have e2 : ((PySem.W.clsIn K C).isSome && PySem.W.typeIn K (.ref C) == some (.type "type")) = true := by
      have z : (PySem.W.clsIn K C).isSome = true := e.i
      rw [z, e.e.t] <;> rfl
    exact (if_pos e2).trans h
/-- the law's def over every base, from its name's promise -/
theorem top_of {P : Program} {w : World} {K : PySem.W.Frag} {mg : Str → Option Value} {k : Nat} {x : Str} {st : Stmt} {ps : List Str} {g : List D → R S} {fa f : Addr} {fd : FuncData} (hfa : mg x = some (.ref fa)) (h1 : Fun K x x st f fd) (h2 : mg x = some (.ref f))
    (h : ∀ base : Heap, K.In base → base.Ns mainGlobals mg → Cal P w K mg base k x ps g) : ∀ base : Heap, K.In base → base.Ns mainGlobals mg → FnG P w K mg base k fa fd ps g := fun base hK hN => by
  obtain ⟨f', fd', q1, q2, _, _, oc', od', osl', lk'⟩ := (h base hK hN).ex
  obtain ⟨oc, od, kV, doc, pm, an, cdv, ct, osl, _, lk, _⟩ := h1.ex
  rw [h2] at q2 hfa
  cases q2
  cases hfa
  rw [lk] at lk'
  cases lk'
  exact q1
end DL
namespace DL
open PySem PySem.Spec PyProof.Rows L2
variable [Tabs]
def cI (i : Int) : En → R D := fun _ => .ok (.int i)
def cB (b : Bool) : En → R D := fun _ => .ok (.bool b)
def cS (x : Str) : En → R D := fun _ => .ok (.str x)
def cN : En → R D := fun _ => .ok .none
def negR (f : En → R D) : En → R D := fun env => (f env).bind negD
def truR (f : En → R D) : En → R Bool := fun env => (f env).bind trD
def rtN : En → SR := fun _ => .rt (.fr .none)
def bkS : En → SR := fun env => .bk env
def ctS : En → SR := fun env => .ct env
def SR.fin (is : List Nat) : SR → SR
  | .nx e => .nx (fgE e is)
  | .bk e => .bk (fgE e is)
  | .ct e => .ct (fgE e is)
  | .er c e => .er c e
  | .rt s => .rt s
  | .no => .no
def fnS (is : List Nat) (T : En → SR) : En → SR := fun env => (T env).fin is
def fuel0 : En → Nat := fun _ => 1000000
section
variable {X : Cx} {W : WX} {k : Nat} {m : Md} {pos p p2 : Pos} {sts : List Stmt} {T U : En → SR}
theorem dss_fin (is : List Nat) (h : DSs X W sts T) : DSs X W sts (fnS is T) := h.wk fun D σ H ⟨B, F, env, r, q⟩ => by
  refine ⟨B, F, env, r, ?_⟩
  unfold fnS at q
  cases e : T env with
  | nx e1 => rw [e] at q; exact fun σ2 H2 F2 a r2 => q σ2 H2 F2 a (r2.forgets is)
  | bk e1 => rw [e] at q; exact fun σ2 H2 F2 a r2 => q σ2 H2 F2 a (r2.forgets is)
  | ct e1 => rw [e] at q; exact fun σ2 H2 F2 a r2 => q σ2 H2 F2 a (r2.forgets is)
  | er c e1 => rw [e] at q; exact q
  | rt s => rw [e] at q; exact q
  | no => rw [e] at q; exact q
theorem dss_eq (h : DSs X W sts T) (e : ∀ env, T env = U env) : DSs X W sts U := by
  have : T = U := funext e
  rw [← this]; exact h
def SubB (K : PySem.W.Frag) (mg : Str → Option Value) (c : Str) (d : String) (b : Bool) : Prop := PySem.W.subIn K (ecOf mg c) (.type d) = some b
def GI (mg : Str → Option Value) (x : Str) (n : Int) : Prop := ∃ t, mg x = some (.int n t)
theorem de_globI {x : Str} {n : Int} (g : GI X.mg x n) (hg : Gl X x) (hdb : (x == ("__debug__" : Str)) = false := by decide) : DE X W m (.Name x pos) (fun _ => .ok (.int n)) := by
  obtain ⟨t, e⟩ := g
  exact de_glob (v := .int n) hg e ⟨t, rfl⟩ (fun F => .int n) hdb
theorem hu_mark {A : Around} {v : Option Value} {k : Nat} (r : Room k A) : (A.mark v).units + 65 < cLine := by
  have := room64 r
  exact this
theorem de_isO {a : Addr} {oe : Obj} {pn : List (Addr × Obj)} {x d cls : Str} {p0 p1 : Pos} {b : Bool} (i : Nat) (E : Er X.K X.mg cls) (hz : Zc (ecOf X.mg cls) none oe) (hf : ∃ vs, oe.data = .fields vs)
    (hn : (X.suite a ((a, oe) :: pn)).N[i]? = some x) (hv : Vis (X.suite a ((a, oe) :: pn)).env.scope x) (hd : (x == ("__debug__" : Str)) = false) (hcd : (x == ("__classdict__" : Str)) = false)
    (hk : PySem.W.kitOne X.K (ecOf X.mg cls) (ecOf X.mg d) = some b) (nm : Names X d (ecOf X.mg d)) (Ed : Er X.K X.mg d)
    (hg : Gl (X.suite a ((a, oe) :: pn)) "isinstance") (hm : X.mg "isinstance" = none)
    (he : starEach [.Name x p1, .Name d p2] (X.suite a ((a, oe) :: pn)).env = (false, eval (.Name x p1) (X.suite a ((a, oe) :: pn)).env) :: starEach [.Name d p2] (X.suite a ((a, oe) :: pn)).env)
    (he2 : starEach [.Name d p2] (X.suite a ((a, oe) :: pn)).env = (false, eval (.Name d p2) (X.suite a ((a, oe) :: pn)).env) :: starEach [] (X.suite a ((a, oe) :: pn)).env)
    (hpl : (backTo pos (starEach [.Name d p2] (X.suite a ((a, oe) :: pn)).env)).any (·.1) = false) :
    DE (X.suite a ((a, oe) :: pn)) W m (.Call (.Name "isinstance" p0) [.Name x p1, .Name d p2] [] pos) (isiS i a b) := by
  obtain ⟨C, e⟩ := E.ex
  obtain ⟨C2, e2⟩ := Ed.ex
  rw [e.e.ec] at hz
  rw [e.e.ec, e2.e.ec] at hk
  exact de_isE i e.x hz hf hn hv hd hcd (pe_glob (v := .ref C2) nm.1 e2.e.g rfl nm.2.1) (.own C2) hk hg hm he he2 hpl
theorem de_isB {a : Addr} {oe : Obj} {pn : List (Addr × Obj)} {x cls d : Str} {ds : String} {p0 p1 : Pos} {b : Bool} (i : Nat) (E : Er X.K X.mg cls) (hz : Zc (ecOf X.mg cls) none oe) (hf : ∃ vs, oe.data = .fields vs)
    (hn : (X.suite a ((a, oe) :: pn)).N[i]? = some x) (hv : Vis (X.suite a ((a, oe) :: pn)).env.scope x) (hd : (x == ("__debug__" : Str)) = false) (hcd : (x == ("__classdict__" : Str)) = false)
    (hk : SubB X.K X.mg cls ds b) (hm2 : X.mg d = none) (hb : bootBuiltins d = some (.type ds) ∧ PySem.W.kitMeta ds = true)
    (hg : Gl (X.suite a ((a, oe) :: pn)) "isinstance") (hm : X.mg "isinstance" = none)
    (he : starEach [.Name x p1, .Name d p2] (X.suite a ((a, oe) :: pn)).env = (false, eval (.Name x p1) (X.suite a ((a, oe) :: pn)).env) :: starEach [.Name d p2] (X.suite a ((a, oe) :: pn)).env)
    (he2 : starEach [.Name d p2] (X.suite a ((a, oe) :: pn)).env = (false, eval (.Name d p2) (X.suite a ((a, oe) :: pn)).env) :: starEach [] (X.suite a ((a, oe) :: pn)).env)
    (hpl : (backTo pos (starEach [.Name d p2] (X.suite a ((a, oe) :: pn)).env)).any (·.1) = false)
    (hg2 : Gl (X.suite a ((a, oe) :: pn)) d := by rfl) (hnn : d ≠ "__name__" := by decide) (hdb : (d == ("__debug__" : Str)) = false := by decide) :
    DE (X.suite a ((a, oe) :: pn)) W m (.Call (.Name "isinstance" p0) [.Name x p1, .Name d p2] [] pos) (isiS i a b) := by
  obtain ⟨C, e⟩ := E.ex
  rw [e.e.ec] at hz
  unfold SubB at hk
  rw [e.e.ec] at hk
  refine de_isE i e.x hz hf hn hv hd hcd (pe_bltn (v := .ty ds) hg2 hm2 hb.1 rfl hnn hdb) (.ty ds) ?_ hg hm he he2 hpl
  exact (if_pos hb.2).trans hk
/-! repr -/
def rRepr (K : PySem.W.Frag) : List V → Hp → VK → Prop := fun xs H Q => ∃ a d, xs = [.ref a] ∧ Dp K H (.ref a) d ∧ d.showable = true ∧ d.hasDict = false ∧ d.depth ≤ 64 ∧ d.shown.length ≤ sizeLine ∧ Q (.str d.shown) H
theorem call_repr (hg : X.A.guards = some []) (hr : Room k X.A) : CallR X (.builtin "repr") (rRepr X.K) := by
  intro pins s σ H xs us Q I r h
  obtain ⟨a, d, rfl, hd, h1, h2, h3, h4, q⟩ := h
  obtain ⟨u, rfl, ru⟩ := vals1 r
  cases ru
  obtain ⟨as, rd⟩ := Dp.reads I d _ _ hd rfl
  have := hr.un
  exact repr_of_reads' rd h1 (PyData.noDict_hsm h2) hg (by omega) (fun _ _ e => e) (fun h' u tk hk => ⟨.str _, H, I.kept hk, ⟨u, rfl⟩, q⟩) h4
theorem call_reprN : CallR X (.builtin "repr") (fun xs H Q => xs = [.non] ∧ Q (.str "None") H) := by
  intro pins s σ H xs us Q I r h
  obtain ⟨rfl, q⟩ := h
  obtain ⟨u, rfl, ru⟩ := vals1 r
  obtain rfl : u = Value.none := ru
  exact PySem.P.repr_of_none ⟨.str _, H, I.tok _, ⟨_, rfl⟩, q⟩
theorem call_reprA (hg : X.A.guards = some []) (hr : Room k X.A) : CallR X (.builtin "repr") (fun xs H Q => rRepr X.K xs H Q ∨ (xs = [.non] ∧ Q (.str "None") H) ∨ ∃ i, xs = [.int i] ∧ i.natAbs.log2 < 1920 ∧ Q (.str (toString i)) H) := by
  intro pins s σ H xs us Q I r h
  rcases h with h | h | h
  · exact call_repr hg hr pins s σ H xs us Q I r h
  · exact call_reprN pins s σ H xs us Q I r h
  · exact SkE.call_repr_int pins s σ H xs us Q I r h
def reprD : D → R D
  | .list ds => if (PyData.list ds).showable = true ∧ (PyData.list ds).hasDict = false ∧ (PyData.list ds).depth ≤ 64 ∧ (PyData.list ds).shown.length ≤ sizeLine then .ok (.str (PyData.list ds).shown) else .no
  | .tuple ds => if (PyData.tuple ds).showable = true ∧ (PyData.tuple ds).hasDict = false ∧ (PyData.tuple ds).depth ≤ 64 ∧ (PyData.tuple ds).shown.length ≤ sizeLine then .ok (.str (PyData.tuple ds).shown) else .no
  | .none => .ok (.str "None")
  | .int i => if i.natAbs.log2 < 1920 then .ok (.str (toString i)) else .no
  | _ => .no
theorem bi_repr (c : Cxt X W k) : Bi X (.builtin "repr") [.h] m (one reprD) := ⟨one_ne fun d c => by
    unfold reprD
    repeat' split
    all_goals exact (fun z => nomatch z), _, call_reprA c.gd c.rm, fun ec W σ F H vs ds Q s r p => by
  cases r with
  | cons q t =>
    cases t
    rename_i v d
    have q : Dp X.K H v d := q
    cases d with
    | list ds =>
      simp only [one, reprD] at p
      split at p
      · rename_i hc
        cases q with
        | lst h1 h2 => exact .inl ⟨_, _, rfl, .lst h1 h2, hc.1, hc.2.1, hc.2.2.1, hc.2.2.2, p _ _ _ (After.refl s) (Rp.str _)⟩
      · exact p.elim
    | tuple ds =>
      simp only [one, reprD] at p
      split at p
      · rename_i hc
        cases q with
        | tup h1 h2 => exact .inl ⟨_, _, rfl, .tup h1 h2, hc.1, hc.2.1, hc.2.2.1, hc.2.2.2, p _ _ _ (After.refl s) (Rp.str _)⟩
      · exact p.elim
    | none =>
      cases q
      exact .inr (.inl ⟨rfl, p _ _ _ (After.refl s) (Rp.str _)⟩)
    | int i =>
      simp only [one, reprD] at p
      split at p
      · rename_i hc
        cases q
        exact .inr (.inr ⟨_, rfl, hc, p _ _ _ (After.refl s) (Rp.str _)⟩)
      · exact p.elim
    | _ => exact p.elim⟩
end
end DL
namespace DL
open PySem PySem.Spec PyProof.Rows L2
/-! ### reckoning with outcomes -/
@[simp] theorem R.bind_ok {A B : Type} (a : A) (f : A → R B) : (R.ok a).bind f = f a := rfl
@[simp] theorem R.bind_er {A B : Type} (c : Str) (f : A → R B) : (R.er c : R A).bind f = .er c := rfl
@[simp] theorem R.bind_no {A B : Type} (f : A → R B) : (R.no : R A).bind f = .no := rfl
@[simp] theorem R.st_ok {A : Type} (a : A) (env : En) (k : A → SR) : (R.ok a).st env k = k a := rfl
@[simp] theorem R.st_er {A : Type} (c : Str) (env : En) (k : A → SR) : (R.er c : R A).st env k = .er c env := rfl
@[simp] theorem R.st_no {A : Type} (env : En) (k : A → SR) : (R.no : R A).st env k = .no := rfl
@[simp] theorem sq_nx (e : En) (k : En → SR) : (SR.nx e).sq k = k e := rfl
@[simp] theorem sq_rt (s : S) (k : En → SR) : (SR.rt s).sq k = .rt s := rfl
@[simp] theorem sq_bk (e : En) (k : En → SR) : (SR.bk e).sq k = .bk e := rfl
@[simp] theorem sq_ct (e : En) (k : En → SR) : (SR.ct e).sq k = .ct e := rfl
@[simp] theorem sq_er (c : Str) (e : En) (k : En → SR) : (SR.er c e).sq k = .er c e := rfl
@[simp] theorem sq_no (k : En → SR) : SR.no.sq k = .no := rfl
section
variable (env : En) (i j : Nat) (f g h : En → R D) (fo : En → R S) (t u : En → R Bool) (T U : En → SR) (fs : En → R (List D)) (is : List Nat)
@[simp] theorem e_nxS : nxS env = .nx env := rfl
@[simp] theorem e_bkS : bkS env = .bk env := rfl
@[simp] theorem e_ctS : ctS env = .ct env := rfl
@[simp] theorem e_rtN : rtN env = .rt (.fr .none) := rfl
@[simp] theorem e_sqS : sqS T U env = (T env).sq U := rfl
@[simp] theorem e_exS : exS f env = (f env).st env fun _ => .nx env := rfl
@[simp] theorem e_rtS : rtS f env = (f env).st env fun d => .rt (.fr d) := rfl
@[simp] theorem e_rtO : rtO fo env = (fo env).st env fun s => .rt s := rfl
@[simp] theorem e_ifS : ifS t T U env = (t env).st env fun b => match b with | true => T env | false => U env := rfl
@[simp] theorem e_asS : asS i f env = (f env).st env fun d => .nx (env.set i (some (.v (.fr d)))) := rfl
@[simp] theorem e_asO : asO i fo env = (fo env).st env fun s => .nx (env.set i (some (.v s))) := rfl
@[simp] theorem e_forS {b : D → En → Option En} : forS fs b T env = (fs env).st env fun ds => forF b T ds env := rfl
@[simp] theorem e_fnS : fnS is T env = (T env).fin is := rfl
@[simp] theorem e_fgS : fgS is T env = T (fgE env is) := rfl
@[simp] theorem e_fzS : fzS i T env = T (fzE env i) := rfl
@[simp] theorem e_erS {x : Str} : erS x env = .er x env := rfl
@[simp] theorem fgE_nil : fgE env [] = env := rfl
@[simp] theorem fgE_cons : fgE env (i :: is) = (fgE env is).set i none := rfl
@[simp] theorem fin_nx : (SR.nx env).fin is = .nx (fgE env is) := rfl
@[simp] theorem fin_bk : (SR.bk env).fin is = .bk (fgE env is) := rfl
@[simp] theorem fin_ct : (SR.ct env).fin is = .ct (fgE env is) := rfl
@[simp] theorem fin_rt {s : S} : (SR.rt s).fin is = .rt s := rfl
@[simp] theorem fin_er {c : Str} : (SR.er c env).fin is = .er c env := rfl
@[simp] theorem fin_no : SR.no.fin is = .no := rfl
@[simp] theorem e_b2 {k : D → D → R D} : b2 f g k env = (f env).bind fun x => (g env).bind fun y => k x y := rfl
@[simp] theorem e_t2 {k : D → D → R D} : t2 f g k env = (f env).bind fun x => (g env).bind fun y => (k x y).bind tob := rfl
@[simp] theorem e_cal {A : Type} {k : List D → R A} : cal fs k env = (fs env).bind k := rfl
@[simp] theorem e_nilA : nilA env = .ok [] := rfl
@[simp] theorem e_consA : consA f fs env = (f env).bind fun d => (fs env).bind fun ds => .ok (d :: ds) := rfl
@[simp] theorem e_tupR : tupR fs env = (fs env).bind fun ds => if ds.length ≤ 1000 then .ok (.tuple ds) else .no := rfl
@[simp] theorem e_lstR : lstR fs env = (fs env).bind fun ds => if ds.length ≤ 1000 then .ok (.ow (ds.map .fr)) else .no := rfl
@[simp] theorem e_unO : unO fo env = (fo env).bind fun s => .ok s.toD := rfl
@[simp] theorem e_frR : frR f env = (f env).bind fun d => .ok (.fr d) := rfl
@[simp] theorem e_scR : scR f env = (f env).bind fun d => if sca d = true then .ok d else .no := rfl
@[simp] theorem e_seqR : seqR f env = (f env).bind seqD := rfl
@[simp] theorem e_cI {n : Int} : cI n env = .ok (.int n) := rfl
@[simp] theorem e_cB {n : Bool} : cB n env = .ok (.bool n) := rfl
@[simp] theorem e_cS {n : Str} : cS n env = .ok (.str n) := rfl
@[simp] theorem e_cN : cN env = .ok .none := rfl
@[simp] theorem e_negR : negR f env = (f env).bind negD := rfl
@[simp] theorem e_truR : truR f env = (f env).bind trD := rfl
@[simp] theorem e_tobR : tobR f env = (f env).bind tob := rfl
@[simp] theorem e_andT : andT t u env = (t env).bind fun k => match k with | true => u env | false => .ok false := rfl
@[simp] theorem e_orT : orT t u env = (t env).bind fun k => match k with | true => .ok true | false => u env := rfl
@[simp] theorem e_notT : notT t env = (t env).bind fun k => .ok (!k) := rfl
@[simp] theorem e_ifD : ifD t f g env = (t env).bind fun k => match k with | true => f env | false => g env := rfl
@[simp] theorem e_andV : andV f g env = (f env).bind fun k => match k with | .bool true => g env | .bool false => .ok (.bool false) | _ => .no := rfl
@[simp] theorem e_orV : orV f g env = (f env).bind fun k => match k with | .bool true => .ok (.bool true) | .bool false => g env | _ => .no := rfl
@[simp] theorem e_notV : notV f env = (f env).bind fun k => match k with | .bool k => .ok (.bool (!k)) | _ => .no := rfl
@[simp] theorem e_bitR : bitR f env = (f env).bind fun d => match d with | .int i => .ok (.int (Builtin.Int.intBits i : Nat)) | _ => .no := rfl
@[simp] theorem e_isiR {T : String} : isiR T f env = (f env).bind fun d => .ok (.bool (isT T d)) := rfl
@[simp] theorem e_repR : repR fo f env = (fo env).bind fun s => (f env).bind fun d => repD s d := rfl
@[simp] theorem e_slR {fl fh : FO} {k : D → Option Int → Option Int → R S} : slR f fl fh k env = (f env).bind fun x => (fl env).bind fun l => (fh env).bind fun h => k x l h := rfl
@[simp] theorem e_noneO : noneO env = .ok none := rfl
@[simp] theorem e_someO : someO f env = (f env).bind opI := rfl
@[simp] theorem e_ch3 {k l : D → D → R D} : ch3 f g h k l env = (f env).bind fun x => (g env).bind fun y => (k x y).bind fun z => match z with | .bool true => (h env).bind fun w => l y w | .bool false => .ok (.bool false) | _ => .no := rfl
@[simp] theorem e_compR {vs : List Nat} {b : D → En → Option En} : compR vs fs b t fo env = (fs env).bind fun ds => if ds.length ≤ 1000000 then (match compF b t fo (wipeE env vs) ds with | .ok ss => .ok (.ow ss) | _ => .no) else .no := rfl
@[simp] theorem e_yesT : yesT env = .ok true := rfl
@[simp] theorem e_asG {b : D → En → Option En} : asG b f env = (f env).st env fun d => match b d env with | some e => .nx e | none => .no := rfl
@[simp] theorem e_parS : parS i j fs env = (fs env).st env fun ds => match ds with | [d, d'] => .nx ((env.set i (some (.v (.fr d)))).set j (some (.v (.fr d')))) | _ => .no := rfl
@[simp] theorem wipeE_nil : wipeE env [] = env := rfl
@[simp] theorem wipeE_cons : wipeE env (i :: is) = (wipeE env is).set i none := rfl
@[simp] theorem e_setN (d : D) : setN i d env = some (env.set i (some (.v (.fr d)))) := rfl
end
section
variable (d e : D) (i j : Int) (x : Option Sl) (s : S) (ss : List S) (env : En) (k : Nat)
@[simp] theorem vf_z : vf 0 (some (.v (.fr d)) :: env) = .ok d := rfl
@[simp] theorem vf_s : vf (k + 1) (x :: env) = vf k env := by unfold vf; rw [List.getElem?_cons_succ]
@[simp] theorem vh_z : vh 0 (some (.v s) :: env) = .ok s.toD := rfl
@[simp] theorem vh_s : vh (k + 1) (x :: env) = vh k env := by unfold vh; rw [List.getElem?_cons_succ]
@[simp] theorem vq_zf : vq 0 (some (.v (.fr d)) :: env) = .ok d := rfl
@[simp] theorem vq_zo : vq 0 (some (.v (.ow ss)) :: env) = match allF ss with | some ds => .ok (.list ds) | none => .no := rfl
@[simp] theorem vq_s : vq (k + 1) (x :: env) = vq k env := by unfold vq; rw [List.getElem?_cons_succ]
@[simp] theorem rtV_z : rtV 0 (some (.v s) :: env) = .rt s := rfl
@[simp] theorem rtV_s : rtV (k + 1) (x :: env) = rtV k env := by unfold rtV; rw [List.getElem?_cons_succ]
@[simp] theorem endR_rt : endR (.rt s) = .ok s := rfl
@[simp] theorem endR_nx : endR (.nx env) = .ok (.fr .none) := rfl
@[simp] theorem endR_er (c : Str) : endR (.er c env) = .er c := rfl
@[simp] theorem toD_fr : (S.fr d).toD = d := by rw [S.toD]
@[simp] theorem toD_ow : (S.ow ss).toD = .list (ss.map S.toD) := by rw [S.toD, toDs_map]
@[simp] theorem allF_map (ds : List D) : allF (ds.map .fr) = some ds := by
  induction ds with
  | nil => rfl
  | cons d ds ih => rw [List.map_cons, allF, ih]; rfl
@[simp] theorem add_i : addD (.int i) (.int j) = .ok (.int (i + j)) := rfl
@[simp] theorem sub_i : subD (.int i) (.int j) = .ok (.int (i - j)) := rfl
theorem mul_i (h : CMulX i j) : mulD (.int i) (.int j) = .ok (.int (i * j)) := by show (if CMulX i j then _ else _) = _; rw [if_pos h]
theorem fdiv_i (h : CFd i j) : fdivD (.int i) (.int j) = .ok (.int (i.fdiv j)) := by show (if CFd i j then _ else _) = _; rw [if_pos h]
theorem mod_i (h : j ≠ 0) : modD (.int i) (.int j) = .ok (.int (i.fmod j)) := by show (if j ≠ 0 then _ else _) = _; rw [if_pos h]
theorem pow_i (h : CPow i j) : powD (.int i) (.int j) = .ok (.int (i ^ j.toNat)) := by show (if CPow i j then _ else _) = _; rw [if_pos h]
theorem shr_i (h : 0 ≤ j) : shrD (.int i) (.int j) = .ok (.int (i / 2 ^ j.toNat)) := by show (if 0 ≤ j then _ else _) = _; rw [if_pos h]
@[simp] theorem and_i : andD (.int i) (.int j) = .ok (.int (Builtin.bitAnd i j)) := rfl
@[simp] theorem neg_i : negD (.int i) = .ok (.int (-i)) := rfl
@[simp] theorem lt_i : ltD (.int i) (.int j) = .ok (.bool (decide (i < j))) := rfl
@[simp] theorem le_i : leD (.int i) (.int j) = .ok (.bool (decide (i ≤ j))) := rfl
@[simp] theorem gt_i : gtD (.int i) (.int j) = .ok (.bool (decide (j < i))) := rfl
@[simp] theorem ge_i : geD (.int i) (.int j) = .ok (.bool (decide (j ≤ i))) := rfl
theorem sh_i : SeqAt.shaped (.int i) = true := by
  unfold SeqAt.shaped
  simp [PyData.canLay0, PyData.depth]
@[simp] theorem eq_i : eqD (.int i) (.int j) = .ok (.bool (i == j)) := by
  unfold eqD
  rw [if_pos ⟨sh_i i, sh_i j⟩]
  simp [PyData.eqv]
@[simp] theorem ne_i : neD (.int i) (.int j) = .ok (.bool (!(i == j))) := by
  unfold neD
  rw [if_pos ⟨sh_i i, sh_i j⟩]
  simp [PyData.eqv]
@[simp] theorem is_no : isD d .none = .ok (.bool (isNo d)) := rfl
@[simp] theorem isn_no : isNotD d .none = .ok (.bool (!isNo d)) := rfl
@[simp] theorem isNo_none : isNo .none = true := rfl
@[simp] theorem isNo_int : isNo (.int i) = false := rfl
@[simp] theorem isNo_tup (ds : List D) : isNo (.tuple ds) = false := rfl
@[simp] theorem isNo_lst (ds : List D) : isNo (.list ds) = false := rfl
@[simp] theorem tob_b (b : Bool) : tob (.bool b) = .ok b := rfl
@[simp] theorem tr_b (b : Bool) : trD (.bool b) = .ok b := rfl
@[simp] theorem tr_l (ds : List D) : trD (.list ds) = .ok (!ds.isEmpty) := rfl
@[simp] theorem one_ {A : Type} (g : D → R A) : one g [d] = g d := rfl
@[simp] theorem two_ {A : Type} (g : D → D → R A) : two g [d, e] = g d e := rfl
@[simp] theorem int_i : intD (.int i) = .ok (.int i) := rfl
@[simp] theorem int_b (b : Bool) : intD (.bool b) = .ok (.int (if b then 1 else 0)) := rfl
@[simp] theorem abs_i : absD (.int i) = .ok (.int (i.natAbs : Int)) := by
  have e : (if i < 0 then -i else i) = (i.natAbs : Int) := by omega
  show R.ok (PyData.int (if i < 0 then -i else i)) = _
  rw [e]
@[simp] theorem len_l (ds : List D) : lenD (.list ds) = .ok (.int ds.length) := rfl
@[simp] theorem len_t (ds : List D) : lenD (.tuple ds) = .ok (.int ds.length) := rfl
@[simp] theorem gcd_i : gcdD (.int i) (.int j) = .ok (.int ((Nat.gcd i.natAbs j.natAbs : Nat) : Int)) := rfl
@[simp] theorem seq_l (ds : List D) : seqD (.list ds) = .ok ds := rfl
@[simp] theorem seq_t (ds : List D) : seqD (.tuple ds) = .ok ds := rfl
@[simp] theorem opI_i : opI (.int i) = .ok (some i) := rfl
@[simp] theorem list_l (ds : List D) : listD (.list ds) = .ok (.ow (ds.map .fr)) := rfl
@[simp] theorem slc_l (ds : List D) (lo hi : Option Int) : slcD (.list ds) lo hi = .ok (.ow ((cutD ds lo hi).map .fr)) := rfl
@[simp] theorem add_l (xs ys : List D) : addD (.list xs) (.list ys) = if xs.length + ys.length ≤ sizeLine then .ok (.list (xs ++ ys)) else .no := rfl
theorem ix_l (ds : List D) : ixD (.list ds) (.int i) = match atI ds i with | some d => .ok d | none => .no := rfl
theorem ix_t (ds : List D) : ixD (.tuple ds) (.int i) = match atI ds i with | some d => .ok d | none => .no := rfl
theorem atI_nat {A : Type} {xs : List A} {n : Nat} {a : A} (h : xs[n]? = some a) : atI xs (n : Int) = some a := by
  unfold atI ixN
  obtain ⟨hl, _⟩ := List.getElem?_eq_some_iff.mp h
  rw [if_pos (by omega), if_pos (by omega)]
  simpa using h
theorem atI_of {A : Type} {xs : List A} {i : Int} {a : A} (h0 : 0 ≤ i) (h : xs[i.toNat]? = some a) : atI xs i = some a := by
  have := atI_nat h
  rwa [Int.toNat_of_nonneg h0] at this
@[simp] theorem ix_l0 (ds : List D) : ixD (.list (d :: ds)) (.int 0) = .ok d := by rw [ix_l, atI_of (Int.le_refl 0) rfl]
@[simp] theorem ix_t0 (ds : List D) : ixD (.tuple (d :: ds)) (.int 0) = .ok d := by rw [ix_t, atI_of (Int.le_refl 0) rfl]
@[simp] theorem ix_t1 (ds : List D) : ixD (.tuple (d :: e :: ds)) (.int 1) = .ok e := by rw [ix_t, atI_of (by decide) rfl]
@[simp] theorem ix_l1 (ds : List D) : ixD (.list (d :: e :: ds)) (.int 1) = .ok e := by rw [ix_l, atI_of (by decide) rfl]
end
@[simp] theorem apS_z {f : En → R S} {ss : List S} {env : En} : apS 0 f (some (.v (.ow ss)) :: env) = (f (some (.v (.ow ss)) :: env)).st (some (.v (.ow ss)) :: env) fun s => if ss.length < 1000000 then .nx (some (.v (.ow (ss ++ [s]))) :: env) else .no := rfl
theorem apS_at {f : En → R S} {ss : List S} {env : En} {i : Nat} (h : env[i]? = some (some (.v (.ow ss)))) : apS i f env = (f env).st env fun s => if ss.length < 1000000 then .nx (env.set i (some (.v (.ow (ss ++ [s]))))) else .no := by
  unfold apS
  rw [h]
/-! ### loops -/
/-- a loop's turns over the state s: on with a state, or out -/
def foldX {A B : Type} (step : A → B → Sum A SR) : List B → A → Sum A SR
  | [], a => .inl a
  | d :: ds, a => match step a d with
    | .inl a' => foldX step ds a'
    | .inr r => .inr r
/-- the outcome of a turn -/
def turnO {A : Type} (enc : A → En) : Sum A SR → SR → Prop
  | .inl a, r => r = .nx (enc a) ∨ r = .ct (enc a)
  | .inr r', r => r = r' ∧ (∀ e, r ≠ .nx e) ∧ (∀ e, r ≠ .ct e) ∧ (∀ e, r ≠ .bk e)
def outO {A : Type} (enc : A → En) : Sum A SR → SR
  | .inl a => .nx (enc a)
  | .inr r => r
theorem forF_fold {A B : Type} {b : D → En → Option En} {T : En → SR} (enc : A → En) (cd : B → D) (step : A → B → Sum A SR) : ∀ (ds : List B) (a : A) (P : A → Prop), P a →
    (∀ a d, P a → d ∈ ds → ∃ e1, b (cd d) (enc a) = some e1 ∧ turnO enc (step a d) (T e1) ∧ ∀ a', step a d = .inl a' → P a') → forF b T (ds.map cd) (enc a) = outO enc (foldX step ds a)
  | [], a, P, _, _ => rfl
  | d :: ds, a, P, pa, h => by
    obtain ⟨e1, h1, h2, h3⟩ := h a d pa List.mem_cons_self
    rw [List.map_cons, forF, h1]
    dsimp only
    rw [foldX]
    cases hs : step a d with
    | inl a' =>
      rw [hs] at h2
      have ih := forF_fold enc cd step ds a' P (h3 a' hs) fun a d p m => h a d p (List.mem_cons_of_mem _ m)
      rcases h2 with z | z
      · rw [z]; exact ih
      · rw [z]; exact ih
    | inr r =>
      rw [hs] at h2
      obtain ⟨z, n1, n2, n3⟩ := h2
      show _ = r
      rw [z] at n1 n2 n3 ⊢
      cases r with
      | nx e => exact absurd rfl (n1 e)
      | ct e => exact absurd rfl (n2 e)
      | bk e => exact absurd rfl (n3 e)
      | _ => rfl
/-- a loop that never leaves: a fold -/
theorem forF_go {A B : Type} {b : D → En → Option En} {T : En → SR} (enc : A → En) (cd : B → D) (step : A → B → A) : ∀ (ds : List B) (a : A) (P : A → Prop), P a →
    (∀ a d, P a → d ∈ ds → ∃ e1, b (cd d) (enc a) = some e1 ∧ T e1 = .nx (enc (step a d)) ∧ P (step a d)) → forF b T (ds.map cd) (enc a) = .nx (enc (ds.foldl step a))
  | [], a, P, _, _ => rfl
  | d :: ds, a, P, pa, h => by
    obtain ⟨e1, h1, h2, h3⟩ := h a d pa List.mem_cons_self
    rw [List.map_cons, forF, h1]
    dsimp only
    rw [h2]
    exact forF_go enc cd step ds (step a d) P h3 fun a d p m => h a d p (List.mem_cons_of_mem _ m)
/-- a comprehension without a test -/
theorem compF_map {B : Type} {b : D → En → Option En} {f : En → R S} {env : En} (cd : B → D) (g : B → S) : ∀ ds : List B, (∀ d ∈ ds, ∃ e1, b (cd d) env = some e1 ∧ f e1 = .ok (g d)) → compF b yesT f env (ds.map cd) = .ok (ds.map g)
  | [], _ => rfl
  | d :: ds, h => by
    obtain ⟨e1, h1, h2⟩ := h d List.mem_cons_self
    have ih := compF_map (b := b) (f := f) (env := env) cd g ds fun d m => h d (List.mem_cons_of_mem _ m)
    rw [List.map_cons, compF, h1]
    dsimp only [yesT]
    rw [h2, ih]
    rfl
/-- a comprehension with a test -/
theorem compF_filter {B : Type} {b : D → En → Option En} {t : En → R Bool} {f : En → R S} {env : En} (cd : B → D) (p : B → Bool) (g : B → S) : ∀ ds : List B, (∀ d ∈ ds, ∃ e1, b (cd d) env = some e1 ∧ t e1 = .ok (p d) ∧ (p d = true → f e1 = .ok (g d))) →
    compF b t f env (ds.map cd) = .ok ((ds.filter p).map g)
  | [], _ => rfl
  | d :: ds, h => by
    obtain ⟨e1, h1, h2, h3⟩ := h d List.mem_cons_self
    have ih := compF_filter (b := b) (t := t) (f := f) (env := env) cd p g ds fun d m => h d (List.mem_cons_of_mem _ m)
    rw [List.map_cons, compF, h1]
    dsimp only
    rw [h2]
    cases e : p d with
    | false =>
      dsimp only
      rw [ih, List.filter_cons_of_neg (by simp [e])]
    | true =>
      dsimp only
      rw [h3 e, ih, List.filter_cons_of_pos e]
      rfl
/-- a loop that never leaves, with what is left of it in sight -/
theorem forF_goI {A B : Type} {b : D → En → Option En} {T : En → SR} (enc : A → En) (cd : B → D) (step : A → B → A) : ∀ (ds : List B) (a : A) (P : A → List B → Prop), P a ds →
    (∀ a d ds, P a (d :: ds) → ∃ e1, b (cd d) (enc a) = some e1 ∧ T e1 = .nx (enc (step a d)) ∧ P (step a d) ds) → forF b T (ds.map cd) (enc a) = .nx (enc (ds.foldl step a))
  | [], a, P, _, _ => rfl
  | d :: ds, a, P, pa, h => by
    obtain ⟨e1, h1, h2, h3⟩ := h a d ds pa
    rw [List.map_cons, forF, h1]
    dsimp only
    rw [h2]
    exact forF_goI enc cd step ds (step a d) P h3 h
/-- a loop that may leave, with what is left of it in sight -/
theorem forF_foldI {A B : Type} {b : D → En → Option En} {T : En → SR} (enc : A → En) (cd : B → D) (step : A → B → Sum A SR) : ∀ (ds : List B) (a : A) (P : A → List B → Prop), P a ds →
    (∀ a d ds, P a (d :: ds) → ∃ e1, b (cd d) (enc a) = some e1 ∧ turnO enc (step a d) (T e1) ∧ ∀ a', step a d = .inl a' → P a' ds) → forF b T (ds.map cd) (enc a) = outO enc (foldX step ds a)
  | [], a, P, _, _ => rfl
  | d :: ds, a, P, pa, h => by
    obtain ⟨e1, h1, h2, h3⟩ := h a d ds pa
    rw [List.map_cons, forF, h1]
    dsimp only
    rw [foldX]
    cases hs : step a d with
    | inl a' =>
      rw [hs] at h2
      have ih := forF_foldI enc cd step ds a' P (h3 a' hs) h
      rcases h2 with z | z
      · rw [z]; exact ih
      · rw [z]; exact ih
    | inr r =>
      rw [hs] at h2
      obtain ⟨z, n1, n2, n3⟩ := h2
      show _ = r
      rw [z] at n1 n2 n3 ⊢
      cases r with
      | nx e => exact absurd rfl (n1 e)
      | ct e => exact absurd rfl (n2 e)
      | bk e => exact absurd rfl (n3 e)
      | _ => rfl
end DL
namespace DL
open PySem PySem.Spec PyProof.Rows L2
/-! ### a list deep within a slot's own value -/
/-- the list at a place within -/
def getP : S → List Nat → Option (List S)
  | .ow ss, [] => some ss
  | .ow ss, n :: p => match ss[n]? with
    | some s => getP s p
    | none => none
  | .tu ss, n :: p => match ss[n]? with
    | some s => getP s p
    | none => none
  | _, _ => none
def setP : S → List Nat → List S → S
  | .ow _, [], ts => .ow ts
  | .ow ss, n :: p, ts => .ow (ss.modify n fun s => setP s p ts)
  | .tu ss, n :: p, ts => .tu (ss.modify n fun s => setP s p ts)
  | s, _, _ => s
/-- from the value v along the places p to the list at b -/
def Along (H : Hp) : V → List Nat → Addr → Prop
  | v, [], b => v = .ref b
  | v, n :: p, b => ∃ a vs w, v = .ref a ∧ (H a = some (.lst vs) ∨ H a = some (.tup vs)) ∧ vs[n]? = some w ∧ Along H w p b
/-- what is known of the list at b within a value -/
def Deep (K : PySem.W.Frag) (F H : Hp) (v : V) (p : List Nat) (ts : List S) (as : List Addr) (G : Hp → List S → List Addr → Prop) : Prop :=
  ∃ b us cs, Along H v p b ∧ F b = none ∧ H b = some (.lst us) ∧ OwAll K F H us ts cs ∧ b ∈ as ∧ b ∉ cs ∧ cs.Nodup ∧ (∀ x ∈ cs, x ∈ as) ∧
    ∀ us' ts' ds, OwAll K F H us' ts' ds → b ∉ ds → ds.Nodup → (∀ x ∈ ds, x ∈ cs ∨ x ∉ as) → ∃ es, G (upd H b (.lst us')) ts' es ∧ es.Nodup ∧ ∀ x ∈ es, x ∈ as ∨ x ∈ ds
theorem getP_ow {ss : List S} {n : Nat} {p : List Nat} {ts : List S} (h : getP (.ow ss) (n :: p) = some ts) : ∃ s, ss[n]? = some s ∧ getP s p = some ts := by
  unfold getP at h
  cases e : ss[n]? with
  | none => rw [e] at h; cases h
  | some s => rw [e] at h; exact ⟨s, rfl, h⟩
theorem getP_tu {ss : List S} {n : Nat} {p : List Nat} {ts : List S} (h : getP (.tu ss) (n :: p) = some ts) : ∃ s, ss[n]? = some s ∧ getP s p = some ts := by
  unfold getP at h
  cases e : ss[n]? with
  | none => rw [e] at h; cases h
  | some s => rw [e] at h; exact ⟨s, rfl, h⟩
/-- one item of many -/
theorem OwAll.deepAt {K : PySem.W.Frag} {F H : Hp} {p : List Nat} {ts : List S}
    (ih : ∀ (s : S) (v : V) (as : List Addr), Ow K F H v s as → as.Nodup → getP s p = some ts → Deep K F H v p ts as fun H' ts' es => Ow K F H' v (setP s p ts') es) :
    ∀ {vs : List V} {ss : List S} {as : List Addr} {n : Nat} {s : S}, OwAll K F H vs ss as → as.Nodup → ss[n]? = some s → getP s p = some ts →
      ∃ w, vs[n]? = some w ∧ Deep K F H w p ts as fun H' ts' es => OwAll K F H' vs (ss.modify n fun s => setP s p ts') es
  | _, _, _, _, _, .nil, _, e, _ => by simp at e
  | _, _, _, 0, _, .cons (v := v) (s := s0) (as := as) (bs := bs) a t, nd, e, g => by
    simp at e; subst e
    have n' := List.nodup_append.mp nd
    obtain ⟨b, us, cs, q1, q2, q3, q4, q5, q6, q7, q8, q9⟩ := ih _ _ _ a n'.1 g
    refine ⟨_, rfl, b, us, cs, q1, q2, q3, q4, List.mem_append_left _ q5, q6, q7, fun x hx => List.mem_append_left _ (q8 x hx), fun us' ts' ds w1 w2 w3 w4 => ?_⟩
    obtain ⟨es, r1, r2, r3⟩ := q9 us' ts' ds w1 w2 w3 fun x hx => (w4 x hx).imp id fun z h => z (List.mem_append_left _ h)
    have nb : ∀ x ∈ bs, x ≠ b := fun x hx z => n'.2.2 b q5 x hx z.symm
    refine ⟨es ++ bs, by
      show OwAll K F _ _ (List.modify _ _ _) _
      rw [List.modify_zero_cons]
      exact .cons r1 (OwAll.mono (Same.refl _) _ _ _ t fun x hx => ⟨(t.at _ _ _ x hx).1, upd_ne (nb x hx)⟩), List.nodup_append.mpr ⟨r2, n'.2.1, fun x hx y hy z => ?_⟩, fun x hx => ?_⟩
    · subst z
      rcases r3 x hx with z | z
      · exact n'.2.2 x z x hy rfl
      · rcases w4 x z with u | u
        · exact n'.2.2 x (q8 x u) x hy rfl
        · exact u (List.mem_append_right _ hy)
    · rcases List.mem_append.mp hx with z | z
      · exact (r3 x z).imp (List.mem_append_left _) id
      · exact .inl (List.mem_append_right _ z)
  | _, _, _, n + 1, _, .cons (v := v) (s := s0) (as := as) (bs := bs) a t, nd, e, g => by
    have n' := List.nodup_append.mp nd
    obtain ⟨w, h0, b, us, cs, q1, q2, q3, q4, q5, q6, q7, q8, q9⟩ := OwAll.deepAt ih (n := n) t n'.2.1 (by simpa using e) g
    refine ⟨w, by simpa using h0, b, us, cs, q1, q2, q3, q4, List.mem_append_right _ q5, q6, q7, fun x hx => List.mem_append_right _ (q8 x hx), fun us' ts' ds w1 w2 w3 w4 => ?_⟩
    obtain ⟨es, r1, r2, r3⟩ := q9 us' ts' ds w1 w2 w3 fun x hx => (w4 x hx).imp id fun z h => z (List.mem_append_right _ h)
    have nb : ∀ x ∈ as, x ≠ b := fun x hx z => n'.2.2 x hx b q5 z
    refine ⟨as ++ es, by
      show OwAll K F _ _ (List.modify _ _ _) _
      rw [List.modify_succ_cons]
      exact .cons (Ow.mono (Same.refl _) _ _ _ a fun x hx => ⟨(a.at _ _ _ x hx).1, upd_ne (nb x hx)⟩) r1, List.nodup_append.mpr ⟨n'.1, r2, fun x hx y hy z => ?_⟩, fun x hx => ?_⟩
    · subst z
      rcases r3 x hy with z | z
      · exact n'.2.2 x hx x z rfl
      · rcases w4 x z with u | u
        · exact n'.2.2 x hx x (q8 x u) rfl
        · exact u (List.mem_append_left _ hx)
    · rcases List.mem_append.mp hx with z | z
      · exact .inl (List.mem_append_left _ z)
      · exact (r3 x z).imp (List.mem_append_right _) id
theorem Ow.deep {K : PySem.W.Frag} {F H : Hp} {ts : List S} : ∀ (p : List Nat) (s : S) (v : V) (as : List Addr), Ow K F H v s as → as.Nodup → getP s p = some ts → Deep K F H v p ts as fun H' ts' es => Ow K F H' v (setP s p ts') es
  | [], s, v, as, h, nd, g => by
    cases h with
    | fr _ => simp [getP] at g
    | tu _ _ _ => simp [getP] at g
    | @ow a vs ss cs x y z =>
      simp [getP] at g; subst g
      have n' := List.nodup_cons.mp nd
      refine ⟨a, vs, cs, rfl, x, y, z, List.mem_cons_self, n'.1, n'.2, fun x hx => List.mem_cons_of_mem _ hx, fun us' ts' ds w1 w2 w3 w4 => ⟨a :: ds, ?_, List.nodup_cons.mpr ⟨w2, w3⟩, fun x hx => ?_⟩⟩
      · exact .ow x upd_same (OwAll.mono (Same.refl _) _ _ _ w1 fun b hb => ⟨(w1.at _ _ _ b hb).1, upd_ne fun z => w2 (z ▸ hb)⟩)
      · rcases List.mem_cons.mp hx with z | z
        · exact .inl (z ▸ List.mem_cons_self)
        · exact .inr z
  | n :: p, s, v, as, h, nd, g => by
    cases h with
    | fr _ => simp [getP] at g
    | @ow a vs ss cs x y z =>
      obtain ⟨s, e, g⟩ := getP_ow g
      have n' := List.nodup_cons.mp nd
      obtain ⟨w, h0, b, us, cs2, q1, q2, q3, q4, q5, q6, q7, q8, q9⟩ := OwAll.deepAt (Ow.deep p) z n'.2 e g
      refine ⟨b, us, cs2, ⟨a, vs, w, rfl, .inl y, h0, q1⟩, q2, q3, q4, List.mem_cons_of_mem _ q5, q6, q7, fun x hx => List.mem_cons_of_mem _ (q8 x hx), fun us' ts' ds w1 w2 w3 w4 => ?_⟩
      obtain ⟨es, r1, r2, r3⟩ := q9 us' ts' ds w1 w2 w3 fun x hx => (w4 x hx).imp id fun z h => z (List.mem_cons_of_mem _ h)
      have ab : a ≠ b := fun z => n'.1 (z ▸ q5)
      refine ⟨a :: es, .ow x (by rw [upd_ne ab]; exact y) r1, List.nodup_cons.mpr ⟨fun hm => ?_, r2⟩, fun x hx => ?_⟩
      · rcases r3 a hm with z | z
        · exact n'.1 z
        · rcases w4 a z with u | u
          · exact n'.1 (q8 a u)
          · exact u List.mem_cons_self
      · rcases List.mem_cons.mp hx with z | z
        · exact .inl (z ▸ List.mem_cons_self)
        · exact (r3 x z).imp (List.mem_cons_of_mem _) id
    | @tu a vs ss cs x y z =>
      obtain ⟨s, e, g⟩ := getP_tu g
      have n' := List.nodup_cons.mp nd
      obtain ⟨w, h0, b, us, cs2, q1, q2, q3, q4, q5, q6, q7, q8, q9⟩ := OwAll.deepAt (Ow.deep p) z n'.2 e g
      refine ⟨b, us, cs2, ⟨a, vs, w, rfl, .inr y, h0, q1⟩, q2, q3, q4, List.mem_cons_of_mem _ q5, q6, q7, fun x hx => List.mem_cons_of_mem _ (q8 x hx), fun us' ts' ds w1 w2 w3 w4 => ?_⟩
      obtain ⟨es, r1, r2, r3⟩ := q9 us' ts' ds w1 w2 w3 fun x hx => (w4 x hx).imp id fun z h => z (List.mem_cons_of_mem _ h)
      have ab : a ≠ b := fun z => n'.1 (z ▸ q5)
      refine ⟨a :: es, .tu x (by rw [upd_ne ab]; exact y) r1, List.nodup_cons.mpr ⟨fun hm => ?_, r2⟩, fun x hx => ?_⟩
      · rcases r3 a hm with z | z
        · exact n'.1 z
        · rcases w4 a z with u | u
          · exact n'.1 (q8 a u)
          · exact u List.mem_cons_self
      · rcases List.mem_cons.mp hx with z | z
        · exact .inl (z ▸ List.mem_cons_self)
        · exact (r3 x z).imp (List.mem_cons_of_mem _) id
end DL
namespace DL
open PySem PySem.Spec PyProof.Rows L2
variable [Tabs]
/-- one slot alone -/
theorem OwEn.focus {K : PySem.W.Frag} {F H : Hp} : ∀ {σ : L2.St} {env : En} {as : List Addr} {i : Nat} {s : Sl}, OwEn K F H σ env as → as.Nodup → env[i]? = some (some s) →
    ∃ v bs, σ[i]? = some (some v) ∧ OwS K F H v s bs ∧ bs.Nodup ∧ (∀ x ∈ bs, x ∈ as) ∧
      ∀ H' s' cs, OwS K F H' v s' cs → cs.Nodup → (∀ x ∈ as, x ∉ bs → H' x = H x) → (∀ x ∈ cs, x ∈ bs ∨ x ∉ as) → ∃ ds, OwEn K F H' σ (env.set i (some s')) ds ∧ ds.Nodup ∧ ∀ x ∈ ds, x ∈ as ∨ x ∈ cs
  | _, _, _, _, _, .nil, _, e => by simp at e
  | _, _, _, 0, _, .un t, _, e => by simp at e
  | _, _, _, i + 1, _, .un t, n, e => by
    obtain ⟨v, bs, q1, q2, q3, q4, q5⟩ := OwEn.focus (i := i) t n (by simpa using e)
    refine ⟨v, bs, by simpa using q1, q2, q3, q4, fun H' s' cs w1 w2 w3 w4 => ?_⟩
    obtain ⟨ds, r1, r2, r3⟩ := q5 H' s' cs w1 w2 w3 w4
    exact ⟨ds, .un r1, r2, r3⟩
  | _, _, _, 0, _, .so (v := v) (bs := bs) (as := as) h t, n, e => by
    simp at e; subst e
    have n' := List.nodup_append.mp n
    refine ⟨v, bs, rfl, h, n'.1, fun x hx => List.mem_append_left _ hx, fun H' s' cs w1 w2 w3 w4 => ⟨cs ++ as, .so w1 (t.mono (Same.refl _) fun x hx => ⟨(t.at x hx).1, w3 x (List.mem_append_right _ hx) fun z => n'.2.2 x z x hx rfl⟩), List.nodup_append.mpr ⟨w2, n'.2.1, fun x hx y hy z => ?_⟩, fun x hx => ?_⟩⟩
    · subst z
      rcases w4 x hx with z | z
      · exact n'.2.2 x z x hy rfl
      · exact z (List.mem_append_right _ hy)
    · exact (List.mem_append.mp hx).elim .inr fun z => .inl (List.mem_append_right _ z)
  | _, _, _, i + 1, _, .so (bs := hs) (as := as) h t, n, e => by
    have n' := List.nodup_append.mp n
    obtain ⟨v, bs, q1, q2, q3, q4, q5⟩ := OwEn.focus (i := i) t n'.2.1 (by simpa using e)
    refine ⟨v, bs, by simpa using q1, q2, q3, fun x hx => List.mem_append_right _ (q4 x hx), fun H' s' cs w1 w2 w3 w4 => ?_⟩
    obtain ⟨ds, r1, r2, r3⟩ := q5 H' s' cs w1 w2 (fun x hx nx => w3 x (List.mem_append_right _ hx) nx) fun x hx => (w4 x hx).imp id fun z u => z (List.mem_append_right _ u)
    refine ⟨hs ++ ds, .so (h.mono (Same.refl _) fun x hx => ⟨(h.at x hx).1, w3 x (List.mem_append_left _ hx) fun z => n'.2.2 x hx x (q4 x z) rfl⟩) r1, List.nodup_append.mpr ⟨n'.1, r2, fun x hx y hy z => ?_⟩, fun x hx => ?_⟩
    · subst z
      rcases r3 x hy with z | z
      · exact n'.2.2 x hx x z rfl
      · rcases w4 x z with u | u
        · exact n'.2.2 x hx x (q4 x u) rfl
        · exact u (List.mem_append_left _ hx)
    · rcases List.mem_append.mp hx with z | z
      · exact .inl (List.mem_append_left _ z)
      · exact (r3 x z).imp (List.mem_append_right _) id
/-- from the value v along the places p to the value w -/
def To (H : Hp) : V → List Nat → V → Prop
  | v, [], w => v = w
  | v, n :: p, w => ∃ a vs u, v = .ref a ∧ (H a = some (.lst vs) ∨ H a = some (.tup vs)) ∧ vs[n]? = some u ∧ To H u p w
theorem along_to {H : Hp} : ∀ {p : List Nat} {v : V} {b : Addr}, Along H v p b → To H v p (.ref b)
  | [], _, _, h => h
  | _ :: _, _, _, ⟨a, vs, w, h1, h2, h3, h4⟩ => ⟨a, vs, w, h1, h2, h3, along_to h4⟩
theorem To.fn {H : Hp} : ∀ {p : List Nat} {v u w : V}, To H v p u → To H v p w → u = w
  | [], _, _, _, h, h' => h.symm.trans h'
  | n :: p, v, u, w, ⟨a, vs, x, h1, h2, h3, h4⟩, ⟨a', vs', x', h1', h2', h3', h4'⟩ => by
    subst h1
    cases h1'
    have e : vs = vs' := by
      rcases h2 with z | z <;> rcases h2' with z' | z' <;> rw [z] at z' <;> cases z' <;> rfl
    subst e
    rw [h3] at h3'
    cases h3'
    exact To.fn h4 h4'
theorem To.same {H H' : Hp} (e : Same H H') : ∀ {p : List Nat} {v w : V}, To H v p w → To H' v p w
  | [], _, _, h => h
  | _ :: _, _, _, ⟨a, vs, w, h1, h2, h3, h4⟩ => ⟨a, vs, w, h1, h2.imp (e _ _) (e _ _), h3, To.same e h4⟩
theorem To.snoc {H : Hp} {a : Addr} {vs : List V} {n : Nat} {w : V} (h2 : H a = some (.lst vs) ∨ H a = some (.tup vs)) (h3 : vs[n]? = some w) : ∀ {p : List Nat} {v : V}, To H v p (.ref a) → To H v (p ++ [n]) w
  | [], v, h => ⟨a, vs, w, h, h2, h3, rfl⟩
  | _ :: _, _, ⟨a', vs', w', k1, k2, k3, k4⟩ => ⟨a', vs', w', k1, k2, k3, To.snoc h2 h3 k4⟩
/-- what stands at a place within -/
def getS : S → List Nat → Option S
  | s, [] => some s
  | .ow ss, n :: p => match ss[n]? with
    | some s => getS s p
    | none => none
  | .tu ss, n :: p => match ss[n]? with
    | some s => getS s p
    | none => none
  | .fr _, _ :: _ => none
theorem getS_getP : ∀ {p : List Nat} {s : S} {ts : List S}, getS s p = some (.ow ts) → getP s p = some ts
  | [], s, ts, h => by
    simp [getS] at h
    subst h
    rfl
  | n :: p, .fr d, ts, h => by simp [getS] at h
  | n :: p, .ow ss, ts, h => by
    unfold getS at h
    unfold getP
    cases e : ss[n]? with
    | none => rw [e] at h; cases h
    | some s => rw [e] at h; exact getS_getP h
  | n :: p, .tu ss, ts, h => by
    unfold getS at h
    unfold getP
    cases e : ss[n]? with
    | none => rw [e] at h; cases h
    | some s => rw [e] at h; exact getS_getP h
theorem OwAll.nth {K : PySem.W.Frag} {F H : Hp} : ∀ {vs : List V} {ss : List S} {as : List Addr} {n : Nat} {s : S}, OwAll K F H vs ss as → ss[n]? = some s → ∃ v bs, vs[n]? = some v ∧ Ow K F H v s bs
  | _, _, _, _, _, .nil, e => by simp at e
  | _, _, _, 0, _, .cons a t, e => by
    simp at e; subst e
    exact ⟨_, _, rfl, a⟩
  | _, _, _, n + 1, _, .cons a t, e => by
    obtain ⟨v, bs, h1, h2⟩ := OwAll.nth (n := n) t (by simpa using e)
    exact ⟨v, bs, by simpa using h1, h2⟩
theorem Ow.to {K : PySem.W.Frag} {F H : Hp} : ∀ {p : List Nat} {s t : S} {v : V} {as : List Addr}, Ow K F H v s as → getS s p = some t → ∃ w bs, To H v p w ∧ Ow K F H w t bs
  | [], s, t, v, as, h, g => by
    simp [getS] at g
    subst g
    exact ⟨v, as, rfl, h⟩
  | n :: p, s, t, v, as, h, g => by
    cases h with
    | fr _ => simp [getS] at g
    | @ow a vs ss cs x y z =>
      unfold getS at g
      cases e : ss[n]? with
      | none => rw [e] at g; cases g
      | some s =>
        rw [e] at g
        obtain ⟨v1, bs1, k1, k2⟩ := z.nth e
        obtain ⟨w, bs, q1, q2⟩ := Ow.to k2 g
        exact ⟨w, bs, ⟨a, vs, v1, rfl, .inl y, k1, q1⟩, q2⟩
    | @tu a vs ss cs x y z =>
      unfold getS at g
      cases e : ss[n]? with
      | none => rw [e] at g; cases g
      | some s =>
        rw [e] at g
        obtain ⟨v1, bs1, k1, k2⟩ := z.nth e
        obtain ⟨w, bs, q1, q2⟩ := Ow.to k2 g
        exact ⟨w, bs, ⟨a, vs, v1, rfl, .inr y, k1, q1⟩, q2⟩
/-- a list within a slot's own value is changed -/
theorem Rel.deep {K : PySem.W.Frag} {B F H F' H' : Hp} {env : En} {σ : L2.St} {i : Nat} {s : S} {p : List Nat} {ts : List S} (r : Rel K B F H env σ) (x : After F H F' H') (e : env[i]? = some (some (.v s))) (g : getP s p = some ts) :
    ∃ v b us cs, σ[i]? = some (some v) ∧ To H' v p (.ref b) ∧ F' b = none ∧ H' b = some (.lst us) ∧ OwAll K F' H' us ts cs ∧ b ∉ cs ∧ cs.Nodup ∧ (∀ c ∈ cs, ∃ o, H c = some o) ∧ (∃ o, H b = some o) ∧
      ∀ us' ts' ds, OwAll K F' H' us' ts' ds → b ∉ ds → ds.Nodup → (∀ c ∈ ds, c ∈ cs ∨ H c = none) → Rel K B F' (upd H' b (.lst us')) (env.set i (some (.v (setP s p ts')))) σ := by
  obtain ⟨as, h1, h2, h3⟩ := r.sl
  have h4 : OwEn K F' H' σ env as := h1.mono x.ff fun a ha => x.keepO (h1.at a ha)
  obtain ⟨v, bs, q1, q2, q3, q4, q5⟩ := h4.focus h2 e
  cases q2 with
  | v q2 =>
    obtain ⟨b, us, cs, w1, w2, w3, w4, w5, w6, w7, w8, w9⟩ := Ow.deep p s v bs q2 q3 g
    refine ⟨v, b, us, cs, q1, along_to w1, w2, w3, w4, w6, w7, fun c hc => let ⟨_, o, e, _⟩ := h1.at c (q4 c (w8 c hc)); ⟨o, e⟩, (let ⟨_, o, e, _⟩ := h1.at b (q4 b w5); ⟨o, e⟩), fun us' ts' ds k1 k2 k3 k4 => ?_⟩
    have nh : ∀ c, H c = none → c ∉ as := fun c hc hm => by
      obtain ⟨_, o, e, _⟩ := h1.at c hm
      rw [hc] at e; cases e
    obtain ⟨es, u1, u2, u3⟩ := w9 us' ts' ds k1 k2 k3 fun c hc => (k4 c hc).imp id fun z hm => nh c z (q4 c hm)
    obtain ⟨fs, t1, t2, t3⟩ := q5 (upd H' b (.lst us')) _ es (.v u1) u2 (fun c hc hn => upd_ne fun z => hn (z ▸ w5)) fun c hc => by
      rcases u3 c hc with z | z
      · exact .inl z
      · rcases k4 c z with y | y
        · exact .inl (w8 c y)
        · exact .inr (nh c y)
    have rb := r.bh.trans x.hh
    have bb : B b = none := h3 b (q4 b w5)
    refine ⟨rb.updR _ _ bb, x.fh.updR _ _ w2, fs, t1, t2, fun c hc => ?_⟩
    rcases t3 c hc with z | z
    · exact h3 c z
    · rcases u3 c z with y | y
      · exact h3 c (q4 c y)
      · rcases k4 c y with k | k
        · exact h3 c (q4 c (w8 c k))
        · exact r.bh.free k
/-! ### references into a slot's own value -/
def PoP (ec : Str → Value) (W : WX) (F H : Hp) (σ : L2.St) (i : Nat) (Q : VK) : R (List Nat) → Prop
  | .ok p => ∀ v w H' F', After F H F' H' → σ[i]? = some (some v) → To H' v p w → Q w H'
  | .er c => ∀ H' F', After F H F' H' → W (ec c) none σ H'
  | .no => False
def tP (K : PySem.W.Frag) (ec : Str → Value) (W : WX) (i : Nat) (f : En → R (List Nat)) : TE := fun σ H Q => ∃ B F env, Rel K B F H env σ ∧ PoP ec W F H σ i Q (f env)
/-- the expression is what stands in slot i at the places that f tells -/
def DRef (X : Cx) (W : WX) (e : Expr) (i : Nat) (f : En → R (List Nat)) : Prop := PE X e (tP X.K (ecOf X.mg) W i f) ∧ ∀ env p, f env = .ok p → ∃ s t, env[i]? = some (some (.v s)) ∧ getS s p = some t
def rfV (i : Nat) : En → R (List Nat) := fun env => match env[i]? with
  | some (some (.v _)) => .ok []
  | _ => .no
def rfX (i : Nat) (fa : En → R (List Nat)) (g : En → R D) : En → R (List Nat) := fun env => (fa env).bind fun p => (g env).bind fun d => match d with
  | .int j => match env[i]? with
    | some (some (.v s)) => match getS s p with
      | some (.ow ss) => match ixN ss.length j with
        | some n => .ok (p ++ [n])
        | none => .no
      | some (.tu ss) => match ixN ss.length j with
        | some n => .ok (p ++ [n])
        | none => .no
      | _ => .no
    | _ => .no
  | _ => .no
end DL
namespace DL
open PySem PySem.Spec PyProof.Rows L2
variable [Tabs]
theorem R.bind_eq {A B : Type} {r : R A} {f : A → R B} {b : B} (h : r.bind f = .ok b) : ∃ a, r = .ok a ∧ f a = .ok b := by
  cases r with
  | ok a => exact ⟨a, rfl, h⟩
  | er c => cases h
  | no => cases h
theorem getS_snoc : ∀ {p : List Nat} {s t : S} {ss : List S} {n : Nat}, getS s p = some t → (t = .ow ss ∨ t = .tu ss) → getS s (p ++ [n]) = ss[n]?
  | [], s, t, ss, n, h, ht => by
    simp [getS] at h
    subst h
    have aux : ∀ o : Option S, (match o with | some s => getS s [] | none => none) = o := fun o => by cases o <;> simp [getS]
    rcases ht with rfl | rfl
    · exact aux _
    · exact aux _
  | m :: p, .fr d, t, ss, n, h, ht => by simp [getS] at h
  | m :: p, .ow us, t, ss, n, h, ht => by
    unfold getS at h
    show (match us[m]? with | some s => getS s (p ++ [n]) | none => none) = _
    cases e : us[m]? with
    | none => rw [e] at h; cases h
    | some s => rw [e] at h; exact getS_snoc h ht
  | m :: p, .tu us, t, ss, n, h, ht => by
    unfold getS at h
    show (match us[m]? with | some s => getS s (p ++ [n]) | none => none) = _
    cases e : us[m]? with
    | none => rw [e] at h; cases h
    | some s => rw [e] at h; exact getS_snoc h ht
section
variable {X : Cx} {W : WX} {k : Nat} {m : Md} {pos pos' : Pos} {e c tg iter ei a b : Expr} {f fi g : En → R D} {fo : En → R S} {fp : En → R (List Nat)} {t : En → R Bool} {st : Stmt} {sts body : List Stmt} {T U : En → SR}
theorem ixN_lt {n : Nat} {i : Int} {j : Nat} (h : ixN n i = some j) : j < n := (ixN_seq h).2.1
theorem dr_var {x : Str} (i : Nat) (hN : X.N[i]? = some x := by rfl) (hv : Vis X.env.scope x := by first | exact Or.inl rfl | exact Or.inr (Or.inl rfl) | exact Or.inr (Or.inr rfl)) (hd : (x == ("__debug__" : Str)) = false := by decide)
    (hcd : (x == ("__classdict__" : Str)) = false := by decide) : DRef X W (.Name x pos) i (rfV i) :=
  ⟨(pe_var hN hv hd hcd).wk fun σ H Q ⟨B, F, env, r, p⟩ => by
    unfold rfV at p
    split at p
    · rename_i s ee
      obtain ⟨as, h1, _, _⟩ := r.sl
      obtain ⟨v, bs, q1, q2, _⟩ := h1.get ee
      exact ⟨v, q1, p v v H F (After.refl r.fh) q1 rfl⟩
    · exact p.elim, fun env p h => by
    unfold rfV at h
    split at h
    · rename_i s ee
      cases h
      exact ⟨s, s, ee, by unfold getS; rfl⟩
    · cases h⟩
theorem rfX_ok {i : Nat} {env : En} {p : List Nat} (h : rfX i fp g env = .ok p) : ∃ q d n j ss s t, fp env = .ok q ∧ g env = .ok d ∧ d = .int j ∧ env[i]? = some (some (.v s)) ∧ getS s q = some t ∧ (t = .ow ss ∨ t = .tu ss) ∧ ixN ss.length j = some n ∧ p = q ++ [n] := by
  unfold rfX at h
  obtain ⟨q, e1, h⟩ := R.bind_eq h
  obtain ⟨d, e2, h⟩ := R.bind_eq h
  split at h
  · rename_i j
    split at h
    · rename_i s ee
      split at h
      · rename_i ss es
        split at h
        · rename_i n en
          cases h
          exact ⟨q, _, n, j, ss, s, _, e1, e2, rfl, ee, es, .inl rfl, en, rfl⟩
        · cases h
      · rename_i ss es
        split at h
        · rename_i n en
          cases h
          exact ⟨q, _, n, j, ss, s, _, e1, e2, rfl, ee, es, .inr rfl, en, rfl⟩
        · cases h
      · cases h
    · cases h
  · cases h
theorem dr_ix {i : Nat} (ha : DRef X W a i fp) (hb : DE X W .h b g) (hs : PlainIx b := by intro _ _; rfl) : DRef X W (.Subscript a b pos) i (rfX i fp g) :=
  ⟨(pe_ix ix_seq ha.1 hb hs).wk fun σ H Q ⟨B, F, env, r, p⟩ => by
    refine ⟨B, F, env, r, ?_⟩
    cases e1 : fp env with
    | no => unfold rfX at p; rw [e1] at p; exact p
    | er c => unfold rfX at p; rw [e1] at p; exact p
    | ok q =>
      intro v w H1 F1 a1 hv hto
      refine ⟨B, F1, env, r.after a1, ?_⟩
      cases e2 : g env with
      | no => unfold rfX at p; rw [e1] at p; simp only [R.bind_ok] at p; rw [e2] at p; exact p.elim
      | er c => unfold rfX at p; rw [e1] at p; simp only [R.bind_ok] at p; rw [e2] at p; exact fun H2 F2 a2 => p H2 F2 (a1.trans a2)
      | ok d =>
        intro u H2 F2 a2 qd
        cases e3 : rfX i fp g env with
        | no => rw [e3] at p; exact p.elim
        | er c =>
          exfalso
          unfold rfX at e3
          rw [e1] at e3; simp only [R.bind_ok] at e3; rw [e2] at e3; simp only [R.bind_ok] at e3
          repeat' split at e3
          all_goals cases e3
        | ok p2 =>
          rw [e3] at p
          obtain ⟨q', d', n, j, ss, s, t, k1, k2, k3, k4, k5, k6, k7, k8⟩ := rfX_ok e3
          rw [e1] at k1; cases k1
          rw [e2] at k2; cases k2
          subst k3
          subst k8
          have r2 := (r.after a1).after a2
          obtain ⟨as, h1, _, _⟩ := r2.sl
          obtain ⟨v', bs, q1, q2, _⟩ := h1.get k4
          rw [hv] at q1; cases q1
          cases q2 with
          | v q2 =>
            obtain ⟨w', bs', x1, x2⟩ := q2.to k5
            have ew := To.fn (To.same a2.hh hto) x1
            subst ew
            have hp := fun z H3 F3 a3 hz => p v z H3 F3 ((a1.trans a2).trans a3) hv hz
            have hu := qd.intI
            rcases k6 with rfl | rfl
            · cases x2 with
              | @ow a vs _ _ y1 y2 y3 =>
                have hl : n < vs.length := by rw [y3.len]; exact ixN_lt k7
                have hg : vs[n]? = some vs[n] := List.getElem?_eq_getElem hl
                refine .inl ⟨a, vs, j, vs[n], rfl, hu, SqL.of y2, ?_, p _ _ H2 F2 (a1.trans a2) hv (To.snoc (.inl y2) hg x1)⟩
                unfold atI
                rw [y3.len, k7]
                exact hg
            · cases x2 with
              | @tu a vs _ _ y1 y2 y3 =>
                have hl : n < vs.length := by rw [y3.len]; exact ixN_lt k7
                have hg : vs[n]? = some vs[n] := List.getElem?_eq_getElem hl
                refine .inr (.inl ⟨a, vs, j, vs[n], rfl, hu, .inl (.inl y2), ?_, p _ _ H2 F2 (a1.trans a2) hv (To.snoc (.inr y2) hg x1)⟩)
                unfold atI
                rw [y3.len, k7]
                exact hg, fun env p h => by
    obtain ⟨q', d', n, j, ss, s, t, k1, k2, k3, k4, k5, k6, k7, k8⟩ := rfX_ok h
    subst k8
    have hl : n < ss.length := ixN_lt k7
    exact ⟨s, ss[n], k4, by rw [getS_snoc k5 k6]; exact List.getElem?_eq_getElem hl⟩⟩
/-- R.append(e), R within a slot's own value -/
def apP (i : Nat) (fp : En → R (List Nat)) (fo : En → R S) : En → SR := fun env => (fp env).st env fun p => match env[i]? with
  | some (some (.v s)) => match getP s p with
    | some ts => (fo env).st env fun t => if ts.length < 1000000 then .nx (env.set i (some (.v (setP s p (ts ++ [t]))))) else .no
    | none => .no
  | _ => .no
theorem ds_appendP {x : Expr} {ap cp : Pos} {i : Nat} (hx : DRef X W x i fp) (he : DO X W e fo) (hss : starEach [e] X.env = (false, eval e X.env) :: starEach [] X.env := by rfl)
    (hbase : attributeBase x "append" X.env (eval x X.env) = eval x X.env := by rfl)
    (hfew : ((backTo cp (starEach [e] X.env)).all (fun x => !x.1) && (backToKw cp (keywordEach [] X.env)).all (fun x => x.1.isSome)
      && decide ([e].length + ([] : List Keyword).length + (if ([] : List Keyword).isEmpty then 0 else 1) < 30)) = true := by rfl)
    (hline : (ap.endLine == cp.line) = true := by rfl) (hplain : (backTo cp (starEach [] X.env)).any (·.1) = false := by rfl)
    (hs : swapsWith (.Call (.Attribute x "append" ap) [e] [] cp) none pos.line X.env = pure false := by rfl) :
    DS X W (.Expr (.Call (.Attribute x "append" ap) [e] [] cp) pos) (apP i fp fo) :=
  (ps_expr (pe_bm F.plainAttrs_list F.slot_list_append F.type_list_append mt_append hx.1 (pa_cons he pa_nil hss) hbase hfew hline hss hplain) hs).wk fun D σ H ⟨B, F, env, r, p⟩ => by
    unfold apP at p
    refine ⟨B, F, env, r, ?_⟩
    cases e1 : fp env with
    | no => rw [e1] at p; exact p.elim
    | er c => rw [e1] at p; exact fun H1 F1 a1 => p σ H1 F1 (a1.toS r.bh) (r.after a1)
    | ok q =>
      rw [e1] at p
      obtain ⟨s, t0, ee, eg⟩ := hx.2 env q e1
      replace p : PoS X.K (ecOf X.mg) W B F D (match env[i]? with
        | some (some (.v s)) => match getP s q with
          | some ts => (fo env).st env fun t => if ts.length < 1000000 then .nx (env.set i (some (.v (setP s q (ts ++ [t]))))) else .no
          | none => .no
        | _ => .no) := p
      rw [ee] at p
      dsimp only at p
      intro v w H1 F1 a1 hv hto
      cases ep : getP s q with
      | none => rw [ep] at p; exact p.elim
      | some ts =>
        rw [ep] at p
        dsimp only at p
        have r1 := r.after a1
        obtain ⟨v0, b0, us0, cs0, z1, z2, z3, z4, _⟩ := r.deep a1 ee ep
        rw [hv] at z1; cases z1
        have ew := To.fn hto z2
        subst ew
        refine ⟨tyV_lst z4, ?_⟩
        refine tO.st r1 (p.after (a1.toS r.bh)) fun v1 H2 F2 t as a2 r2 o n fr p1 => ?_
        obtain ⟨v0', b1, us, cs, y1, y2, y3, y4, y5, y6, y7, y8, y9, y10⟩ := r1.deep a2 ee ep
        rw [hv] at y1; cases y1
        have eb := To.fn y2 (To.same a2.hh z2)
        cases eb
        replace p1 : PoS X.K (ecOf X.mg) W B F2 D (if ts.length < 1000000 then .nx (env.set i (some (.v (setP s q (ts ++ [t]))))) else .no) := p1
        split at p1
        · rename_i hl
          have nas : ∀ b ∈ as, b ≠ b0 := fun b hb z => by
            obtain ⟨o', w⟩ := y9
            rw [← z, fr b hb] at w; cases w
          have nbs : ∀ b ∈ as, b ∉ cs := fun b hb z => by
            obtain ⟨o', w⟩ := y8 b z
            rw [fr b hb] at w; cases w
          refine ⟨b0, us, v1, rfl, rfl, y4, by have := y5.len; have := million; omega, ?_⟩
          refine p1 σ _ F2 AfterS.refl (y10 (us ++ [v1]) (ts ++ [t]) (cs ++ (as ++ [])) (OwAll.app y5 (.cons o .nil)) ?_ ?_ ?_)
          · intro z
            rw [List.append_nil] at z
            rcases List.mem_append.mp z with z | z
            · exact y6 z
            · exact nas b0 z rfl
          · rw [List.append_nil]
            exact List.nodup_append.mpr ⟨y7, n, fun x hx y hy z => nbs y hy (z ▸ hx)⟩
          · intro b hb
            rw [List.append_nil] at hb
            exact (List.mem_append.mp hb).imp id (fr b)
        · exact p1.elim
end
end DL
namespace DL
open PySem PySem.Spec PyProof.Rows L2
variable [Tabs]
/-- a slot's value is taken out of it -/
theorem OwEn.take {K : PySem.W.Frag} {F H : Hp} : ∀ {σ : L2.St} {env : En} {as : List Addr} {i : Nat} {s : Sl}, OwEn K F H σ env as → as.Nodup → env[i]? = some (some s) →
    ∃ v bs cs, σ[i]? = some (some v) ∧ OwS K F H v s bs ∧ bs.Nodup ∧ OwEn K F H σ (env.set i none) cs ∧ cs.Nodup ∧ (∀ x ∈ cs, x ∈ as) ∧ ∀ x ∈ bs, x ∈ as ∧ x ∉ cs
  | _, _, _, _, _, .nil, _, e => by simp at e
  | _, _, _, 0, _, .un t, _, e => by simp at e
  | _, _, _, i + 1, _, .un t, n, e => by
    obtain ⟨v, bs, cs, q1, q2, q3, q4, q5, q6, q7⟩ := OwEn.take (i := i) t n (by simpa using e)
    exact ⟨v, bs, cs, by simpa using q1, q2, q3, .un q4, q5, q6, q7⟩
  | _, _, _, 0, _, .so (v := v) (bs := bs) (as := as) h t, n, e => by
    simp at e; subst e
    have n' := List.nodup_append.mp n
    exact ⟨v, bs, as, rfl, h, n'.1, .un t, n'.2.1, fun x hx => List.mem_append_right _ hx, fun x hx => ⟨List.mem_append_left _ hx, fun z => n'.2.2 x hx x z rfl⟩⟩
  | _, _, _, i + 1, _, .so (bs := hs) (as := as) h t, n, e => by
    have n' := List.nodup_append.mp n
    obtain ⟨v, bs, cs, q1, q2, q3, q4, q5, q6, q7⟩ := OwEn.take (i := i) t n'.2.1 (by simpa using e)
    refine ⟨v, bs, hs ++ cs, by simpa using q1, q2, q3, .so h q4, List.nodup_append.mpr ⟨n'.1, q5, fun x hx y hy z => n'.2.2 x hx y (q6 y hy) z⟩, fun x hx => ?_, fun x hx => ⟨List.mem_append_right _ (q7 x hx).1, fun hm => ?_⟩⟩
    · exact (List.mem_append.mp hx).elim (List.mem_append_left _) fun z => List.mem_append_right _ (q6 x z)
    · rcases List.mem_append.mp hm with z | z
      · exact n'.2.2 x z x (q7 x hx).1 rfl
      · exact (q7 x hx).2 z
section
variable {X : Cx} {W : WX} {k : Nat} {m : Md} {pos pos' : Pos} {e c tg iter ei a b : Expr} {f fi g : En → R D} {fo : En → R S} {fp : En → R (List Nat)} {t : En → R Bool} {st : Stmt} {sts body : List Stmt} {T U : En → SR}
/-- the last steps of a store at an index -/
def putS (i : Nat) (env : En) (s : S) (p : List Nat) (ts : List S) (t : S) (fi : En → R D) : SR := (fi env).st env fun d => match d with
  | .int j => match ixN ts.length j with
    | some n => .nx (env.set i (some (.v (setP s p (ts.set n t)))))
    | none => .no
  | _ => .no
/-- R[j] = e, R within a slot's own value -/
def siP (i : Nat) (fp : En → R (List Nat)) (fo : En → R S) (fi : En → R D) : En → SR := fun env => (fo env).st env fun t => (fp env).st env fun p => match env[i]? with
  | some (some (.v s)) => match getP s p with
    | some ts => putS i env s p ts t fi
    | none => .no
  | _ => .no
/-- from the stored value on -/
theorem put_run {K : PySem.W.Frag} {ec : Str → Value} {B F H F1 H1 : Hp} {env : En} {σ : L2.St} {D : Ends} {i : Nat} {s t : S} {q : List Nat} {ts : List S} {v w u : V} {as : List Addr}
    (r : Rel K B F H env σ) (a : After F H F1 H1) (ee : env[i]? = some (some (.v s))) (ep : getP s q = some ts) (hv : σ[i]? = some (some v)) (o : Ow K F1 H1 u t as) (n : as.Nodup) (fr : ∀ b ∈ as, H b = none)
    (hto : To H1 v q w) (p : PoS K ec W B F1 D (putS i env s q ts t fi)) : tD K ec W .h fi σ H1 fun y H2 => rSetL w y u H2 fun H3 => D.nx σ H3 := by
  unfold putS at p
  have r1 := r.after a
  refine tD.st r1 p fun y H2 F2 d a2 r2 qd p2 => ?_
  obtain ⟨v', b1, us, cs, y1, y2, y3, y4, y5, y6, y7, y8, y9, y10⟩ := r.deep (a.trans a2) ee ep
  rw [hv] at y1; cases y1
  have eb := To.fn y2 (To.same a2.hh hto)
  cases eb
  cases d with
  | int j =>
    dsimp only at p2
    cases en : ixN ts.length j with
    | none => rw [en] at p2; exact p2.elim
    | some n1 =>
      rw [en] at p2
      have nas : ∀ b ∈ as, b ≠ b1 := fun b hb z => by
        obtain ⟨o', w⟩ := y9
        rw [← z, fr b hb] at w; cases w
      have nbs : ∀ b ∈ as, b ∉ cs := fun b hb z => by
        obtain ⟨o', w⟩ := y8 b z
        rw [fr b hb] at w; cases w
      have o2 : Ow K F2 H2 u t as := o.mono a2.ff _ _ _ fun b hb => a2.keepO (o.at _ _ _ b hb)
      obtain ⟨ds, w1, w2, w3⟩ := OwAll.set o2 n n1 y5 y7 nbs
      refine ⟨b1, us, j, n1, rfl, qd.intI, y4, by rw [y5.len]; exact en, ?_⟩
      refine p2 σ _ F2 AfterS.refl (y10 _ _ ds w1 (fun z => ?_) w2 fun b hb => (w3 b hb).imp id (fr b))
      rcases w3 b1 z with z | z
      · exact y6 z
      · exact nas b1 z rfl
  | _ => exact p2.elim
theorem ds_setP {x : Expr} {sp : Pos} {i : Nat} (hx : DRef X W x i fp) (he : DO X W e fo) (hi : DE X W .h ei fi)
    (ha : ∀ v, assign (.Subscript x ei sp) X.env v = (do
      let ov ← holding [v] (eval x X.env)
      let iv ← holding [v, ov] (eval ei X.env)
      standAt sp
      holding [v, ov, iv] (setItem ov iv v)
      release [v, ov, iv] []) := by intro _; rfl)
    (hs : swapsWithSole [.Subscript x ei sp] e pos.line X.env = pure false := by rfl) (hw : swappedStores [.Subscript x ei sp] e X.env = pure none := by rfl)
    (h1 : (assignEach [.Subscript x ei sp] X.env).map (·.2) = [assign (.Subscript x ei sp) X.env] := by rfl) :
    DS X W (.Assign [.Subscript x ei sp] e pos) (siP i fp fo fi) :=
  (ps_asg he (pg_sub hx.1 hi set_list ha) hs hw h1).wk fun D σ H ⟨B, F, env, r, p⟩ => tO.st r p fun v H1 F1 s as a r1 o n fr p1 => by
    refine ⟨B, F1, env, r1, ?_⟩
    cases e1 : fp env with
    | no => rw [e1] at p1; exact p1.elim
    | er c => rw [e1] at p1; exact fun H2 F2 a2 => p1 σ H2 F2 (a2.toS r1.bh) (r1.after a2)
    | ok q =>
      rw [e1] at p1
      obtain ⟨s0, t0, ee, eg⟩ := hx.2 env q e1
      replace p1 : PoS X.K (ecOf X.mg) W B F1 D (match env[i]? with
        | some (some (.v s1)) => match getP s1 q with
          | some ts => putS i env s1 q ts s fi
          | none => .no
        | _ => .no) := p1
      rw [ee] at p1
      dsimp only at p1
      intro v2 w H2 F2 a2 hv hto
      cases ep : getP s0 q with
      | none => rw [ep] at p1; exact p1.elim
      | some ts =>
        rw [ep] at p1
        have o2 : Ow X.K F2 H2 v s as := o.mono a2.ff _ _ _ fun b hb => a2.keepO (o.at _ _ _ b hb)
        exact put_run r (a.trans a2) ee ep hv o2 n fr hto (p1.after (a2.toS r1.bh))
theorem PoS.part {K : PySem.W.Frag} {ec : Str → Value} {B F : Hp} {D : Ends} {x : SR} {U : En → SR} (p : PoS K ec W B F D (x.sq U)) : PoS K ec W B F { D with nx := fun σ' H' => tS K ec W U D σ' H' } x := by
  cases x with
  | nx e1 => exact fun σ2 H2 F2 a r2 => ⟨B, F2, e1, r2, PoS.after (r := U e1) p a⟩
  | rt s => exact p
  | bk s => exact p
  | ct s => exact p
  | er c s => exact p
  | no => exact p
/-- y = R; y[j] = e: R within a slot's own value; y is not looked at again -/
def alS (i r : Nat) (fp : En → R (List Nat)) (fo : En → R S) (fi : En → R D) : En → SR := fun env => (fp env).st env fun p => match env[i]? with
  | some (some (.v s)) => if r = i ∨ env.length ≤ r then .no else match getP s p with
    | some ts => (fo (env.set r none)).st (env.set r none) fun t => putS i (env.set r none) s p ts t fi
    | none => .no
  | _ => .no
theorem dss_alias {x : Expr} {y : Str} {py py2 sp : Pos} {i : Nat} (r : Nat) (nd : X.N.Nodup) (hx : DRef X W x i fp) (he : DO X W e fo) (hi : DE X W .h ei fi) (hr : X.N[r]? = some y := by rfl) (hy : Loc X.env.scope y := by first | exact Or.inl rfl | exact Or.inr rfl)
    (hv : Vis X.env.scope y := by first | exact Or.inl rfl | exact Or.inr (Or.inl rfl) | exact Or.inr (Or.inr rfl)) (hd : (y == ("__debug__" : Str)) = false := by decide) (hcd : (y == ("__classdict__" : Str)) = false := by decide)
    (hs0 : swapsWith x (some (.Name y py)) pos.line X.env = pure false := by rfl) (hf : X.fn y = true ∨ X.env.scope.names.lookup y = some .local := by first | exact Or.inl rfl | exact Or.inr rfl)
    (ha : ∀ v, assign (.Subscript (.Name y py2) ei sp) X.env v = (do
      let ov ← holding [v] (eval (.Name y py2) X.env)
      let iv ← holding [v, ov] (eval ei X.env)
      standAt sp
      holding [v, ov, iv] (setItem ov iv v)
      release [v, ov, iv] []) := by intro _; rfl)
    (hs : swapsWithSole [.Subscript (.Name y py2) ei sp] e pos'.line X.env = pure false := by rfl) (hw : swappedStores [.Subscript (.Name y py2) ei sp] e X.env = pure none := by rfl)
    (h1 : (assignEach [.Subscript (.Name y py2) ei sp] X.env).map (·.2) = [assign (.Subscript (.Name y py2) ei sp) X.env] := by rfl)
    (h2 : DSs X W sts U) :
    DSs X W (.Assign [.Name y py] x pos :: .Assign [.Subscript (.Name y py2) ei sp] e pos' :: sts) (sqS (alS i r fp fo fi) U) :=
  (pss_cons (ps_set nd hr hy hx.1 hs0 hf) (pss_cons (ps_asg he (pg_sub (pe_var hr hv hd hcd) hi set_list ha) hs hw h1) h2)).wk fun D σ H ⟨B, F, env, rl, p⟩ => by
    replace p := PoS.part p
    refine ⟨B, F, env, rl, ?_⟩
    unfold alS at p
    cases e1 : fp env with
    | no => rw [e1] at p; exact p.elim
    | er c => rw [e1] at p; exact fun H1 F1 a1 => p σ H1 F1 (a1.toS rl.bh) (rl.after a1)
    | ok q =>
      rw [e1] at p
      obtain ⟨s0, t0, ee, eg⟩ := hx.2 env q e1
      rw [R.st_ok, ee] at p
      dsimp only at p
      intro v w H1 F1 a1 hv1 hto
      by_cases hri : r = i ∨ env.length ≤ r
      · rw [if_pos hri] at p; exact p.elim
      rw [if_neg hri] at p
      have hne : r ≠ i := fun z => hri (.inl z)
      cases ep : getP s0 q with
      | none => rw [ep] at p; exact p.elim
      | some ts =>
        rw [ep] at p
        dsimp only at p
        have r1 : Rel X.K B F1 H1 (env.set r none) (σ.set r (some w)) := (rl.after a1).drop
        have hlen : r < σ.length := by
          obtain ⟨as, h1, _⟩ := rl.sl
          rw [h1.len]
          exact Nat.lt_of_not_le fun z => hri (.inr z)
        have hw1 : (σ.set r (some w))[r]? = some (some w) := by rw [List.getElem?_set_self hlen]
        have hv2 : (σ.set r (some w))[i]? = some (some v) := by rw [List.getElem?_set_ne hne]; exact hv1
        have ee2 : (env.set r none)[i]? = some (some (.v s0)) := by rw [List.getElem?_set_ne hne]; exact ee
        refine tO.st r1 (p.after (a1.toS rl.bh)) fun u H2 F2 t as a2 r2 o n fr p2 => ?_
        refine ⟨w, hw1, ?_⟩
        exact put_run r1 a2 ee2 ep hv2 o n fr (To.same a2.hh hto) p2
/-- x.append(y), y a slot's own value that moves into it -/
def apV (i j : Nat) : En → SR := fun env => match env[i]? with
  | some (some (.v (.ow ss))) => match env[j]? with
    | some (some (.v t)) => if i = j then .no else if ss.length < 1000000 then .nx ((env.set i (some (.v (.ow (ss ++ [t]))))).set j none) else .no
    | _ => .no
  | _ => .no
theorem ds_appendV {x y : Str} {xp yp ap cp : Pos} (i j : Nat) (hN : X.N[i]? = some x := by rfl) (hv : Vis X.env.scope x := by first | exact Or.inl rfl | exact Or.inr (Or.inl rfl) | exact Or.inr (Or.inr rfl)) (hd : (x == ("__debug__" : Str)) = false := by decide)
    (hcd : (x == ("__classdict__" : Str)) = false := by decide) (hNy : X.N[j]? = some y := by rfl) (hvy : Vis X.env.scope y := by first | exact Or.inl rfl | exact Or.inr (Or.inl rfl) | exact Or.inr (Or.inr rfl)) (hdy : (y == ("__debug__" : Str)) = false := by decide)
    (hcdy : (y == ("__classdict__" : Str)) = false := by decide) (hss : starEach [.Name y yp] X.env = (false, eval (.Name y yp) X.env) :: starEach [] X.env := by rfl)
    (hbase : attributeBase (.Name x xp) "append" X.env (eval (.Name x xp) X.env) = eval (.Name x xp) X.env := by rfl)
    (hfew : ((backTo cp (starEach [.Name y yp] X.env)).all (fun x => !x.1) && (backToKw cp (keywordEach [] X.env)).all (fun x => x.1.isSome)
      && decide ([Expr.Name y yp].length + ([] : List Keyword).length + (if ([] : List Keyword).isEmpty then 0 else 1) < 30)) = true := by rfl)
    (hline : (ap.endLine == cp.line) = true := by rfl) (hplain : (backTo cp (starEach [] X.env)).any (·.1) = false := by rfl)
    (hs : swapsWith (.Call (.Attribute (.Name x xp) "append" ap) [.Name y yp] [] cp) none pos.line X.env = pure false := by rfl) :
    DS X W (.Expr (.Call (.Attribute (.Name x xp) "append" ap) [.Name y yp] [] cp) pos) (apV i j) :=
  (ps_expr (pe_bm F.plainAttrs_list F.slot_list_append F.type_list_append mt_append (pe_var hN hv hd hcd) (pa_cons (pe_var hNy hvy hdy hcdy) pa_nil hss) hbase hfew hline hss hplain) hs).wk fun D σ H ⟨B, F, env, r, p⟩ => by
    unfold apV at p
    split at p
    · rename_i ss ee
      split at p
      · rename_i t ej
        split at p
        · exact p.elim
        rename_i hij
        split at p
        · rename_i hl
          obtain ⟨as, h1, h2, h3⟩ := r.sl
          obtain ⟨vj, bj, ds, g1, g2, g3, g4, g5, g6, g7⟩ := h1.take h2 ej
          have ei2 : (env.set j none)[i]? = some (some (.v (.ow ss))) := by rw [List.getElem?_set_ne fun z => hij z.symm]; exact ee
          have r2 : Rel X.K B F H (env.set j none) σ := ⟨r.bh, r.fh, ds, g4, g5, fun a ha => h3 a (g6 a ha)⟩
          obtain ⟨a1, vs, bs, q1, q2, q3, q4, q5, q6, q7, q8, q9⟩ := g4.mut g5 ei2
          cases g2 with
          | v g2 =>
            refine ⟨.ref a1, q1, tyV_lst q3, vj, g1, a1, vs, vj, rfl, rfl, q3, by have := q4.len; have := million; omega, ?_⟩
            have nb : ∀ x ∈ bj, x ∉ bs := fun x hx z => (g7 x hx).2 (q8 x z)
            obtain ⟨es, w1, w2, w3⟩ := q9 (vs ++ [vj]) (ss ++ [t]) (bs ++ (bj ++ [])) (OwAll.app q4 (.cons g2 .nil)) (by
              intro z
              rw [List.append_nil] at z
              rcases List.mem_append.mp z with z | z
              · exact q6 z
              · exact (g7 a1 z).2 q5) (by
              rw [List.append_nil]
              exact List.nodup_append.mpr ⟨q7, g3, fun x hx y hy z => nb y hy (z ▸ hx)⟩) (by
              intro b hb
              rw [List.append_nil] at hb
              exact (List.mem_append.mp hb).imp id fun z => (g7 b z).2)
            refine p σ _ F AfterS.refl ⟨r.bh.updR _ _ (h3 a1 (g6 a1 q5)), r.fh.updR _ _ q2, es, ?_, w2, fun b hb => ?_⟩
            · rw [List.set_comm _ _ (fun z => hij z)]
              exact w1
            · rcases w3 b hb with z | z
              · exact h3 b (g6 b z)
              · rw [List.append_nil] at z
                rcases List.mem_append.mp z with y | y
                · exact h3 b (g6 b (q8 b y))
                · exact h3 b (g7 b y).1
        · exact p.elim
      · exact p.elim
    · exact p.elim
end
end DL
namespace DL
open PySem PySem.Spec PyProof.Rows L2
variable [Tabs]
/-! ### len(set(xs)), xs ints -/
/-- how many different ones -/
def difN (ns : List Int) : Nat := (firstMet (fun i => ns.getD i 0) ns.length).length
def tDif (K : PySem.W.Frag) (ta : TE) : TE := fun σ H Q => ta σ H fun x H1 =>
  ∃ (l : Addr) (ns : List Int), x = .ref l ∧ SqL K H1 l (ns.map V.int) ∧ ns.length ≤ 4000 ∧ Q (.int (difN ns : Nat)) H1
theorem pe_dif {X : Cx} {a : Expr} {ta : TE} {p p2 q pos : Pos} (hc : X.calm = true) (hg : Gl X "len") (hm : X.mg "len" = none) (hg2 : Gl X "set") (hm2 : X.mg "set" = none) (ha : PE X a ta)
    (na : starEach [a] X.env = (false, eval a X.env) :: starEach [] X.env := by rfl) : PE X (.Call (.Name "len" p) [.Call (.Name "set" p2) [a] [] q] [] pos) (tDif X.K ta) := ⟨fun pins s σ H Q I h => by
  refine Call_ (ld_blt I hg hm PySem.boot_len (callWith_builtin1 (args_cons ?_ rfl) rfl rfl))
  refine Call_ (ld_blt I hg2 hm2 PyProof.Rows.boot_set ?_)
  refine callWith_type1 (args_cons (thn (ha.run pins s σ H _ I h) fun v s1 ⟨x, H1, I1, r1, q1⟩ => args_nil ?_) na) na rfl
  obtain ⟨l, ns, hx, hq, hl, q1⟩ := q1
  subst hx
  cases r1
  obtain ⟨its, r, pl, _⟩ := I1.list hq
  have hz : its.toArray.size = ns.length := by
    rw [List.size_toArray, ← r.length, List.length_map]
  refine call_set_list (I1.ok.hd hc) pl.isList (by simpa using RZ.intsAre_vals r) (by rw [hz]; unfold scanBound; omega) fun h' tk hS hk => args_nil ?_
  rw [hz] at hS
  obtain ⟨o, es, _, _, ho, hex, hd, _, _, _, hf, hn⟩ := hS
  have le := firstMet_length_le (fun i => ns.getD i 0) ns.length
  have I2 : Inv X pins σ H1 { s1 with heap := h', toks := tk } := I1.kept fun b o e => hk b o (Heap.lt_size e) e
  exact call_len_set ho hex hd hf (by rw [hn]; omega) ⟨.int (difN ns : Nat), H1, I2.tok _, ⟨_, by rw [hn]; rfl⟩, q1⟩⟩
def difL (ns : List Int) : R D := if ns.length ≤ 4000 then .ok (.int (difN ns : Nat)) else .no
def difD : D → R D := onInts difL
def difR (f : En → R D) : En → R D := fun env => (f env).bind difD
theorem de_dif {X : Cx} {W : WX} {m : Md} {a : Expr} {fa : En → R D} {p p2 q pos : Pos} (hc : X.calm = true) (ha : DE X W .h a fa) (hg : Gl X "len" := by rfl) (hm : X.mg "len" = none) (hg2 : Gl X "set" := by rfl) (hm2 : X.mg "set" = none)
    (na : starEach [a] X.env = (false, eval a X.env) :: starEach [] X.env := by rfl) : DE X W m (.Call (.Name "len" p) [.Call (.Name "set" p2) [a] [] q] [] pos) (difR fa) :=
  (pe_dif hc hg hm hg2 hm2 ha na).wk fun σ H Q ⟨B, F, env, r, p⟩ => tD.bind r p fun v H1 F1 d a1 r1 q1 p1 => by
    obtain ⟨l, ns, rfl, h1, p1⟩ := onInts_r (F := F1) q1 p1 (fun z => z)
    unfold difL at p1
    split at p1
    · rename_i hl
      exact ⟨l, ns, rfl, h1, hl, p1 _ _ _ (After.refl r1.fh) (Rp.int _)⟩
    · exact p1.elim
/-! ### the outer list alone stays a slot's own -/
def flatS : S → S
  | .ow ss => .ow ((toDs ss).map .fr)
  | .tu ss => .fr (.tuple (toDs ss))
  | s => s
def flR (f : En → R S) : En → R S := fun env => (f env).bind fun s => .ok (flatS s)
theorem do_flat {X : Cx} {W : WX} {a : Expr} {f : En → R S} (h : DO X W a f) : DO X W a (flR f) := h.wk fun σ H Q ⟨B, F, env, r, p⟩ => by
  refine ⟨B, F, env, r, ?_⟩
  unfold flR at p
  cases e : f env with
  | er c => rw [e] at p; exact p
  | no => rw [e] at p; exact p
  | ok s =>
    rw [e] at p
    intro v H' F' as x o n fr
    replace p : PoO X.K (ecOf X.mg) W F H σ Q (.ok (flatS s)) := p
    cases s with
    | fr d => exact p v H' F' as x o n fr
    | tu ss =>
      obtain ⟨F2, y, z⟩ := frz x o fr
      rw [S.toD] at z
      exact p v H' F2 [] y (.fr z) .nil fun _ h => by cases h
    | ow ss =>
      cases o with
      | @ow a vs _ cs o1 o2 o3 =>
        have n' := List.nodup_cons.mp n
        have hF : ∀ b ∈ cs, F' b = none := fun b hb => (o3.at _ _ _ b hb).1
        have key : ∀ b u, F' b = some u → b ∉ cs := fun b u e z => by rw [hF b z] at e; cases e
        refine p (.ref a) H' (fun b => if b ∈ cs then H' b else F' b) [a] ⟨x.ff.trans (.mixF hF), .mixH x.fh, x.hh, fun b u e n => ?_⟩ (.ow (as := []) ?_ o2 (OwAll.ofDp ?_)) (by simp) fun b hb => fr b (by
          rcases List.mem_cons.mp hb with z | z
          · rw [z]; exact List.mem_cons_self
          · cases z)
        · split at e
          · rename_i hm
            exact fr b (List.mem_cons_of_mem _ hm)
          · exact x.nw b u e n
        · show (if a ∈ cs then H' a else F' a) = none
          rw [if_neg n'.1]
          exact o1
        · refine OwAll.dp (F := F') (H := H') (.mixF hF) _ _ _ o3 fun b hb => ?_
          show (if b ∈ cs then H' b else F' b) = H' b
          rw [if_pos hb]
end DL
namespace DL
open PySem PySem.Spec PyProof.Rows L2
variable [Tabs]
section
variable {prog : Program} {w : World} {A : Around} {E : Value → Shared → Prop} {s : Shared}
/-- list.__init__ of a fresh list S from an iterator that goes through items from behind -/
theorem init_rev {z l S : Addr} {items : Array Value} {R : Result → Shared → Prop} (hh : A.handled = none) (hz : s.heap.IsRevIter z l ((items.size : Int) - 1)) (hl : s.heap.IsList l items) (lz : l ≠ z) (hn : items.size ≤ sizeLine)
    (Sz : S ≠ z) (Sl : S ≠ l) (oS : s.heap.get? S = some { cls := .type "list", data := .seq #[] })
    (hR : ∀ (h' : Heap) (tk : Nat) (acc : Array Value) (c : Nat), (∀ b o, b ≠ z → b ≠ S → s.heap.get? b = some o → h'.get? b = some o) → h'.get? S = some { cls := .type "list", dict := none, data := .seq acc c, slots := #[] } →
      ItemsOf (fun i v => items[items.size - 1 - i]? = some v) acc items.size → R (.ok (.ret .none)) { s with heap := h', toks := tk }) :
    wpAny (model prog w) A.in1 (Builtin.«list.__init__» ⟨[.ref S, .ref z], []⟩)
      (fun fin s1 => match fin with | .done f => R (.ok f) s1 | .again d => d.quiet = true ∧ codeAny (model prog w) A d R s1) (fun e s1 => R (.error e) s1) s := by
  have W := (Walks.listRev (prog := prog) (w := w) (A := A.in1) hh z l lz items).toS
  have nS : S ∉ [z, l] := by
    intro hm
    rcases List.mem_cons.mp hm with q | q
    · exact Sz q
    · exact Sl (List.mem_singleton.mp q)
  show wpAny _ A.in1 (do let old ← Builtin.List.listItems (.ref S); Builtin.List.listUpdate (.ref S) (fun _ => #[]); letGo old.toList.reverse; Builtin.List.listExtendWith (.ref S) (.ref z) .none) _ _ s
  refine wpAny_bind ?_
  unfold Builtin.List.listItems
  refine wpAny_bind (wpAny_seqItems oS rfl (wpAny_pure ?_))
  show wpAny _ A.in1 (updateSeq S (fun _ => #[]) >>= fun _ => letGo (#[] : Array Value).toList.reverse >>= fun _ => Builtin.List.listExtendWith (.ref S) (.ref z) .none) _ _ s
  refine wpAny_bind (wpAny_updateSeq oS rfl ?_)
  have o2 := Heap.get?_update_self (Obj.mapSeq (fun _ => (#[] : Array Value))) oS rfl
  have kp : ∀ b o, b ≠ S → s.heap.get? b = some o → (s.heap.update S (Obj.mapSeq (fun _ => (#[] : Array Value)))).get? b = some o :=
    fun b o nb q => (Heap.get?_update_other _ _ (fun y => nb y.symm)).trans q
  refine wpAny_bind (wpAny_letGo ?_)
  generalize hX : (s.heap.update S (Obj.mapSeq (fun _ => (#[] : Array Value)))) = X2 at o2 kp ⊢
  have hz2 : X2.IsRevIter z l ((items.size : Int) - 1) := hz.at fun o q => kp _ _ (fun y => Sz y.symm) q
  have hl2 : X2.IsList l items := by
    obtain ⟨o, q1, q2⟩ := hl
    exact ⟨o, kp _ _ (fun y => Sl y.symm) q1, q2⟩
  have tz : ({ s with heap := X2 } : Shared).TypeIs (.ref z) "list_reverseiterator" := Heap.IsRevIter.typeIs (s := { s with heap := X2 }) hz2
  have ns : Builtin.List.listSameRef (.ref S) (.ref z) = false := by simp [Builtin.List.listSameRef, Sz]
  unfold Builtin.List.listExtendWith
  refine wpAny_bind (wpAny_typeOf tz ?_)
  rw [if_neg (by rw [ns]; decide)]
  refine wpAny_bind (wpAny_pyIter_revIter (s := { s with heap := X2 }) hz2 (wpAny_bind (wpAny_holding ?_)))
  unfold Builtin.List.listLengthHint
  refine wpAny_bind (wpAny_specialOf tz RT.nolen_lri ?_)
  show wpAny _ A.in1 (specialOf (Value.ref z) (Str.ofString "__length_hint__") >>= _) _ _ _
  refine wpAny_bind (wpAny_specialOf tz RT.hint_lri ?_)
  generalize hid : ("list_reverseiterator.__length_hint__" : String) = id9
  wp_delta
  rw [show splitId id9 = some ("list_reverseiterator", "__length_hint__") from by subst hid; decide +kernel]
  subst hid
  refine wpAny_bind (wpAny_isInstance (b := true) tz (by rw [isSubtype_type]; kernel_rfl) (wpAny_pure ?_))
  rw [if_neg (by decide)]
  have e9 : ((items.size : Nat) : Int) - 1 - ((0 : Nat) : Int) = (items.size : Int) - 1 := by omega
  refine wpAny_pure ⟨plainId_quiet F.plain_extend_loop _, codeAny_extend_loopS W hn _ nS _ items.size 0 _ _ _ rfl (Nat.zero_le _) ⟨Nat.zero_le _, by rw [e9]; exact hz2, hl2⟩ o2 (ItemsOf.nil _) fun s' acc c hm oS' ha => ?_⟩
  rw [Moved.eq_with hm]
  refine hR s'.heap s'.toks acc c (fun b o nz nS2 q => hm.heap b o (fun y => ?_) (kp b o nS2 q)) oS' ha
  rcases List.mem_cons.mp y with y | y
  · exact nS2 y
  · exact nz (List.mem_singleton.mp y)
/-- list(reversed(l)), from the iterator on -/
theorem call_rev {z l : Addr} {items : Array Value} {Q : Value → Shared → Prop} (hh : A.handled = none) (hz : s.heap.IsRevIter z l ((items.size : Int) - 1)) (hl : s.heap.IsList l items) (lz : l ≠ z) (hn : items.size ≤ sizeLine)
    (hQ : ∀ (h' : Heap) (tk : Nat) (acc : Array Value) (c : Nat), (∀ b o, b ≠ z → s.heap.get? b = some o → h'.get? b = some o) → h'.get? s.heap.objs.size = some { cls := .type "list", dict := none, data := .seq acc c, slots := #[] } →
      ItemsOf (fun i v => items[items.size - 1 - i]? = some v) acc items.size → Q (.ref s.heap.objs.size) { s with heap := h', toks := tk }) :
    wpAny (model prog w) A (call (.type "list") [.ref z]) Q E s := by
  obtain ⟨oz, q1, _⟩ := id hz
  obtain ⟨ol, q2, _⟩ := id hl
  refine callType_codes (Q₁ := fun obj s₁ => obj = .ref s.heap.objs.size ∧ s₁ = { s with heap := s.heap.push { cls := .type "list", data := .seq #[] } }) F.called_list (F.typeCall_list_1 _) F.entry_list_init
    (code_list_new _ ⟨rfl, rfl⟩) fun obj s₁ h1 => ?_
  obtain ⟨h1, h2⟩ := h1
  subst h1
  subst h2
  have oS : (s.heap.push { cls := .type "list", data := .seq #[] }).get? s.heap.objs.size = some { cls := .type "list", data := .seq #[] } := Heap.get?_push_size _ rfl
  refine ⟨⟨_, oS, rfl⟩, F.args_list_init_2 _ _, ?_⟩
  refine init_rev (A := A.in1) (s := { s with heap := s.heap.push { cls := .type "list", data := .seq #[] } }) hh (hz.at fun o q => Heap.get?_push_of_some _ q) (hl.push _) lz hn (fun y => Nat.ne_of_gt (Heap.lt_size q1) y) (fun y => Nat.ne_of_gt (Heap.lt_size q2) y) oS fun h' tk acc c k o' ha => ?_
  exact ⟨rfl, hQ h' tk acc c (fun b o nb q => k b o nb (fun y => absurd (Heap.lt_size q) (by rw [y]; exact Nat.lt_irrefl _)) (Heap.get?_push_of_some _ q)) o' ha⟩
end
section
variable {X : Cx}
def tLRev (K : PySem.W.Frag) (te : TE) : TE := fun σ H Q => te σ H fun v H1 => ∃ (a : Addr) (xs : List V), v = .ref a ∧ SqL K H1 a xs ∧ ∀ q, H1 q = none → Q (.ref q) (upd H1 q (.lst xs.reverse))
theorem pe_lrev {e : Expr} {te : TE} {p p2 pos pos2 : Pos} (hc : X.calm = true) (hg : Gl X "list") (hm : X.mg "list" = none) (hg2 : Gl X "reversed") (hm2 : X.mg "reversed" = none) (he : PE X e te)
    (na : starEach [e] X.env = (false, eval e X.env) :: starEach [] X.env := by rfl)
    (nb : starEach [.Call (.Name "reversed" p2) [e] [] pos2] X.env = (false, eval (.Call (.Name "reversed" p2) [e] [] pos2) X.env) :: starEach [] X.env := by rfl)
    (bl : bootBuiltins "list" = some (.type "list") := by decide +kernel) :
    PE X (.Call (.Name "list" p) [.Call (.Name "reversed" p2) [e] [] pos2] [] pos) (tLRev X.K te) := ⟨fun pins s σ H Q I h => by
  refine Call_ (ld_blt I hg hm bl (callWith_type1 (args_cons (Call_ (ld_blt I hg2 hm2 boot_reversed (callWith_type1 (args_cons (thn (he.run pins s σ H _ I h) fun u s1 ⟨v, H1, I1, r1, q1⟩ => args_nil ?_) na) na rfl))) nb) nb rfl))
  obtain ⟨a, xs, hv, hq, q⟩ := q1
  subst hv
  cases r1
  obtain ⟨its, rv, pl, hz⟩ := I1.list hq
  have hn : its.toArray.size ≤ sizeLine := by rw [List.size_toArray, ← rv.length]; exact hz
  refine call_reversed_list pl.isList (args_nil ?_)
  obtain ⟨oa, ha, _⟩ := id pl.isList
  refine call_rev (A := X.A) (I1.ok.hd hc) ⟨_, Heap.get?_push_size _ rfl, rfl, rfl⟩ (pl.isList.push _) (Nat.ne_of_lt (Heap.lt_size ha)) hn fun h' tk acc c k hS hi => ?_
  have sz : ∀ o : Obj, (s1.heap.push o).objs.size = s1.heap.objs.size + 1 := fun o => Heap.size_push ..
  have up : ∀ b u, s1.heap.get? b = some u → h'.get? b = some u := fun b u g => k b u (Nat.ne_of_lt (Heap.lt_size g)) (Heap.get?_push_of_some _ g)
  have lo : s1.heap.objs.size ≤ (s1.heap.push (revObj a ((its.toArray.size : Int) - 1))).objs.size := by
    rw [sz]; exact Nat.le_succ _
  exact ⟨.ref _, upd H1 _ (.lst xs.reverse), I1.laid (t' := tk) up lo (show ObjOk X.prog X.w _ h' _ (.lst xs.reverse) from ⟨by rw [List.length_reverse]; exact hz, acc.toList, c, RT.vals_rev rv hi, by rw [Array.toArray_toList]; exact hS⟩), rfl, q _ (I1.hok.fresh lo)⟩⟩
def lrvD : D → R S
  | .list ds => .ok (.ow (ds.reverse.map .fr))
  | _ => .no
def lrvR (f : En → R D) : En → R S := fun env => (f env).bind lrvD
theorem _root_.L2.DpAll.rev {K : PySem.W.Frag} {F : Hp} {vs : List V} {ds : List D} (h : DpAll K F vs ds) : DpAll K F vs.reverse ds.reverse := by
  have app : ∀ {vs ws : List V} {ds es : List D}, DpAll K F vs ds → DpAll K F ws es → DpAll K F (vs ++ ws) (ds ++ es) := fun {vs ws ds es} h1 h2 => by
    induction h1 using DpAll.rec (motive_1 := fun _ _ _ => True) with
    | nil => exact h2
    | cons a _ _ ih => exact .cons a ih
    | _ => trivial
  induction h using DpAll.rec (motive_1 := fun _ _ _ => True) with
  | nil => exact .nil
  | cons a _ _ ih => rw [List.reverse_cons, List.reverse_cons]; exact app ih (.cons a .nil)
  | _ => trivial
theorem do_lrev {W : WX} {a : Expr} {fa : En → R D} {p p2 pos pos2 : Pos} (hc : X.calm = true) (ha : DE X W .q a fa) (hg : Gl X "list" := by rfl) (hm : X.mg "list" = none) (hg2 : Gl X "reversed" := by rfl) (hm2 : X.mg "reversed" = none)
    (na : starEach [a] X.env = (false, eval a X.env) :: starEach [] X.env := by rfl)
    (nb : starEach [.Call (.Name "reversed" p2) [a] [] pos2] X.env = (false, eval (.Call (.Name "reversed" p2) [a] [] pos2) X.env) :: starEach [] X.env := by rfl) :
    DO X W (.Call (.Name "list" p) [.Call (.Name "reversed" p2) [a] [] pos2] [] pos) (lrvR fa) :=
  (pe_lrev hc hg hm hg2 hm2 ha na nb).wk fun σ H Q ⟨B, F, env, r, p⟩ => tD.bindO r p fun v H1 F1 d a1 r1 q1 p1 => by
    cases d with
    | list ds =>
      have fin : ∀ {a : Addr} {vs : List V}, SqL X.K H1 a vs → DpAll X.K F1 vs ds → ∃ (b : Addr) (xs : List V), V.ref a = .ref b ∧ SqL X.K H1 b xs ∧ ∀ q, H1 q = none → Q (.ref q) (upd H1 q (.lst xs.reverse)) :=
        fun {a vs} h1 h2 => ⟨a, vs, rfl, h1, fun q n => p1 _ _ _ [q] (After.newO r1.fh n) (.ow (as := []) (r1.fh.free n) upd_same (OwAll.ofDp h2.rev)) (by simp) fun x hx => by
          rcases List.mem_cons.mp hx with e | e
          · rw [e]; exact n
          · cases e⟩
      rcases q1 with q1 | ⟨a, vs, es, e1, e2, h1, h2⟩
      · cases q1 with
        | lst h1 h2 => exact fin (r1.fh.seq h1) h2
      · cases e2
        rw [e1]
        exact fin h1 h2
    | _ => exact p1.elim
end
end DL
namespace DL
open PySem PySem.Spec PyProof.Rows L2
/-! ### loops by an invariant -/
theorem forF_at {b : D → En → Option En} {T : En → SR} {A : Type} (cd : A → D) (I : Nat → En → Prop) : ∀ (ds : List A) (k : Nat) (env : En), I k env →
    (∀ i a env, ds[i]? = some a → I (k + i) env → ∃ e1 e2, b (cd a) env = some e1 ∧ (T e1 = .nx e2 ∨ T e1 = .ct e2) ∧ I (k + i + 1) e2) → ∃ e', forF b T (ds.map cd) env = .nx e' ∧ I (k + ds.length) e'
  | [], k, env, h, _ => ⟨env, rfl, h⟩
  | d :: ds, k, env, h, st => by
    obtain ⟨e1, e2, h1, h2, h3⟩ := st 0 d env rfl h
    obtain ⟨e', q1, q2⟩ := forF_at cd I ds (k + 1) e2 h3 fun i a env hi h => by
      have := st (i + 1) a env (by simpa using hi) (by rwa [Nat.add_assoc, Nat.add_comm 1 i] at h)
      rwa [show k + (i + 1) + 1 = k + 1 + i + 1 by omega] at this
    refine ⟨e', ?_, by rw [List.length_cons, show k + (ds.length + 1) = k + 1 + ds.length by omega]; exact q2⟩
    rw [List.map_cons, forF, h1]
    dsimp only
    rcases h2 with z | z
    · rw [z]; exact q1
    · rw [z]; exact q1
theorem forF_rng {b : D → En → Option En} {T : En → SR} (I : Nat → En → Prop) (n : Nat) (env : En) (h : I 0 env)
    (st : ∀ (i : Nat) env, i < n → I i env → ∃ e1 e2, b (.int (i : Int)) env = some e1 ∧ (T e1 = .nx e2 ∨ T e1 = .ct e2) ∧ I (i + 1) e2) : ∃ e', forF b T (rngL 0 n) env = .nx e' ∧ I n e' := by
  obtain ⟨e', h1, h2⟩ := forF_at (b := b) (T := T) (fun i : Nat => PyData.int (0 + (i : Int))) I (List.range n) 0 env h fun i a env hi hI => by
    have hl : i < n := by
      have := (List.getElem?_eq_some_iff.mp hi).1
      simpa using this
    have ha : a = i := by
      rw [List.getElem?_range hl] at hi
      cases hi; rfl
    subst ha
    rw [Nat.zero_add] at hI ⊢
    have := st a env hl hI
    rwa [show (0 : Int) + (a : Int) = (a : Int) by omega]
  refine ⟨e', h1, ?_⟩
  rwa [Nat.zero_add, List.length_range] at h2
theorem rng1_n {n : Nat} (h : n ≤ 1000000) : rng1 [.int n] = .ok (rngL 0 n) := by
  have hb : b62 n = true := by
    unfold b62; rw [Bool.and_eq_true]; exact ⟨decide_eq_true (by omega), decide_eq_true (by omega)⟩
  unfold rng1
  simp only [hb, if_true, Int.toNat_natCast]
@[simp] theorem e_apV {i j : Nat} {env : En} {ss : List S} {t : S} (h1 : env[i]? = some (some (.v (.ow ss)))) (h2 : env[j]? = some (some (.v t))) (h3 : i ≠ j) (h4 : ss.length < 1000000) : apV i j env = .nx ((env.set i (some (.v (.ow (ss ++ [t]))))).set j none) := by
  unfold apV
  rw [h1]
  dsimp only
  rw [h2]
  dsimp only
  rw [if_neg h3, if_pos h4]
end DL
namespace DL
open PySem PySem.Spec PyProof.Rows L2
variable [Tabs]
/-- two lists, one behind the other: a slot's own list -/
def addO (x y : D) : R S := match x, y with
  | .list xs, .list ys => if xs.length + ys.length ≤ sizeLine then .ok (.ow ((xs ++ ys).map .fr)) else .no
  | _, _ => .no
def adR (f g : En → R D) : En → R S := fun env => (f env).bind fun x => (g env).bind fun y => addO x y
theorem do_add {X : Cx} {W : WX} {a b : Expr} {fa fb : En → R D} {pos : Pos} (ha : DE X W .q a fa) (hb : DE X W .q b fb) : DO X W (.BinOp a .Add b pos) (adR fa fb) :=
  (pe_op op_addA ha hb).wk fun σ H Q ⟨B, F, env, r, p⟩ => tD.bindO r p fun v H1 F1 d a1 r1 q1 p1 => tD.bindO r1 p1 fun u H2 F2 e a2 r2 q2 p2 => by
    unfold addO at p2
    split at p2
    · rename_i xs ys
      split at p2
      · rename_i hl
        obtain ⟨a, vs, rfl, h1, h2⟩ := (q1.after a2).items (by intro z; cases z) r2.fh
        obtain ⟨b, us, rfl, h3, h4⟩ := q2.items (by intro z; cases z) r2.fh
        have e1 := h2.len
        have e2 := h4.len
        exact .inr (.inr (.inl ⟨a, b, vs, us, rfl, rfl, h1, h3, by omega, fun q n => p2 _ _ _ [q] (After.newO r2.fh n) (.ow (as := []) (r2.fh.free n) upd_same (OwAll.ofDp (h2.app h4))) (by simp) fun x hx => by
          rcases List.mem_cons.mp hx with z | z
          · rw [z]; exact n
          · cases z⟩))
      · exact p2.elim
    · exact p2.elim
@[simp] theorem addO_l (xs ys : List D) : addO (.list xs) (.list ys) = if xs.length + ys.length ≤ sizeLine then .ok (.ow ((xs ++ ys).map .fr)) else .no := rfl
@[simp] theorem e_adR {f g : En → R D} {env : En} : adR f g env = (f env).bind fun x => (g env).bind fun y => addO x y := rfl
@[simp] theorem e_flR {f : En → R S} {env : En} : flR f env = (f env).bind fun s => .ok (flatS s) := rfl
@[simp] theorem e_difR {f : En → R D} {env : En} : difR f env = (f env).bind difD := rfl
@[simp] theorem e_lrvR {f : En → R D} {env : En} : lrvR f env = (f env).bind lrvD := rfl
@[simp] theorem lrv_l (ds : List D) : lrvD (.list ds) = .ok (.ow (ds.reverse.map .fr)) := rfl
end DL
namespace ZN
open PySem
open Sem (wp)
section
variable {prog : Program} {w : World} {A : Around} {E : Value → Shared → Prop} {s : Shared}
abbrev IsZipF (h : Heap) (z TI TO : Addr) (f0 : Value) (b : Bool) : Prop :=
  h.get? z = some { cls := .type "zip", dict := none, data := .fields #[f0, .bool b, .bool false, .ref TI, .ref TO], slots := #[] }
abbrev IsTupN (h : Heap) (T : Addr) (vs : List Value) : Prop := h.get? T = some { cls := .type "tuple", data := .seq vs.toArray }
theorem typeCall_zip (vs : List Value) : checkTypeCall "zip" ⟨vs, []⟩ = pure () := by
  first | kernel_rfl | (unfold checkTypeCall; rfl)
theorem newCall_zip (a : Value) (r : List Value) : checkBuiltinCall "zip.__new__" ⟨.type "zip" :: a :: r, []⟩ = pure () := by kernel_rfl
theorem args_init (vs : List Value) (v : Value) : argsOk "object.__init__" ⟨v :: vs, []⟩ := by
  unfold argsOk; rw [signature?_of (id := "object.__init__") (n := ['_', '_', 't', 'i', 'n', 'i', '_', '_']) (o := ['t', 'c', 'e', 'j', 'b', 'o']) (by kernel_rfl) F.owner_object]; kernel_rfl
theorem wp_iterAll : ∀ (ls : List (Addr × Array Value)) (its : Array Value) (s : Shared) {Q : Array Value → Shared → Prop}, (∀ p ∈ ls, s.heap.IsList p.1 p.2) →
    (∀ h' its', h'.objs.size = s.heap.objs.size + ls.length → (∀ c o, s.heap.get? c = some o → h'.get? c = some o) → its' = (List.range ls.length).map (fun k => Value.ref (s.heap.objs.size + k)) →
      (∀ k p, ls[k]? = some p → h'.IsListIter (s.heap.objs.size + k) p.1 0) → Q (its ++ its'.toArray) { s with heap := h' }) →
    wpAny (model prog w) A (forIn (ls.map fun p => Value.ref p.1) its (fun x r => do let v ← holding r.toList (pyIter x); pure (ForInStep.yield (r.push v)))) Q E s
  | [], its, s, Q, _, hQ => by
    have := hQ s.heap [] rfl (fun _ _ x => x) rfl (fun k p h => by cases k <;> cases h)
    rw [List.map_nil, List.forIn_nil]
    exact wpAny_pure (by simpa using this)
  | (l, xs) :: r, its, s, Q, hl, hQ => by
    rw [List.map_cons, List.forIn_cons]
    have h0 : s.heap.IsList l xs := hl (l, xs) (List.mem_cons_self ..)
    refine wpAny_bind (wpAny_bind (wpAny_holding (wpAny_pyIter_list h0 (wpAny_pure ?_))))
    dsimp only
    obtain ⟨h1, e1⟩ : ∃ h1 : Heap, h1 = s.heap.push { cls := .type "list_iterator", data := .fields #[.ref l, .int 0 0] } := ⟨_, rfl⟩
    have k1 : h1.objs.size = s.heap.objs.size + 1 := by rw [e1]; exact Heap.size_push ..
    have k2 : ∀ c o, s.heap.get? c = some o → h1.get? c = some o := fun c o x => by rw [e1]; exact Heap.get?_push_of_some _ x
    have k3 : h1.IsListIter s.heap.objs.size l 0 := by rw [e1]; exact ⟨_, Heap.get?_push_size _ rfl, rfl, rfl⟩
    rw [← e1]
    refine wp_iterAll r _ { s with heap := h1 } (fun p hp => (hl p (List.mem_cons_of_mem _ hp)).at fun o e => k2 _ o e) fun h' its' q1 q2 q3 q4 => ?_
    replace q1 : h'.objs.size = h1.objs.size + r.length := q1
    replace q2 : ∀ c o, h1.get? c = some o → h'.get? c = some o := q2
    replace q3 : its' = (List.range r.length).map (fun k => Value.ref (h1.objs.size + k)) := q3
    replace q4 : ∀ k p, r[k]? = some p → h'.IsListIter (h1.objs.size + k) p.1 0 := q4
    rw [k1] at q1 q3
    have := hQ h' (Value.ref s.heap.objs.size :: its') (by rw [q1, List.length_cons]; omega) (fun c o x => q2 c o (k2 c o x)) (by
      rw [q3, List.length_cons, List.range_succ_eq_map, List.map_cons, List.map_map]
      congr 1
      apply List.map_congr_left
      intro k _
      show Value.ref (s.heap.objs.size + 1 + k) = Value.ref (s.heap.objs.size + (k + 1))
      rw [Nat.add_assoc, Nat.add_comm 1 k]) (fun k p hk => by
        cases k with
        | zero => cases hk; exact k3.at fun o e => q2 _ o e
        | succ k =>
          have := q4 k p (by simpa using hk)
          have e : h1.objs.size + k = s.heap.objs.size + (k + 1) := by rw [k1]; omega
          rw [← e]; exact this)
    have e : its ++ (Value.ref s.heap.objs.size :: its').toArray = its.push (Value.ref s.heap.objs.size) ++ its'.toArray := by
      apply Array.ext'
      simp
    rw [← e]
    exact this

theorem isType_type (n : String) {Q : Bool → Shared → Prop} (h : Q true s) : wpAny (model prog w) A (isType (.type n)) Q E s := by
  first | exact wpAny_pure h | (unfold isType; exact wpAny_pure h) | skip
theorem zip_new_at {ls : List (Addr × Array Value)} {Q : Value → Shared → Prop} (hz : ls.length ≤ 1000) (hl : ∀ p ∈ ls, s.heap.IsList p.1 p.2)
    (h : ∀ h', IsZipF h' (s.heap.objs.size + ls.length + 2) (s.heap.objs.size + ls.length) (s.heap.objs.size + ls.length + 1) .none false →
      IsTupN h' (s.heap.objs.size + ls.length) ((List.range ls.length).map fun k => Value.ref (s.heap.objs.size + k)) →
      IsTupN h' (s.heap.objs.size + ls.length + 1) (List.replicate ls.length .none) →
      (∀ k p, ls[k]? = some p → h'.IsListIter (s.heap.objs.size + k) p.1 0) → h'.objs.size = s.heap.objs.size + ls.length + 3 →
      (∀ c o, s.heap.get? c = some o → h'.get? c = some o) → Q (.ref (s.heap.objs.size + ls.length + 2)) { s with heap := h' }) :
    wpAny (model prog w) A (Builtin.«zip.__new__» ⟨.type "zip" :: (ls.map fun p => Value.ref p.1), []⟩) (fun fin s' => ∃ v, fin = .done (.ret v) ∧ Q v s') E s := by
  unfold Builtin.«zip.__new__»
  refine wpAny_bind ?_
  unfold Builtin.SmallTypes.newClass
  refine wpAny_bind (isType_type "zip" ?_)
  simp only [Bool.not_true, Bool.false_eq_true, if_false]
  rw [sub_zip]
  refine wpAny_bind (wpAny_pure (wpAny_pure ?_))
  show wpAny (model prog w) A (do
          let its ← Builtin.SmallTypes.iterAll (List.map (fun p => Value.ref p.fst) ls)
          let a ← newTuple its
          let b ← newTuple (List.map (fun x => Value.none) its)
          let c ← Builtin.SmallTypes.newRecord (.type "zip") (Builtin.SmallTypes.ownedTupleFields ++ [Value.bool false, a, b])
          ret c) _ E s
  refine wpAny_bind ?_
  unfold Builtin.SmallTypes.iterAll
  refine wpAny_bind (wp_iterAll ls #[] s hl fun h1 its q1 q2 q3 q4 => wpAny_pure ?_)
  subst q3
  have ez : (#[] ++ ((List.range ls.length).map fun k => Value.ref (s.heap.objs.size + k)).toArray : Array Value).toList = (List.range ls.length).map fun k => Value.ref (s.heap.objs.size + k) := by simp
  rw [ez]
  have z0 : (List.map (fun k => Value.ref (s.heap.objs.size + k)) (List.range ls.length)).length ≤ sizeLine := by
    rw [List.length_map, List.length_range]; exact Nat.le_trans hz (by decide)
  refine wpAny_bind (wpAny_newTuple (hsz := z0) (wpAny_bind (wpAny_newTuple (hsz := by rw [List.length_map]; exact z0) (wpAny_bind ?_))))
  unfold Builtin.SmallTypes.newRecord
  have e0 : (List.map (fun _ => Value.none) (List.map (fun k => Value.ref (s.heap.objs.size + k)) (List.range ls.length))) = List.replicate ls.length Value.none := by
    rw [List.map_map, Function.comp_def, List.map_const', List.length_range]
  rw [e0]
  obtain ⟨h2, e2⟩ : ∃ h2 : Heap, h2 = h1.push { cls := .type "tuple", data := .seq ((List.range ls.length).map fun k => Value.ref (s.heap.objs.size + k)).toArray } := ⟨_, rfl⟩
  have k1 : h2.objs.size = s.heap.objs.size + ls.length + 1 := by rw [e2, Heap.size_push, q1]
  have k2 : ∀ c o, h1.get? c = some o → h2.get? c = some o := fun c o x => by rw [e2]; exact Heap.get?_push_of_some _ x
  have k3 : IsTupN h2 h1.objs.size ((List.range ls.length).map fun k => Value.ref (s.heap.objs.size + k)) := by rw [e2]; exact Heap.get?_push_size _ rfl
  obtain ⟨h3, e3⟩ : ∃ h3 : Heap, h3 = h2.push { cls := .type "tuple", data := .seq (List.replicate ls.length Value.none).toArray } := ⟨_, rfl⟩
  have m1 : h3.objs.size = s.heap.objs.size + ls.length + 2 := by rw [e3, Heap.size_push, k1]
  have m2 : ∀ c o, h2.get? c = some o → h3.get? c = some o := fun c o x => by rw [e3]; exact Heap.get?_push_of_some _ x
  have m3 : IsTupN h3 h2.objs.size (List.replicate ls.length Value.none) := by rw [e3]; exact Heap.get?_push_size _ rfl
  rw [← e2]
  show wpAny (model prog w) A (newObj (.type "zip") (.fields #[.none, .bool false, .bool false, .ref h1.objs.size, .ref h2.objs.size])) _ E { s with heap := h2.push { cls := .type "tuple", data := .seq (List.replicate ls.length Value.none).toArray } }
  rw [← e3]
  refine wpAny_newObj_type (hd := by show (5 : Nat) ≤ _; decide) (wpAny_pure ⟨_, rfl, ?_⟩)
  obtain ⟨h4, e4⟩ : ∃ h4 : Heap, h4 = h3.push { cls := .type "zip", data := .fields #[.none, .bool false, .bool false, .ref h1.objs.size, .ref h2.objs.size] } := ⟨_, rfl⟩
  have n1 : h4.objs.size = s.heap.objs.size + ls.length + 3 := by rw [e4, Heap.size_push, m1]
  have n2 : ∀ c o, h3.get? c = some o → h4.get? c = some o := fun c o x => by rw [e4]; exact Heap.get?_push_of_some _ x
  have n3 : IsZipF h4 h3.objs.size h1.objs.size h2.objs.size .none false := by rw [e4]; exact Heap.get?_push_size _ rfl
  show Q (Value.ref h3.objs.size) { s with heap := h3.push { cls := .type "zip", data := .fields #[.none, .bool false, .bool false, .ref h1.objs.size, .ref h2.objs.size] } }
  rw [← e4, m1]
  rw [q1] at k3
  rw [k1] at m3
  rw [m1, q1, k1] at n3
  exact h h4 n3 (n2 _ _ (m2 _ _ k3)) (n2 _ _ m3) (fun k p hk => (q4 k p hk).at fun o e => n2 _ _ (m2 _ _ (k2 _ _ e))) n1 fun c o x => n2 _ _ (m2 _ _ (k2 _ _ (q2 _ _ x)))
theorem call_zip_n {ls : List (Addr × Array Value)} {Q : Value → Shared → Prop} (hne : ls ≠ []) (hz : ls.length ≤ 1000) (hl : ∀ p ∈ ls, s.heap.IsList p.1 p.2)
    (h : ∀ h', IsZipF h' (s.heap.objs.size + ls.length + 2) (s.heap.objs.size + ls.length) (s.heap.objs.size + ls.length + 1) .none false →
      IsTupN h' (s.heap.objs.size + ls.length) ((List.range ls.length).map fun k => Value.ref (s.heap.objs.size + k)) →
      IsTupN h' (s.heap.objs.size + ls.length + 1) (List.replicate ls.length .none) →
      (∀ k p, ls[k]? = some p → h'.IsListIter (s.heap.objs.size + k) p.1 0) → h'.objs.size = s.heap.objs.size + ls.length + 3 →
      (∀ c o, s.heap.get? c = some o → h'.get? c = some o) → Q (.ref (s.heap.objs.size + ls.length + 2)) { s with heap := h' }) :
    wpAny (model prog w) A (call (.type "zip") (ls.map fun p => Value.ref p.1)) Q E s := by
  have hcn : checkBuiltinCall "zip.__new__" ⟨.type "zip" :: (ls.map fun p => Value.ref p.1), []⟩ = pure () := by
    cases ls with
    | nil => exact absurd rfl hne
    | cons a r => exact newCall_zip _ _
  generalize hvs : (ls.map fun p => Value.ref p.1) = vs at *
  have g : Meets (Builtin.«zip.__new__» ⟨.type "zip" :: vs, []⟩) (fun A R s => (∀ p ∈ ls, s.heap.IsList p.1 p.2) ∧ ∀ h' : Heap, IsZipF h' (s.heap.objs.size + ls.length + 2) (s.heap.objs.size + ls.length) (s.heap.objs.size + ls.length + 1) .none false →
      IsTupN h' (s.heap.objs.size + ls.length) ((List.range ls.length).map fun k => Value.ref (s.heap.objs.size + k)) →
      IsTupN h' (s.heap.objs.size + ls.length + 1) (List.replicate ls.length .none) →
      (∀ k p, ls[k]? = some p → h'.IsListIter (s.heap.objs.size + k) p.1 0) → h'.objs.size = s.heap.objs.size + ls.length + 3 →
      (∀ c o, s.heap.get? c = some o → h'.get? c = some o) → R (.ok (.ret (.ref (s.heap.objs.size + ls.length + 2)))) { s with heap := h' }) :=
    .of_wp fun prog w A R s hh => by
      rw [← hvs]
      exact zip_new_at hz hh.1 hh.2
  exact callType_new F.called_zip (by decide) (typeCall_zip _) hcn (fun obj => args_init _ obj) F.entry_zip_new g ⟨hl, fun h' a1 a2 a3 a4 a5 a6 => ⟨⟨_, a1, rfl⟩, h h' a1 a2 a3 a4 a5 a6⟩⟩
end
end ZN
namespace ZN
open PySem
open Sem (wp)
section
variable {prog : Program} {w : World} {A : Around} {E : Value → Shared → Prop} {s : Shared}
theorem wp_alive {M : Model} {a : Addr} {Q : Option Obj → Shared → Prop} (h : Q (s.heap.get? a) s) : wpAny M A (loadIfAlive a) Q E s := fun _ _ _ => h
theorem forIn_inv {M : Model} {α β : Type} {f : α → β → Sem (ForInStep β)} (B : Nat → β) (I : Nat → Shared → Prop) {Q : β → Shared → Prop} : ∀ (xs : List α) (k : Nat) (s : Shared), I k s →
    (∀ j x s, xs[j]? = some x → I (k + j) s → wpAny M A (f x (B (k + j))) (fun r s' => r = .yield (B (k + j + 1)) ∧ I (k + j + 1) s') E s) →
    (∀ s', I (k + xs.length) s' → Q (B (k + xs.length)) s') → wpAny M A (forIn xs (B k) f) Q E s
  | [], k, s, h, _, hQ => by
    rw [List.forIn_nil]
    exact wpAny_pure (hQ s h)
  | x :: xs, k, s, h, hs, hQ => by
    rw [List.forIn_cons]
    have h0 := hs 0 x s rfl h
    refine wpAny_bind (wpAny_mono h0 (fun r s1 ⟨hr, h1⟩ => ?_) fun _ _ x => x)
    subst hr
    dsimp only
    refine forIn_inv B I xs (k + 1) s1 h1 (fun j y s2 hj h2 => ?_) fun s' h' => ?_
    · have e : k + 1 + j = k + (j + 1) := by omega
      rw [e] at h2 ⊢
      exact hs (j + 1) y s2 (by simpa using hj) h2
    · have e : k + 1 + xs.length = k + (x :: xs).length := by rw [List.length_cons]; omega
      rw [e] at h' ⊢
      exact hQ s' h'
/-- the cells of a zip over lists -/
structure Sep (z TI TO : Addr) (cs : List (Addr × Addr)) : Prop where
  nd : (cs.map (·.1)).Nodup
  TIz : TI ≠ z
  TOz : TO ≠ z
  TITO : TI ≠ TO
  iz : ∀ c ∈ cs, c.1 ≠ z
  iTI : ∀ c ∈ cs, c.1 ≠ TI
  iTO : ∀ c ∈ cs, c.1 ≠ TO
  lz : ∀ c ∈ cs, c.2 ≠ z
  lTO : ∀ c ∈ cs, c.2 ≠ TO
  li : ∀ c ∈ cs, ∀ d ∈ cs, c.2 ≠ d.1
/-- outside of the cells all stands -/
def Kept (z TO : Addr) (cs : List (Addr × Addr)) (h h' : Heap) : Prop := h'.objs.size = h.objs.size ∧ ∀ c o, c ≠ z → c ≠ TO → c ∉ cs.map (·.1) → h.get? c = some o → h'.get? c = some o
theorem Kept.z {z TO : Addr} {cs : List (Addr × Addr)} {h h1 h2 : Heap} (k : Kept z TO cs h h1) (b : Heap.SameBut z h1 h2) : Kept z TO cs h h2 :=
  ⟨b.1.trans k.1, fun c o a1 a2 a3 e => b.extBut _ _ a1 (k.2 c o a1 a2 a3 e)⟩
theorem Kept.TO {z TO : Addr} {cs : List (Addr × Addr)} {h h1 h2 : Heap} (k : Kept z TO cs h h1) (b : Heap.SameBut TO h1 h2) : Kept z TO cs h h2 :=
  ⟨b.1.trans k.1, fun c o a1 a2 a3 e => b.extBut _ _ a2 (k.2 c o a1 a2 a3 e)⟩
theorem Kept.it {z TO i : Addr} {cs : List (Addr × Addr)} {h h1 h2 : Heap} (k : Kept z TO cs h h1) (hi : i ∈ cs.map (·.1)) (b : Heap.SameBut i h1 h2) : Kept z TO cs h h2 :=
  ⟨b.1.trans k.1, fun c o a1 a2 a3 e => b.extBut _ _ (fun q => a3 (q ▸ hi)) (k.2 c o a1 a2 a3 e)⟩
/-- the state of the iterators after the first j have turned -/
def Its (cs : List (Addr × Addr)) (i j : Nat) (h : Heap) : Prop := ∀ k c, cs[k]? = some c → h.IsListIter c.1 c.2 (if k < j then i + 1 else i)
theorem mem1 {cs : List (Addr × Addr)} {k : Nat} {c : Addr × Addr} (h : cs[k]? = some c) : c.1 ∈ cs.map (·.1) := List.mem_map.mpr ⟨c, List.mem_of_getElem? h, rfl⟩
theorem inj1 {cs : List (Addr × Addr)} (nd : (cs.map (·.1)).Nodup) {k l : Nat} {c d : Addr × Addr} (h : cs[k]? = some c) (h2 : cs[l]? = some d) (e : c.1 = d.1) : k = l := by
  have hk : k < (cs.map (·.1)).length := by
    rw [List.length_map]; exact (List.getElem?_eq_some_iff.mp h).1
  have hl : l < (cs.map (·.1)).length := by
    rw [List.length_map]; exact (List.getElem?_eq_some_iff.mp h2).1
  have e1 : (cs.map (·.1))[k] = (cs.map (·.1))[l] := by
    obtain ⟨_, r1⟩ := List.getElem?_eq_some_iff.mp h
    obtain ⟨_, r2⟩ := List.getElem?_eq_some_iff.mp h2
    simp only [List.getElem_map, r1, r2, e]
  exact (List.getElem_inj nd).mp e1
theorem Its.turn {cs : List (Addr × Addr)} {i j : Nat} {c : Addr × Addr} {h h' : Heap} (nd : (cs.map (·.1)).Nodup) (hj : cs[j]? = some c) (t : Its cs i j h) (n : h'.IsListIter c.1 c.2 (i + 1)) (b : Heap.SameBut c.1 h h') : Its cs i (j + 1) h' := by
  intro k d hk
  by_cases e : k = j
  · subst e
    rw [hj] at hk; cases hk
    rw [if_pos (Nat.lt_succ_self _)]; exact n
  · have := t k d hk
    have e2 : (if k < j + 1 then i + 1 else i) = if k < j then i + 1 else i := by
      by_cases q : k < j
      · rw [if_pos q, if_pos (by omega)]
      · rw [if_neg q, if_neg (by omega)]
    rw [e2]
    exact this.extBut b.extBut fun q => e (inj1 nd hk hj q)
theorem Its.over {cs : List (Addr × Addr)} {i j : Nat} {a : Addr} {h h' : Heap} (t : Its cs i j h) (ha : ∀ c ∈ cs, c.1 ≠ a) (b : Heap.SameBut a h h') : Its cs i j h' := fun k d hk => (t k d hk).extBut b.extBut (ha d (List.mem_of_getElem? hk))
def Lists (cs : List (Addr × Addr)) (i : Nat) (xs : List Value) (h : Heap) : Prop := xs.length = cs.length ∧ ∀ (k : Nat) (c : Addr × Addr) (x : Value), cs[k]? = some c → xs[k]? = some x → ∃ its : Array Value, h.IsList c.2 its ∧ its[i]? = some x
theorem Lists.kept {z TI TO : Addr} {cs : List (Addr × Addr)} {i : Nat} {xs : List Value} {h h' : Heap} (S : Sep z TI TO cs) (l : Lists cs i xs h) (k : Kept z TO cs h h') : Lists cs i xs h' :=
  ⟨l.1, fun j c x hj hx => by
    obtain ⟨its, q, r⟩ := l.2 j c x hj hx
    have hm := List.mem_of_getElem? hj
    refine ⟨its, q.at fun o e => k.2 _ o (S.lz c hm) (S.lTO c hm) (fun z => ?_) e, r⟩
    obtain ⟨d, hd, e⟩ := List.mem_map.mp z
    exact S.li c hm d hd e.symm⟩
end
end ZN
namespace ZN
open PySem
open Sem (wp)
section
variable {prog : Program} {w : World} {A : Around} {E : Value → Shared → Prop} {s : Shared}
theorem zipIdx_get {α : Type} {xs : List α} {j : Nat} {p : α × Nat} (h : xs.zipIdx[j]? = some p) : xs[j]? = some p.1 ∧ p.2 = j := by
  rw [List.getElem?_zipIdx] at h
  cases e : xs[j]? with
  | none => rw [e] at h; cases h
  | some a => rw [e] at h; cases h; exact ⟨rfl, by simp⟩
theorem updTup {T : Addr} {ws : List Value} {x : Value} {k : Nat} {Q : Unit → Shared → Prop} (hT : IsTupN s.heap T ws) (hz : ws.length ≤ sizeLine)
    (h : ∀ h', IsTupN h' T (ws.set k x) → Heap.SameBut T s.heap h' → Q () { s with heap := h' }) :
    wpAny (model prog w) A (updateSeq T (·.setIfInBounds k x)) Q E s := by
  refine wpAny_updateSeq hT rfl (h _ ?_ (Heap.SameBut.update ..)) (by simpa using hz) (by simp; omega)
  show Heap.get? _ _ = _
  rw [Heap.get?_update_self _ hT rfl]
  simp [Obj.mapSeq]
theorem next_free {z TI TO : Addr} {cs : List (Addr × Addr)} {i : Nat} {xs ws : List Value} {f0 : Value} {b : Bool} {Q : Value → Shared → Prop} (S : Sep z TI TO cs) (hn : cs ≠ []) (hl : cs.length ≤ 1000)
    (hf : ∀ (Q2 : Bool → Shared → Prop), Q2 true s → wpAny (model prog w) A (Builtin.SmallTypes.ownedTupleIsFree (.ref z)) Q2 E s)
    (hz : IsZipF s.heap z TI TO f0 b) (hTI : IsTupN s.heap TI (cs.map fun c => Value.ref c.1)) (hTO : IsTupN s.heap TO ws) (hw : ws.length = cs.length) (hi : Its cs i 0 s.heap) (hx : Lists cs i xs s.heap)
    (hQ : ∀ h' f1 b1 ws', IsZipF h' z TI TO f1 b1 → (f1 = f0 ∨ f1 = rawInt s.heap.objs.size) → IsTupN h' TO ws' → ws'.length = cs.length → Its cs (i + 1) 0 h' → IsTupN h' s.heap.objs.size xs → h'.objs.size = s.heap.objs.size + 1 →
      (∀ c o, c ≠ z → c ≠ TO → c ∉ cs.map (·.1) → s.heap.get? c = some o → h'.get? c = some o) → Q (.ref s.heap.objs.size) { s with heap := h' }) :
    wpAny (model prog w) A (Builtin.«zip.__next__» ⟨[.ref z], []⟩) (fun fin s' => ∃ v, fin = .done (.ret v) ∧ Q v s') E s := by
  show wpAny _ _ (field (.ref z) 2 >>= _) _ _ _
  refine wpAny_bind (wpAny_field hz rfl (x := .bool false) rfl ?_)
  show wpAny _ _ (field (.ref z) 3 >>= _) _ _ _
  refine wpAny_bind (wpAny_field hz rfl (x := .ref TI) rfl ?_)
  refine wpAny_bind (wpAny_seqItems hTI rfl ?_)
  dsimp only
  rw [if_neg (by simpa [Array.isEmpty] using hn)]
  refine wpAny_bind (hf _ ?_)
  simp only [if_true]
  refine wpAny_bind (wpAny_rule ?_)
  refine wpAny_bind (wpAny_field hz rfl (x := .ref TO) rfl ?_)
  refine wpAny_bind (wpAny_setField_rec hz (by simp) fun g0 hz0 hs0 => ?_)
  replace hz0 : IsZipF g0 z TI TO .ellipsis b := hz0
  have hit : ∀ (j : Nat) (c : Addr × Addr), cs[j]? = some c → c ∈ cs := fun j c h => List.mem_of_getElem? h
  refine wpAny_bind (forIn_inv (fun _ => (none, ())) (fun j s' => ∃ g ws', s' = { s with heap := g } ∧ IsZipF g z TI TO .ellipsis b ∧ IsTupN g TO ws' ∧ ws'.length = cs.length ∧ (∀ k, k < j → ws'[k]? = xs[k]?) ∧ Its cs i j g ∧ Kept z TO cs s.heap g) _ 0 _
    ⟨g0, ws, rfl, hz0, hs0.extBut _ _ S.TOz hTO, hw, (fun k h => absurd h (Nat.not_lt_zero _)), hi.over S.iz hs0, Kept.z ⟨rfl, fun _ _ _ _ _ e => e⟩ hs0⟩ ?_ ?_)
  · intro j p s1 hp ⟨g, ws1, e1, hz1, hT1, hl1, hw1, hi1, hk1⟩
    subst e1
    rw [Nat.zero_add] at hw1 hi1 ⊢
    obtain ⟨hp1, hp2⟩ := zipIdx_get hp
    obtain ⟨v, k⟩ := p
    dsimp only at hp1 hp2
    subst hp2
    rw [List.getElem?_map] at hp1
    cases hc : cs[k]? with
    | none => rw [hc] at hp1; cases hp1
    | some c =>
      rw [hc] at hp1
      obtain rfl : Value.ref c.1 = v := by simpa using hp1
      have hm := hit k c hc
      have hkl : k < cs.length := (List.getElem?_eq_some_iff.mp hc).1
      have hxk : k < xs.length := by rw [hx.1]; exact hkl
      obtain ⟨its, q1, q2⟩ := (hx.kept S hk1).2 k c xs[k] hc (by simp [hxk])
      have hit1 : g.IsListIter c.1 c.2 i := by
        have := hi1 k c hc
        rwa [if_neg (Nat.lt_irrefl _)] at this
      refine wpAny_bind (wpAny_onRaise ?_)
      show wpAny _ _ (Builtin.SmallTypes.nextOf (.ref c.1) >>= _) _ _ _
      refine wpAny_bind (wpAny_nextOf_list_item (s := { s with heap := g }) hit1 q1 q2 fun g1 h1 hs1 => wpAny_pure ?_)
      replace hs1 : Heap.SameBut c.1 g g1 := hs1
      have hT2 : IsTupN g1 TO ws1 := hs1.extBut _ _ (fun e => S.iTO c hm e.symm) hT1
      refine wpAny_bind (wpAny_seqItems (s := { s with heap := g1 }) hT2 rfl ?_)
      refine wpAny_bind (updTup (s := { s with heap := g1 }) hT2 (by rw [hl1]; exact Nat.le_trans hl (by decide)) fun g2 hT3 hs2 => ?_)
      replace hs2 : Heap.SameBut TO g1 g2 := hs2
      refine wpAny_bind (wpAny_letGo (wpAny_pure ⟨rfl, g2, _, rfl, ?_, hT3, by rw [List.length_set, hl1], fun l hlt => ?_, ?_, ?_⟩))
      · exact hs2.extBut _ _ S.TOz.symm (hs1.extBut _ _ (fun e => S.iz c hm e.symm) hz1)
      · rw [List.getElem?_set]
        by_cases e : k = l
        · subst e
          rw [if_pos rfl, if_pos (by rw [hl1]; exact hkl)]
          simp [hxk]
        · rw [if_neg e]
          exact hw1 l (by omega)
      · exact (hi1.turn S.nd hc (h1) hs1).over (S.iTO) hs2
      · exact (hk1.it (mem1 hc) hs1).TO hs2
  · intro s' ⟨g, ws1, e1, hz1, hT1, hl1, hw1, hi1, hk1⟩
    subst e1
    rw [Nat.zero_add, List.length_zipIdx, List.length_map] at hw1 hi1
    have ew : ws1 = xs := by
      apply List.ext_getElem?
      intro k
      by_cases h : k < cs.length
      · exact hw1 k h
      · rw [List.getElem?_eq_none (by omega), List.getElem?_eq_none (by rw [hx.1]; omega)]
    subst ew
    refine wpAny_bind (wpAny_seqItems (s := { s with heap := g }) hT1 rfl ?_)
    dsimp only
    refine wpAny_bind (wpAny_newTuple (hsz := by rw [hl1]; exact Nat.le_trans hl (by decide)) ?_)
    have hsz : g.objs.size = s.heap.objs.size := hk1.1
    obtain ⟨g1, e1⟩ : ∃ g1 : Heap, g1 = g.push { cls := .type "tuple", data := .seq ws1.toArray } := ⟨_, rfl⟩
    have k1 : g1.objs.size = s.heap.objs.size + 1 := by rw [e1, Heap.size_push, hsz]
    have k2 : ∀ c o, g.get? c = some o → g1.get? c = some o := fun c o x => by rw [e1]; exact Heap.get?_push_of_some _ x
    have k3 : IsTupN g1 s.heap.objs.size ws1 := by rw [e1, ← hsz]; exact Heap.get?_push_size _ rfl
    show wpAny (model prog w) A (Builtin.SmallTypes.ownedTupleHandOut (.ref z) (.ref g.objs.size) >>= _) _ _ { s with heap := g.push { cls := .type "tuple", data := .seq ws1.toArray } }
    rw [← e1, hsz]
    refine wpAny_bind ?_
    unfold Builtin.SmallTypes.ownedTupleHandOut
    have hz2 : IsZipF g1 z TI TO .ellipsis b := k2 _ _ hz1
    refine wpAny_bind (wpAny_setField_rec (s := { s with heap := g1 }) hz2 (by simp) fun g2 hz3 hs2 => ?_)
    replace hz3 : IsZipF g2 z TI TO (rawInt s.heap.objs.size) b := hz3
    replace hs2 : Heap.SameBut z g1 g2 := hs2
    refine wpAny_setField_rec (s := { s with heap := g2 }) hz3 (by simp) fun g3 hz4 hs3 => ?_
    replace hz4 : IsZipF g3 z TI TO (rawInt s.heap.objs.size) false := hz4
    replace hs3 : Heap.SameBut z g2 g3 := hs3
    have up : ∀ c o, c ≠ z → g1.get? c = some o → g3.get? c = some o := fun c o c1 e => hs3.extBut _ _ c1 (hs2.extBut _ _ c1 e)
    have hzlt : z < s.heap.objs.size := Heap.lt_size hz
    refine wpAny_pure ⟨_, rfl, hQ g3 _ _ ws1 hz4 (.inr rfl) (up _ _ S.TOz (k2 _ _ hT1)) hl1 (fun k c hc => ?_) (up _ _ (Nat.ne_of_gt hzlt) k3) ?_ fun c o c1 c2 c3 e => up _ _ c1 (k2 _ _ (hk1.2 _ _ c1 c2 c3 e))⟩
    · have := hi1 k c hc
      rw [if_pos (List.getElem?_eq_some_iff.mp hc).1] at this
      rw [if_neg (Nat.not_lt_zero _)]
      exact this.at fun o e => up _ _ (S.iz c (hit k c hc)) (k2 _ _ e)
    · rw [hs3.1, hs2.1, k1]
theorem next_busy {z TI TO : Addr} {cs : List (Addr × Addr)} {i : Nat} {xs ws : List Value} {f0 : Value} {b : Bool} {Q : Value → Shared → Prop} (S : Sep z TI TO cs) (hn : cs ≠ []) (hl : cs.length ≤ 1000)
    (hf : ∀ (Q2 : Bool → Shared → Prop), (∀ h' b1, IsZipF h' z TI TO f0 b1 → (h' = s.heap ∨ Heap.SameBut z s.heap h') → Q2 false { s with heap := h' }) → wpAny (model prog w) A (Builtin.SmallTypes.ownedTupleIsFree (.ref z)) Q2 E s)
    (hz : IsZipF s.heap z TI TO f0 b) (hTI : IsTupN s.heap TI (cs.map fun c => Value.ref c.1)) (hTO : IsTupN s.heap TO ws) (hw : ws.length = cs.length) (hi : Its cs i 0 s.heap) (hx : Lists cs i xs s.heap)
    (hQ : ∀ h' f1 b1 ws', IsZipF h' z TI TO f1 b1 → (f1 = f0 ∨ f1 = rawInt s.heap.objs.size) → IsTupN h' TO ws' → ws'.length = cs.length → Its cs (i + 1) 0 h' → IsTupN h' s.heap.objs.size xs → h'.objs.size = s.heap.objs.size + 1 →
      (∀ c o, c ≠ z → c ≠ TO → c ∉ cs.map (·.1) → s.heap.get? c = some o → h'.get? c = some o) → Q (.ref s.heap.objs.size) { s with heap := h' }) :
    wpAny (model prog w) A (Builtin.«zip.__next__» ⟨[.ref z], []⟩) (fun fin s' => ∃ v, fin = .done (.ret v) ∧ Q v s') E s := by
  show wpAny _ _ (field (.ref z) 2 >>= _) _ _ _
  refine wpAny_bind (wpAny_field hz rfl (x := .bool false) rfl ?_)
  show wpAny _ _ (field (.ref z) 3 >>= _) _ _ _
  refine wpAny_bind (wpAny_field hz rfl (x := .ref TI) rfl ?_)
  refine wpAny_bind (wpAny_seqItems hTI rfl ?_)
  dsimp only
  rw [if_neg (by simpa [Array.isEmpty] using hn)]
  refine wpAny_bind (hf _ fun g0 b0 hz0 hs0 => ?_)
  simp only [Bool.false_eq_true, if_false]
  have hk0 : Kept z TO cs s.heap g0 := by
    rcases hs0 with e | hs0
    · rw [e]; exact ⟨rfl, fun _ _ _ _ _ e => e⟩
    · exact Kept.z ⟨rfl, fun _ _ _ _ _ e => e⟩ hs0
  have hi0 : Its cs i 0 g0 := by
    rcases hs0 with e | hs0
    · rw [e]; exact hi
    · exact hi.over S.iz hs0
  have hT0 : IsTupN g0 TO ws := by
    rcases hs0 with e | hs0
    · rw [e]; exact hTO
    · exact hs0.extBut _ _ S.TOz hTO
  have hit : ∀ (j : Nat) (c : Addr × Addr), cs[j]? = some c → c ∈ cs := fun j c h => List.mem_of_getElem? h
  rw [← Array.forIn_toList]
  refine wpAny_bind (forIn_inv (fun j => (none, (xs.take j).toArray)) (fun j s' => ∃ g, s' = { s with heap := g } ∧ IsZipF g z TI TO f0 b0 ∧ IsTupN g TO ws ∧ Its cs i j g ∧ Kept z TO cs s.heap g) _ 0 _
    ⟨g0, rfl, hz0, hT0, hi0, hk0⟩ ?_ ?_)
  · intro j v s1 hp ⟨g, e1, hz1, hT1, hi1, hk1⟩
    subst e1
    rw [Nat.zero_add] at hi1 ⊢
    have hp1 : (cs.map fun c => Value.ref c.1)[j]? = some v := by simpa using hp
    rw [List.getElem?_map] at hp1
    cases hc : cs[j]? with
    | none => rw [hc] at hp1; cases hp1
    | some c =>
      rw [hc] at hp1
      obtain rfl : Value.ref c.1 = v := by simpa using hp1
      have hm := hit j c hc
      have hkl : j < cs.length := (List.getElem?_eq_some_iff.mp hc).1
      have hxk : j < xs.length := by rw [hx.1]; exact hkl
      obtain ⟨its, q1, q2⟩ := (hx.kept S hk1).2 j c xs[j] hc (by simp [hxk])
      have hit1 : g.IsListIter c.1 c.2 i := by
        have := hi1 j c hc
        rwa [if_neg (Nat.lt_irrefl _)] at this
      refine wpAny_bind (wpAny_holding ?_)
      show wpAny _ _ (Builtin.SmallTypes.nextOf (.ref c.1) >>= _) _ _ _
      refine wpAny_bind (wpAny_nextOf_list_item (s := { s with heap := g }) hit1 q1 q2 fun g1 h1 hs1 => wpAny_pure ?_)
      replace hs1 : Heap.SameBut c.1 g g1 := hs1
      refine wpAny_pure ⟨?_, g1, rfl, hs1.extBut _ _ (fun e => S.iz c hm e.symm) hz1, hs1.extBut _ _ (fun e => S.iTO c hm e.symm) hT1, hi1.turn S.nd hc h1 hs1, hk1.it (mem1 hc) hs1⟩
      congr 2
      apply Array.ext'
      rw [List.take_add_one]
      simp [hxk]
  · intro s' ⟨g, e1, hz1, hT1, hi1, hk1⟩
    subst e1
    have el : 0 + (cs.map fun c => Value.ref c.1).toArray.toList.length = xs.length := by simp [hx.1]
    rw [el] at hi1 ⊢
    rw [hx.1] at hi1
    dsimp only
    rw [List.take_length]
    refine wpAny_bind (wpAny_newTuple (hsz := by show xs.length ≤ _; rw [hx.1]; exact Nat.le_trans hl (by decide)) ?_)
    have hsz : g.objs.size = s.heap.objs.size := hk1.1
    obtain ⟨g1, e1⟩ : ∃ g1 : Heap, g1 = g.push { cls := .type "tuple", data := .seq xs.toArray } := ⟨_, rfl⟩
    have k1 : g1.objs.size = s.heap.objs.size + 1 := by rw [e1, Heap.size_push, hsz]
    have k2 : ∀ c o, g.get? c = some o → g1.get? c = some o := fun c o x => by rw [e1]; exact Heap.get?_push_of_some _ x
    have k3 : IsTupN g1 s.heap.objs.size xs := by rw [e1, ← hsz]; exact Heap.get?_push_size _ rfl
    show wpAny (model prog w) A (ret (.ref g.objs.size)) _ _ { s with heap := g.push { cls := .type "tuple", data := .seq xs.toArray } }
    rw [← e1, hsz]
    refine wpAny_pure ⟨_, rfl, hQ g1 _ _ ws (k2 _ _ hz1) (.inl rfl) (k2 _ _ hT1) hw (fun k c hc => ?_) k3 k1 fun c o c1 c2 c3 e => k2 _ _ (hk1.2 _ _ c1 c2 c3 e)⟩
    have := hi1 k c hc
    rw [if_pos (List.getElem?_eq_some_iff.mp hc).1] at this
    rw [if_neg (Nat.not_lt_zero _)]
    exact this.at fun o e => k2 _ _ e
end
end ZN
namespace ZN
open PySem
open Sem (wp)
def FOk (f0 : Value) : Prop := f0 = .none ∨ ∃ T : Nat, f0 = rawInt T
section
variable {prog : Program} {w : World} {A : Around} {E : Value → Shared → Prop} {s : Shared}
theorem next_item {z TI TO : Addr} {cs : List (Addr × Addr)} {i : Nat} {xs ws : List Value} {f0 : Value} {b : Bool} {Q : Value → Shared → Prop} (S : Sep z TI TO cs) (hn : cs ≠ []) (hl : cs.length ≤ 1000)
    (hf : FOk f0)
    (hz : IsZipF s.heap z TI TO f0 b) (hTI : IsTupN s.heap TI (cs.map fun c => Value.ref c.1)) (hTO : IsTupN s.heap TO ws) (hw : ws.length = cs.length) (hi : Its cs i 0 s.heap) (hx : Lists cs i xs s.heap)
    (hQ : ∀ h' f1 b1 ws', IsZipF h' z TI TO f1 b1 → FOk f1 → IsTupN h' TO ws' → ws'.length = cs.length → Its cs (i + 1) 0 h' → IsTupN h' s.heap.objs.size xs → h'.objs.size = s.heap.objs.size + 1 →
      (∀ c o, c ≠ z → c ≠ TO → c ∉ cs.map (·.1) → s.heap.get? c = some o → h'.get? c = some o) → Q (.ref s.heap.objs.size) { s with heap := h' }) :
    wpAny (model prog w) A (Builtin.«zip.__next__» ⟨[.ref z], []⟩) (fun fin s' => ∃ v, fin = .done (.ret v) ∧ Q v s') E s := by
  have fk : ∀ f1, (f1 = f0 ∨ f1 = rawInt s.heap.objs.size) → FOk f1 := fun f1 h => by
    rcases h with rfl | rfl
    · exact hf
    · exact .inr ⟨_, rfl⟩
  have hq2 := fun h' f1 b1 ws' a1 (a2 : f1 = f0 ∨ f1 = rawInt s.heap.objs.size) => hQ h' f1 b1 ws' a1 (fk f1 a2)
  rcases id hf with e | ⟨T, e⟩
  · refine next_free S hn hl (fun Q2 h => ?_) hz hTI hTO hw hi hx hq2
    unfold Builtin.SmallTypes.ownedTupleIsFree
    subst e
    exact wpAny_bind (wpAny_field hz rfl (x := .none) rfl (wpAny_pure h))
  · cases ha : s.heap.get? T with
    | none =>
      refine next_free S hn hl (fun Q2 h => ?_) hz hTI hTO hw hi hx hq2
      unfold Builtin.SmallTypes.ownedTupleIsFree
      subst e
      refine wpAny_bind (wpAny_field hz rfl (x := rawInt T) rfl ?_)
      show wpAny _ _ (loadIfAlive T >>= _) _ _ _
      refine wpAny_bind (wp_alive ?_)
      rw [ha]
      exact wpAny_pure h
    | some o =>
      refine next_busy S hn hl (fun Q2 h => ?_) hz hTI hTO hw hi hx hq2
      unfold Builtin.SmallTypes.ownedTupleIsFree
      subst e
      refine wpAny_bind (wpAny_field hz rfl (x := rawInt T) rfl ?_)
      show wpAny _ _ (loadIfAlive T >>= _) _ _ _
      refine wpAny_bind (wp_alive ?_)
      rw [ha]
      show wpAny _ _ (field (.ref z) 1 >>= _) _ _ _
      refine wpAny_bind (wpAny_field hz rfl (x := .bool b) rfl ?_)
      cases b with
      | true =>
        exact wpAny_pure (h s.heap true hz (.inl rfl))
      | false =>
        show wpAny _ _ (setField (.ref z) 1 (.bool true) >>= _) _ _ _
        refine wpAny_bind (wpAny_setField_rec hz (by simp) fun g hg hs => wpAny_pure (h g true hg (.inr hs)))
theorem next_end {z TI TO : Addr} {cs : List (Addr × Addr)} {i : Nat} {ws : List Value} {f0 : Value} {b : Bool} {Q : Fin → Shared → Prop} (hh : A.handled = none) (S : Sep z TI TO cs) (hl : cs.length ≤ 1000)
    (hf : FOk f0) {c0 : Addr × Addr} {its : Array Value} (hc0 : cs[0]? = some c0) (hl0 : s.heap.IsList c0.2 its) (hend : its[i]? = none)
    (hz : IsZipF s.heap z TI TO f0 b) (hTI : IsTupN s.heap TI (cs.map fun c => Value.ref c.1)) (hi : Its cs i 0 s.heap)
    (hE : ∀ h' e, (∀ c o, c ≠ z → c ≠ TO → c ∉ cs.map (·.1) → s.heap.get? c = some o → h'.get? c = some o) → (∃ o, h'.get? e = some o ∧ o.cls = .type "StopIteration") → E (.ref e) { s with heap := h' }) :
    wpAny (model prog w) A (Builtin.«zip.__next__» ⟨[.ref z], []⟩) Q E s := by
  obtain ⟨rest, er⟩ : ∃ rest, cs = c0 :: rest := by
    cases cs with
    | nil => cases hc0
    | cons a r => cases hc0; exact ⟨r, rfl⟩
  have hm : c0 ∈ cs := List.mem_of_getElem? hc0
  have hit0 : s.heap.IsListIter c0.1 c0.2 i := by
    have := hi 0 c0 hc0
    rwa [if_neg (Nat.lt_irrefl _)] at this
  have free : ∀ g0 b0, IsZipF g0 z TI TO .ellipsis b0 → Heap.SameBut z s.heap g0 → ∀ {β : Type} {Q2 : β → Shared → Prop} {K : Value → Sem β}, wpAny (model prog w) A ((Builtin.SmallTypes.nextOf (.ref c0.1)) >>= K) Q2 (fun e s' => wpAny (model prog w) A (setField (.ref z) 0 .none) (fun _ s'' => E e s'') E s') { s with heap := g0 } := by
    intro g0 b0 hz0 hs0 β Q2 K
    refine wpAny_bind (wpAny_nextOf_list_end (s := { s with heap := g0 }) hh (hit0.extBut hs0.extBut (S.iz c0 hm)) (hl0.extBut hs0.extBut (S.lz c0 hm)) hend fun h₂ e hs₂ he => ?_)
    replace hs₂ : Heap.ExtBut c0.1 g0 h₂ := hs₂
    obtain ⟨oe, hoe, hce⟩ := he
    have hz₂ : IsZipF h₂ z TI TO .ellipsis b0 := hs₂ _ _ (S.iz c0 hm).symm hz0
    have hez : e ≠ z := fun x => by subst x; rw [hz₂] at hoe; cases hoe; simp at hce
    exact wpAny_setField_rec (s := { s with heap := h₂ }) hz₂ (by simp) fun h₃ _ hs₃ => hE h₃ e (fun c o c1 _ c3 x => hs₃.extBut _ _ c1 (hs₂ _ _ (fun q => c3 (q ▸ mem1 hc0)) (hs0.extBut _ _ c1 x))) ⟨oe, hs₃.extBut _ _ hez hoe, hce⟩
  have busy : ∀ g0, (g0 = s.heap ∨ Heap.SameBut z s.heap g0) → ∀ {β : Type} {Q2 : β → Shared → Prop} {K : Value → Sem β}, wpAny (model prog w) A ((Builtin.SmallTypes.nextOf (.ref c0.1)) >>= K) Q2 E { s with heap := g0 } := by
    intro g0 hs0 β Q2 K
    have up : ∀ c o, c ≠ z → s.heap.get? c = some o → g0.get? c = some o := fun c o c1 e => by
      rcases hs0 with h | h
      · rw [h]; exact e
      · exact h.extBut _ _ c1 e
    refine wpAny_bind (wpAny_nextOf_list_end (s := { s with heap := g0 }) hh (hit0.at fun o e => up _ o (S.iz c0 hm) e) (hl0.at fun o e => up _ o (S.lz c0 hm) e) hend fun h₂ e hs₂ he => ?_)
    replace hs₂ : Heap.ExtBut c0.1 g0 h₂ := hs₂
    exact hE h₂ e (fun c o c1 _ c3 x => hs₂ _ _ (fun q => c3 (q ▸ mem1 hc0)) (up _ _ c1 x)) he
  show wpAny _ _ (field (.ref z) 2 >>= _) _ _ _
  refine wpAny_bind (wpAny_field hz rfl (x := .bool false) rfl ?_)
  show wpAny _ _ (field (.ref z) 3 >>= _) _ _ _
  refine wpAny_bind (wpAny_field hz rfl (x := .ref TI) rfl ?_)
  refine wpAny_bind (wpAny_seqItems hTI rfl ?_)
  dsimp only
  rw [if_neg (by simp [Array.isEmpty, er])]
  subst er
  simp only [List.map_cons]
  refine wpAny_bind (wpAny_mono (Q := fun r s1 => ∃ g0, s1 = { s with heap := g0 } ∧ (r = true → ∃ f1, IsZipF g0 z TI TO f1 b) ∧ (g0 = s.heap ∨ Heap.SameBut z s.heap g0)) (E := fun _ _ => False) ?_ ?_ (fun _ _ h => h.elim))
  · unfold Builtin.SmallTypes.ownedTupleIsFree
    rcases id hf with e | ⟨T, e⟩
    · subst e
      exact wpAny_bind (wpAny_field hz rfl (x := .none) rfl (wpAny_pure ⟨s.heap, rfl, fun _ => ⟨_, hz⟩, .inl rfl⟩))
    · subst e
      refine wpAny_bind (wpAny_field hz rfl (x := rawInt T) rfl ?_)
      show wpAny _ _ (loadIfAlive T >>= _) _ _ _
      refine wpAny_bind (wp_alive ?_)
      cases ha : s.heap.get? T with
      | none => exact wpAny_pure ⟨s.heap, rfl, fun _ => ⟨_, hz⟩, .inl rfl⟩
      | some o =>
        show wpAny _ _ (field (.ref z) 1 >>= _) _ _ _
        refine wpAny_bind (wpAny_field hz rfl (x := .bool b) rfl ?_)
        cases b with
        | true => exact wpAny_pure ⟨s.heap, rfl, (fun h => nomatch h), .inl rfl⟩
        | false =>
          show wpAny _ _ (setField (.ref z) 1 (.bool true) >>= _) _ _ _
          exact wpAny_bind (wpAny_setField_rec hz (by simp) fun g hg hs => wpAny_pure ⟨g, rfl, (fun h => nomatch h), .inr hs⟩)
  · intro r s1 ⟨g0, e1, hr, hs0⟩
    subst e1
    cases r with
    | true =>
      obtain ⟨f1, hz1⟩ := hr rfl
      have up : ∀ c o, c ≠ z → s.heap.get? c = some o → g0.get? c = some o := fun c o c1 e => by
        rcases hs0 with h | h
        · rw [h]; exact e
        · exact h.extBut _ _ c1 e
      simp only [if_true]
      refine wpAny_bind (wpAny_rule ?_)
      refine wpAny_bind (wpAny_field (s := { s with heap := g0 }) hz1 rfl (x := .ref TO) rfl ?_)
      refine wpAny_bind (wpAny_setField_rec (s := { s with heap := g0 }) hz1 (by simp) fun g1 hz2 hs2 => ?_)
      replace hs2 : Heap.SameBut z g0 g1 := hs2
      simp only [List.zipIdx_cons, List.forIn_cons]
      refine wpAny_bind (wpAny_bind (wpAny_bind (wpAny_onRaise ?_)))
      exact free g1 b hz2 (by
        rcases hs0 with h | h
        · rw [← h]; exact hs2
        · exact ⟨hs2.1.trans h.1, fun c hc => (hs2.2 c hc).trans (h.2 c hc)⟩)
    | false =>
      simp only [Bool.false_eq_true, if_false]
      rw [← Array.forIn_toList]
      simp only [List.forIn_cons]
      refine wpAny_bind (wpAny_bind (wpAny_bind (wpAny_holding ?_)))
      exact busy g0 hs0
theorem pyNext_item {z TI TO : Addr} {cs : List (Addr × Addr)} {i : Nat} {xs ws : List Value} {f0 : Value} {b : Bool} {Q : Option Value → Shared → Prop} (S : Sep z TI TO cs) (hn : cs ≠ []) (hl : cs.length ≤ 1000)
    (hf : FOk f0)
    (hz : IsZipF s.heap z TI TO f0 b) (hTI : IsTupN s.heap TI (cs.map fun c => Value.ref c.1)) (hTO : IsTupN s.heap TO ws) (hw : ws.length = cs.length) (hi : Its cs i 0 s.heap) (hx : Lists cs i xs s.heap)
    (hQ : ∀ h' f1 b1 ws', IsZipF h' z TI TO f1 b1 → FOk f1 → IsTupN h' TO ws' → ws'.length = cs.length → Its cs (i + 1) 0 h' → IsTupN h' s.heap.objs.size xs → h'.objs.size = s.heap.objs.size + 1 →
      (∀ c o, c ≠ z → c ≠ TO → c ∉ cs.map (·.1) → s.heap.get? c = some o → h'.get? c = some o) → Q (some (.ref s.heap.objs.size)) { s with heap := h' }) :
    wpAny (model prog w) A (pyNext (.ref z)) Q E s := by
  have hT : s.TypeIs (.ref z) "zip" := ⟨_, hz, rfl⟩
  unfold pyNext
  exact wpAny_bind (wpAny_attempt (wpAny_callSpecial?_slot (name := Str.ofString "__next__") hT F.slot_zip_next
    (wpAny_call_entry F.slot_zip_next hT F.entry_zip_next
      (next_item S hn hl hf hz hTI hTO hw hi hx fun h' f1 b1 ws' a1 a2 a3 a4 a5 a6 a7 a8 => wpAny_pure (hQ h' f1 b1 ws' a1 a2 a3 a4 a5 a6 a7 a8)) (F.args_zip_next_1 _))))
theorem pyNext_end {z TI TO : Addr} {cs : List (Addr × Addr)} {i : Nat} {ws : List Value} {f0 : Value} {b : Bool} {Q : Option Value → Shared → Prop} (hh : A.handled = none) (S : Sep z TI TO cs) (hl : cs.length ≤ 1000)
    (hf : FOk f0) {c0 : Addr × Addr} {its : Array Value} (hc0 : cs[0]? = some c0) (hl0 : s.heap.IsList c0.2 its) (hend : its[i]? = none)
    (hz : IsZipF s.heap z TI TO f0 b) (hTI : IsTupN s.heap TI (cs.map fun c => Value.ref c.1)) (hi : Its cs i 0 s.heap)
    (hQ : ∀ h', (∀ c o, c ≠ z → c ≠ TO → c ∉ cs.map (·.1) → s.heap.get? c = some o → h'.get? c = some o) → Q none { s with heap := h' }) :
    wpAny (model prog w) A (pyNext (.ref z)) Q E s := by
  have hT : s.TypeIs (.ref z) "zip" := ⟨_, hz, rfl⟩
  unfold pyNext
  refine wpAny_bind (wpAny_attempt (wpAny_callSpecial?_slot (name := Str.ofString "__next__") hT F.slot_zip_next
    (wpAny_call_entry F.slot_zip_next hT F.entry_zip_next (next_end (ws := ws) hh S hl hf hc0 hl0 hend hz hTI hi fun h' e hk he => ?_) (F.args_zip_next_1 _))))
  obtain ⟨o, ho, hc⟩ := he
  refine wpAny_bind (wpAny_isInstance (T := "StopIteration") (b := true) ⟨o, ho, hc⟩ isSubtype_stop ?_)
  exact wpAny_pure (hQ _ hk)
theorem pyIter_zipF {z TI TO : Addr} {f0 : Value} {b : Bool} {Q : Value → Shared → Prop} (hz : IsZipF s.heap z TI TO f0 b) (h : Q (.ref z) s) : wpAny (model prog w) A (pyIter (.ref z)) Q E s := by
  have hT : s.TypeIs (.ref z) "zip" := ⟨_, hz, rfl⟩
  refine wpAny_pyIter_slot hT F.slot_zip_iter (wpAny_call_entry F.slot_zip_iter hT F.entry_zip_iter ?_ (F.args_zip_iter_1 _))
  show wpAny _ _ (ret (.ref z)) _ _ s
  exact wpAny_pure ⟨_, rfl, "zip", _, hT, F.slot_zip_next.lookup, h⟩
end
end ZN
namespace ZN
open PySem PySem.Spec PyProof.Rows L2
/-- the lists at the addresses as they stand at each turn, the items in new tuples -/
def Itn (K : PySem.W.Frag) (as : List Addr) : It :=
  ⟨fun i H => ∃ vs : List V, vs.length = as.length ∧ ∀ (k : Nat) (a : Addr) (v : V), as[k]? = some a → vs[k]? = some v → ∃ xs, SqL K H a xs ∧ xs[i]? = some v,
    fun i H v H' => ∃ (T : Addr) (vs : List V), v = .ref T ∧ H T = none ∧ H' = upd H T (.tup vs) ∧ vs.length = as.length ∧ ∀ (k : Nat) (a : Addr) (v : V), as[k]? = some a → vs[k]? = some v → ∀ xs, SqL K H a xs → xs[i]? = some v,
    fun i H => ∃ (a0 : Addr) (xs : List V), as[0]? = some a0 ∧ SqL K H a0 xs ∧ xs.length ≤ i⟩
theorem ne1 {a b : Nat} (h : a < b ∨ b < a) : @Ne Addr a b := fun e => by
  have e2 : a = b := e
  omega
def csOf (sz : Nat) (as : List Addr) : List (Addr × Addr) := as.zipIdx.map fun p => (sz + p.2, p.1)
theorem cs_len (sz : Nat) (as : List Addr) : (csOf sz as).length = as.length := by simp [csOf]
theorem cs_get (sz : Nat) (as : List Addr) (k : Nat) : (csOf sz as)[k]? = (as[k]?).map fun a => (sz + k, a) := by
  unfold csOf
  rw [List.getElem?_map, List.getElem?_zipIdx]
  cases as[k]? <;> simp
theorem cs_mem {sz : Nat} {as : List Addr} {c : Addr × Addr} (h : c ∈ csOf sz as) : @LE.le Nat _ sz c.1 ∧ @LT.lt Nat _ c.1 (sz + as.length) ∧ c.2 ∈ as := by
  obtain ⟨k, hk⟩ := List.getElem?_of_mem h
  rw [cs_get] at hk
  cases e : as[k]? with
  | none => rw [e] at hk; cases hk
  | some a =>
    rw [e] at hk; cases hk
    exact ⟨Nat.le_add_right _ _, Nat.add_lt_add_left (List.getElem?_eq_some_iff.mp e).1 _, List.mem_of_getElem? e⟩
theorem cs_fst (sz : Nat) (as : List Addr) : (csOf sz as).map (·.1) = (List.range as.length).map fun k => sz + k := by
  apply List.ext_getElem?
  intro k
  rw [List.getElem?_map, cs_get, List.getElem?_map]
  by_cases h : k < as.length
  · simp [h]
  · rw [List.getElem?_eq_none (by omega), List.getElem?_eq_none (by simp; omega)]; rfl
theorem cs_nd (sz : Nat) (as : List Addr) : ((csOf sz as).map (·.1)).Nodup := by
  rw [cs_fst]
  exact List.Pairwise.map _ (fun a b h => ne1 (by omega)) List.nodup_range
theorem sep_of {sz z TI TO : Nat} {as : List Addr} (h : ∀ a ∈ as, a < sz) (ez : z = sz + as.length + 2) (e1 : TI = sz + as.length) (e2 : TO = sz + as.length + 1) : Sep z TI TO (csOf sz as) where
  nd := cs_nd sz as
  TIz := ne1 (by omega)
  TOz := ne1 (by omega)
  TITO := ne1 (by omega)
  iz := fun c hc => ne1 (by have := cs_mem hc; omega)
  iTI := fun c hc => ne1 (by have := cs_mem hc; omega)
  iTO := fun c hc => ne1 (by have := cs_mem hc; omega)
  lz := fun c hc => ne1 (by have a1 := cs_mem hc; have a2 : @LT.lt Nat _ c.2 sz := h _ a1.2.2; omega)
  lTO := fun c hc => ne1 (by have a1 := cs_mem hc; have a2 : @LT.lt Nat _ c.2 sz := h _ a1.2.2; omega)
  li := fun c hc d hd => ne1 (by have a1 := cs_mem hc; have a2 : @LT.lt Nat _ c.2 sz := h _ a1.2.2; have a3 := cs_mem hd; omega)
theorem cols {X : Cx} {pins : List (Addr × Obj)} {σ : L2.St} {H : Hp} {s : Shared} (I : Inv X pins σ H s) {i : Nat} : ∀ (as : List Addr) (vs : List V), vs.length = as.length →
    (∀ (k : Nat) (a : Addr) (v : V), as[k]? = some a → vs[k]? = some v → ∃ xs, SqL X.K H a xs ∧ xs[i]? = some v) →
    ∃ us : List Value, Vals vs us ∧ us.length = as.length ∧ ∀ (k : Nat) (a : Addr) (u : Value), as[k]? = some a → us[k]? = some u → ∃ its : Array Value, s.heap.IsList a its ∧ its[i]? = some u
  | [], [], _, _ => ⟨[], .nil, rfl, fun k a u h _ => by cases k <;> cases h⟩
  | [], _ :: _, h, _ => by cases h
  | _ :: _, [], h, _ => by cases h
  | a :: as, v :: vs, h, hx => by
    obtain ⟨us, r, hl, q⟩ := cols I as vs (by simpa using h) fun k a v h1 h2 => hx (k + 1) a v h1 h2
    obtain ⟨xs, hq, hv⟩ := hx 0 a v rfl rfl
    obtain ⟨its, rv, p, _⟩ := I.list hq
    obtain ⟨u, hu, ru⟩ := rv.get hv
    refine ⟨u :: us, .cons ru r, by simp [hl], fun k b w h1 h2 => ?_⟩
    cases k with
    | zero => cases h1; cases h2; exact ⟨its.toArray, p.isList, by simpa using hu⟩
    | succ k => exact q k b w (by simpa using h1) (by simpa using h2)
theorem turn_zipN {P : Program} {w : World} {K : PySem.W.Frag} {x : Str} {tpos : Pos} {as : List Addr} {z TI TO : Addr} {cs : List (Addr × Addr)} (D : Sep z TI TO cs) (hcs : cs.map (·.2) = as) (hn : as ≠ []) (hlen : as.length ≤ 1000) :
    Turn P w K (.Name x tpos) (Itn K as) (z :: TI :: TO :: cs.map (·.1)) z (fun i h => ∃ f0 b ws, IsZipF h z TI TO f0 b ∧ FOk f0 ∧ IsTupN h TI (cs.map fun c => Value.ref c.1) ∧ IsTupN h TO ws ∧ ws.length = cs.length ∧ Its cs i 0 h) where
  mem := List.mem_cons_self ..
  obj := fun i h st c hc => by
    obtain ⟨f0, b, ws, hz, _, hTI, hTO, _, hi⟩ := st
    rcases List.mem_cons.mp hc with q | hc
    · rw [q]; exact ⟨_, hz, fun v q => nomatch q⟩
    rcases List.mem_cons.mp hc with q | hc
    · rw [q]; exact ⟨_, hTI, fun v q => nomatch q⟩
    rcases List.mem_cons.mp hc with q | hc
    · rw [q]; exact ⟨_, hTO, fun v q => nomatch q⟩
    obtain ⟨d, hd, e⟩ := List.mem_map.mp hc
    obtain ⟨k, hk⟩ := List.getElem?_of_mem hd
    obtain ⟨o, e1, _, d1⟩ := hi k d hk
    subst e
    exact ⟨o, e1, fun v q => by rw [d1] at q; cases q⟩
  keep := fun i h h' st k => by
    obtain ⟨f0, b, ws, hz, hf, hTI, hTO, hl, hi⟩ := st
    refine ⟨f0, b, ws, k z (List.mem_cons_self ..) _ hz, hf, k TI (by simp) _ hTI, k TO (by simp) _ hTO, hl, fun j d hj => ?_⟩
    exact (hi j d hj).at fun o q => k d.1 (List.mem_cons_of_mem _ (List.mem_cons_of_mem _ (List.mem_cons_of_mem _ (mem1 hj)))) o q
  item := by
    intro X hP hw hK hc i pins s σ H E I hf st hg
    subst hP hw hK
    obtain ⟨f0, b, ws, hz, hfo, hTI, hTO, hl, hi⟩ := st
    obtain ⟨vs, hvl, hvs⟩ := hg
    obtain ⟨us, rv, hul, hus⟩ := cols I as vs hvl hvs
    have hcl : cs.length = as.length := by rw [← hcs, List.length_map]
    have hne : cs ≠ [] := fun e => hn (by rw [← hcs, e]; rfl)
    have hzl : z < s.heap.objs.size := Heap.lt_size hz
    have hL : Lists cs i us s.heap := ⟨by rw [hul, hcl], fun k c u hk hu => hus k c.2 u (by rw [← hcs, List.getElem?_map, hk]; rfl) hu⟩
    refine pyNext_item D hne (by rw [hcl]; exact hlen) hfo hz hTI hTO hl hi hL fun h' f1 b1 ws' z' hf' TO' hl' hi' hT hsz hk => ?_
    refine ⟨_, rfl, ?_⟩
    show wpAny _ _ (pure ()) _ _ _
    refine wpAny_pure ?_
    have new : ObjOk X.prog X.w (upd H s.heap.objs.size (.tup vs)) h' s.heap.objs.size (.tup vs) :=
      ⟨by show vs.length ≤ sizeLine; rw [hvl]; exact Nat.le_trans hlen (by decide), us, rv, ⟨_, hT, rfl, _, rfl⟩⟩
    have I1 : Inv X pins σ (upd H s.heap.objs.size (.tup vs)) { s with heap := h' } :=
      I.turnedNew (t' := s.toks) (ch := z :: TI :: TO :: cs.map (·.1)) (fun c o hb q => hk c o (fun q' => hb (by simp [q'])) (fun q' => hb (by simp [q'])) (fun q' => hb (List.mem_cons_of_mem _ (List.mem_cons_of_mem _ (List.mem_cons_of_mem _ q')))) q) hf (Nat.le_refl _) new
    refine ⟨.ref s.heap.objs.size, _, I1, rfl, ⟨_, vs, rfl, I.hok.fresh (Nat.le_refl _), rfl, hvl, fun k a v h1 h2 l hq => ?_⟩, ⟨f1, b1, ws', z', hf', ?_, TO', hl', hi'⟩, fun c hcm => ?_⟩
    · obtain ⟨xs, hq2, hx⟩ := hvs k a v h1 h2
      rw [I.list_inj hq hq2]; exact hx
    · exact hk _ _ D.TIz D.TITO (fun q => by
        obtain ⟨d, hd, e⟩ := List.mem_map.mp q
        exact D.iTI d hd e) hTI
    · have hlt : c < s.heap.objs.size := by
        rcases List.mem_cons.mp hcm with q | q
        · rw [q]; exact hzl
        rcases List.mem_cons.mp q with q | q
        · rw [q]; exact Heap.lt_size hTI
        rcases List.mem_cons.mp q with q | q
        · rw [q]; exact Heap.lt_size hTO
        obtain ⟨d, hd, e⟩ := List.mem_map.mp q
        obtain ⟨k, hk⟩ := List.getElem?_of_mem hd
        obtain ⟨o, e1, _⟩ := hi k d hk
        rw [← e]; exact Heap.lt_size e1
      rw [upd_ne (Nat.ne_of_lt hlt)]
      exact (hf c hcm).1
  done := by
    intro X hP hw hK hc i pins s σ H E I hf st hg
    subst hP hw hK
    obtain ⟨f0, b, ws, hz, hfo, hTI, hTO, hl, hi⟩ := st
    obtain ⟨a0, xs, ha, hq, hend⟩ := hg
    obtain ⟨its, rv, p, _⟩ := I.list hq
    have l1 := rv.length
    have hcl : cs.length = as.length := by rw [← hcs, List.length_map]
    have hc0 : ∃ c0, cs[0]? = some c0 ∧ c0.2 = a0 := by
      rw [← hcs, List.getElem?_map] at ha
      cases e : cs[0]? with
      | none => rw [e] at ha; cases ha
      | some c0 => rw [e] at ha; cases ha; exact ⟨c0, rfl, rfl⟩
    obtain ⟨c0, hc1, hc2⟩ := hc0
    subst hc2
    exact pyNext_end (ws := ws) (I.ok.hd hc) D (by rw [hcl]; exact hlen) hfo hc1 p.isList (by simp; omega) hz hTI hi fun h' hk => ⟨rfl, I.turnedL (t' := s.toks) (ch := z :: TI :: TO :: cs.map (·.1)) (fun c o hb q =>
      hk c o (fun q' => hb (by simp [q'])) (fun q' => hb (by simp [q'])) (fun q' => hb (List.mem_cons_of_mem _ (List.mem_cons_of_mem _ (List.mem_cons_of_mem _ q')))) q) hf⟩
  self := fun A i s Q E st h => by
    obtain ⟨f0, b, ws, hz, _⟩ := st
    exact pyIter_zipF hz h
theorem sub_zipT {E : Value → Shared → Prop} {M : Model} {A : Around} {s : Shared} {pos : Pos} {T : String} {t : Sem Value} {Q : Value → Shared → Prop}
    (h : wpAny M A t (fun v s₁ => PySem.W.StarOf M A E v (fun vs s₂ => wpAny M A (call (.type T) vs []) Q E s₂) s₁) E s) :
    wpAny M A (callWith pos (.type T) [] [(true, (do let v ← t; standAt pos; pure v))] []) Q E s := by
  unfold callWith
  refine wpAny_bind (wpAny_holding (wpAny_mono (PySem.W.ks_lone (Q := fun a s₂ => wpAny M A (call (.type T) a.pos a.kw) Q E s₂) h) (fun a s₁ h₁ => wpAny_bind (wpAny_standAt ?_)) fun _ _ x => x))
  simp only [List.any_cons, List.any_nil, Bool.true_or, Bool.or_false]
  refine wpAny_bind (wpAny_pure ?_)
  exact wpAny_bind (wpAny_operating (wpAny_mono (by simpa using h₁) (fun r s₂ hr => wpAny_bind (wpAny_holding (wpAny_point (wpAny_pure hr)))) fun _ _ x => x))
def iZipS (K : PySem.W.Frag) (te : TE) : TI := fun σ H R => te σ H fun v H1 => ∃ (b : Addr) (as : List Addr), v = .ref b ∧ SqL K H1 b (as.map V.ref) ∧ as ≠ [] ∧ as.length ≤ 1000 ∧ (∀ a ∈ as, ∃ xs, SqL K H1 a xs) ∧ R (Itn K as) H1
theorem vals_refs : ∀ {as : List Addr} {us : List Value}, Vals (as.map V.ref) us → us = as.map Value.ref
  | [], _, .nil => rfl
  | a :: as, _, .cons r rr => by
    rw [vals_refs rr]
    cases r
    rfl
theorem pi_zipS {X : Cx} {e : Expr} {te : TE} {p sp pos tpos : Pos} {x : Str} (hg : Gl X "zip") (hm : X.mg "zip" = none) (he : PE X e te)
    (hs : starEach [.Starred e sp] X.env = [(true, eval e X.env)] := by rfl) :
    PI X (.Name x tpos) (.Call (.Name "zip" p) [.Starred e sp] [] pos) (iZipS X.K te) := by
  refine ⟨fun pins s σ H R I h => ?_⟩
  refine Call_ (ld_blt I hg hm PyProof.Rows.boot_zip ?_)
  rw [hs]
  refine sub_zipT (thn (he.run pins s σ H _ I h) fun v s1 ⟨y, H1, I1, r1, b, as, ey, hq, hn, hlen, hall, q⟩ => ?_)
  subst ey
  obtain rfl : v = Value.ref b := r1
  refine StX.star_any I1 (.inr hq) fun us s2 I2 rv => ?_
  obtain rfl := vals_refs rv
  have hls : ∀ a ∈ as, ∃ xs : Array Value, s2.heap.IsList a xs ∧ a < s2.heap.objs.size := fun a ha => by
    obtain ⟨xs, hx⟩ := hall a ha
    obtain ⟨its, _, pl, _⟩ := I2.list hx
    exact ⟨_, pl.isList, pl.lt⟩
  have hch : ∃ ls : List (Addr × Array Value), ls.map (·.1) = as ∧ ∀ p ∈ ls, s2.heap.IsList p.1 p.2 := by
    clear q rv hq hn hlen I1 hall
    induction as with
    | nil => exact ⟨[], rfl, fun p h => nomatch h⟩
    | cons a r ih =>
      obtain ⟨ls, e, hl⟩ := ih fun b hb => hls b (List.mem_cons_of_mem _ hb)
      obtain ⟨xs, hx, _⟩ := hls a (List.mem_cons_self ..)
      exact ⟨(a, xs) :: ls, by rw [List.map_cons, e], fun p hp => by
        rcases List.mem_cons.mp hp with q | q
        · rw [q]; exact hx
        · exact hl p q⟩
  obtain ⟨ls, els, hl⟩ := hch
  have elen : ls.length = as.length := by rw [← els, List.length_map]
  have e1 : as.map Value.ref = ls.map fun p => Value.ref p.1 := by rw [← els, List.map_map]; rfl
  rw [e1]
  refine call_zip_n (by intro e; rw [e] at els; exact hn els.symm) (by rw [elen]; exact hlen) hl fun h' hz hTI hTO hi hsz hk => ?_
  rw [elen] at hz hTI hTO hsz ⊢
  refine pyIter_zipF hz ?_
  have I3 : Inv X pins σ H1 { s2 with heap := h' } := I2.kept (t' := s2.toks) hk
  have hlt : ∀ a ∈ as, a < s2.heap.objs.size := fun a ha => let ⟨_, _, h⟩ := hls a ha; h
  have hsnd : (csOf s2.heap.objs.size as).map (·.2) = as := by
    apply List.ext_getElem?
    intro k
    rw [List.getElem?_map, cs_get]
    cases as[k]? <;> rfl
  refine ⟨_, _, _, _, H1, rfl, I3, turn_zipN (sep_of hlt rfl rfl rfl) hsnd hn hlen, ⟨.none, false, _, hz, .inl rfl, ?_, hTO, by simp [cs_len], fun k c hc => ?_⟩, fun c hcm => ?_, q⟩
  · have e2 : (csOf s2.heap.objs.size as).map (fun c => Value.ref c.1) = (List.range as.length).map fun k => Value.ref (s2.heap.objs.size + k) := by
      have := congrArg (List.map Value.ref) (cs_fst s2.heap.objs.size as)
      simpa [List.map_map, Function.comp_def] using this
    rw [e2]; exact hTI
  · rw [cs_get] at hc
    cases e : as[k]? with
    | none => rw [e] at hc; cases hc
    | some a =>
      rw [e] at hc; cases hc
      rw [← els, List.getElem?_map] at e
      cases e2 : ls[k]? with
      | none => rw [e2] at e; cases e
      | some p => rw [e2] at e; cases e; rw [if_neg (Nat.not_lt_zero _)]; exact hi k p e2
  · have hle : s2.heap.objs.size ≤ c := by
      rcases List.mem_cons.mp hcm with q | q
      · rw [q, Nat.add_assoc]; exact Nat.le_add_right _ _
      rcases List.mem_cons.mp q with q | q
      · rw [q]; exact Nat.le_add_right _ _
      rcases List.mem_cons.mp q with q | q
      · rw [q, Nat.add_assoc]; exact Nat.le_add_right _ _
      obtain ⟨d, hd, e⟩ := List.mem_map.mp q
      rw [← e]; exact (cs_mem hd).1
    exact I2.fpOk hle (I2.hok.fresh hle)
end ZN
namespace DL
open PySem PySem.Spec PyProof.Rows L2 ZN
variable [Tabs]
/-! zip(*rows), rows of one length: the columns as tuples -/
def rowsL : List D → Option (List (List D))
  | [] => some []
  | .list r :: ds => (rowsL ds).map (r :: ·)
  | _ :: _ => none
def colsL (rs : List (List D)) (m : Nat) : List D := (List.range m).map fun i => .tuple (rs.map fun r => r.getD i .none)
def zipSL : List (List D) → R (List D)
  | r0 :: rest => if rest.all (fun r => r.length == r0.length) && decide (rest.length < 1000) then .ok (colsL (r0 :: rest) r0.length) else .no
  | [] => .no
def zipSD : D → R (List D)
  | .list ds => match rowsL ds with
    | some rs => zipSL rs
    | none => .no
  | _ => .no
def zipSR (f : En → R D) : En → R (List D) := fun env => (f env).bind zipSD
section
variable {K : PySem.W.Frag} {F H : Hp}
theorem rows_dp : ∀ {ds : List D} {vs : List V} {rs : List (List D)}, DpAll K F vs ds → rowsL ds = some rs → ∃ as : List Addr, vs = as.map V.ref ∧ as.length = rs.length ∧
    ∀ (k : Nat) (a : Addr), as[k]? = some a → ∃ r xs, rs[k]? = some r ∧ SqL K F a xs ∧ DpAll K F xs r
  | [], vs, rs, h, e => by
    cases h; cases e
    exact ⟨[], rfl, rfl, fun k a z => by cases k <;> cases z⟩
  | d :: ds, vs, rs, h, e => by
    cases h with
    | cons h1 h2 =>
      cases h1 with
      | lst q1 q2 =>
        unfold rowsL at e
        cases er : rowsL ds with
        | none => rw [er] at e; cases e
        | some rr =>
          rw [er] at e; cases e
          obtain ⟨as, e1, e2, e3⟩ := rows_dp h2 er
          subst e1
          exact ⟨_ :: as, rfl, by simp [e2], fun k a z => by
            cases k with
            | zero => cases z; exact ⟨_, _, rfl, q1, q2⟩
            | succ k => exact e3 k a z⟩
      | _ => unfold rowsL at e; cases e
theorem itn_ok {G : Hp} {as : List Addr} {rs : List (List D)} {m : Nat} (hl : as.length = rs.length) (h0 : rs ≠ []) (hr : ∀ r ∈ rs, r.length = m)
    (h : ∀ (k : Nat) (a : Addr), as[k]? = some a → ∃ r xs, rs[k]? = some r ∧ SqL K G a xs ∧ DpAll K F xs r) : ItOk K G (Itn K as) F (colsL rs m) := by
  have hlen : (colsL rs m).length = m := by simp [colsL]
  refine ⟨fun i H s hi => ?_, fun i H s hi => ?_, fun i H Fc x H' s sf sh hi y => ?_⟩
  · rw [hlen] at hi
    have : ∀ (as : List Addr) (rs : List (List D)), as.length = rs.length → (∀ r ∈ rs, r.length = m) → (∀ (k : Nat) (a : Addr), as[k]? = some a → ∃ r xs, rs[k]? = some r ∧ SqL K G a xs ∧ DpAll K F xs r) →
        ∃ vs : List V, vs.length = as.length ∧ ∀ (k : Nat) (a : Addr) (v : V), as[k]? = some a → vs[k]? = some v → ∃ xs, SqL K H a xs ∧ xs[i]? = some v := by
      intro as
      induction as with
      | nil => exact fun rs _ _ _ => ⟨[], rfl, fun k a v z => by cases k <;> cases z⟩
      | cons a as ih =>
        intro rs hl hr h
        cases rs with
        | nil => cases hl
        | cons r rs =>
          obtain ⟨vs, e1, e2⟩ := ih rs (by simpa using hl) (fun r hr2 => hr r (List.mem_cons_of_mem _ hr2)) fun k b z => h (k + 1) b z
          obtain ⟨r', xs, e3, e4, e5⟩ := h 0 a rfl
          cases e3
          have hv : i < xs.length := by rw [e5.len, hr r (List.mem_cons_self ..)]; exact hi
          refine ⟨xs[i] :: vs, by simp [e1], fun k b v z1 z2 => ?_⟩
          cases k with
          | zero => cases z1; cases z2; exact ⟨xs, s.seq e4, List.getElem?_eq_getElem hv⟩
          | succ k => exact e2 k b v z1 z2
    exact this as rs hl hr h
  · rw [hlen] at hi
    cases rs with
    | nil => exact absurd rfl h0
    | cons r rs =>
      cases as with
      | nil => cases hl
      | cons a as =>
        obtain ⟨r', xs, e3, e4, e5⟩ := h 0 a rfl
        cases e3
        exact ⟨a, xs, rfl, s.seq e4, by rw [e5.len, hr r (List.mem_cons_self ..)]; exact hi⟩
  · rw [hlen] at hi
    obtain ⟨T, vs, rfl, n, rfl, y1, y2⟩ := y
    have hall : ∀ (as : List Addr) (vs : List V) (rs : List (List D)), as.length = rs.length → vs.length = as.length → (∀ r ∈ rs, r.length = m) → (∀ (k : Nat) (a : Addr), as[k]? = some a → ∃ r xs, rs[k]? = some r ∧ SqL K G a xs ∧ DpAll K F xs r) →
        (∀ (k : Nat) (a : Addr) (v : V), as[k]? = some a → vs[k]? = some v → ∀ xs, SqL K H a xs → xs[i]? = some v) → DpAll K Fc vs (rs.map fun r => r.getD i .none) := by
      intro as
      induction as with
      | nil =>
        intro vs rs h1 h2 _ _ _
        cases rs with
        | nil => cases vs with
          | nil => exact .nil
          | cons _ _ => cases h2
        | cons _ _ => cases h1
      | cons a as ih =>
        intro vs rs h1 h2 hr h y2
        cases rs with
        | nil => cases h1
        | cons r rs =>
          cases vs with
          | nil => cases h2
          | cons v vs =>
            obtain ⟨r', xs, e3, e4, e5⟩ := h 0 a rfl
            cases e3
            have hv := y2 0 a v rfl rfl xs (s.seq e4)
            obtain ⟨d, e6, e7⟩ := e5.get hv
            have ed : r.getD i .none = d := by simp [e6]
            rw [List.map_cons, ed]
            exact .cons (Dp.mono sf _ _ e7) (ih vs rs (by simpa using h1) (by simpa using h2) (fun r hr2 => hr r (List.mem_cons_of_mem _ hr2)) (fun k b z => h (k + 1) b z) fun k b v z1 z2 => y2 (k + 1) b v z1 z2)
    have hd := hall as vs rs hl y1 hr h y2
    exact ⟨_, _, by simp [colsL, hi], After.new sh n, .tup (SqT.of upd_same) (DpAll.mono (After.new sh n).ff _ _ hd)⟩
end
section
variable {X : Cx} {W : WX} {pos p sp tpos : Pos} {a : Expr} {fa : En → R D} {x : Str}
theorem di_zipS (hg : Gl X "zip") (hm : X.mg "zip" = none) (ha : DE X W .f a fa) (hs : starEach [.Starred a sp] X.env = [(true, eval a X.env)] := by rfl) :
    DI X (.Name x tpos) W true (.Call (.Name "zip" p) [.Starred a sp] [] pos) (zipSR fa) :=
  (pi_zipS hg hm ha hs).wk fun σ H Q ⟨B, F, env, r, p⟩ => tD.bindI (m1 := .f) r p fun v H1 F1 d a1 r1 q1 p1 => by
    unfold zipSD at p1
    cases d with
    | list ds =>
      dsimp only at p1
      cases e : rowsL ds with
      | none => rw [e] at p1; exact p1.elim
      | some rs =>
        rw [e] at p1
        dsimp only at p1
        cases rs with
        | nil => exact p1.elim
        | cons r0 rest =>
          unfold zipSL at p1
          dsimp only at p1
          by_cases hc : (rest.all (fun r => r.length == r0.length) && decide (rest.length < 1000)) = true
          · rw [if_pos hc] at p1
            obtain ⟨c1, c2⟩ := Bool.and_eq_true_iff.mp hc
            have c3 : ∀ r ∈ r0 :: rest, r.length = r0.length := fun r hr => by
              rcases List.mem_cons.mp hr with z | z
              · rw [z]
              · exact by simpa using List.all_eq_true.mp c1 r z
            have c4 : rest.length < 1000 := of_decide_eq_true c2
            cases q1 with
            | lst h1 h2 =>
              obtain ⟨as, e1, e2, e3⟩ := rows_dp h2 e
              subst e1
              refine ⟨_, as, rfl, r1.fh.seq h1, ?_, ?_, ?_, p1 _ _ _ (After.refl r1.fh) (itn_ok e2 (by simp) c3 e3)⟩
              · intro z; rw [z] at e2; cases e2
              · rw [e2, List.length_cons]; omega
              · intro b hb
                obtain ⟨k, hk⟩ := List.getElem?_of_mem hb
                obtain ⟨r, xs, _, h, _⟩ := e3 k b hk
                exact ⟨xs, r1.fh.seq h⟩
          · rw [if_neg hc] at p1; exact p1.elim
    | _ => exact p1.elim
end
@[simp] theorem e_zipSR {fa : En → R D} {env : En} : zipSR fa env = (fa env).bind zipSD := rfl
theorem rowsL_map {α : Type} (f : α → List D) (xs : List α) : rowsL (xs.map fun x => .list (f x)) = some (xs.map f) := by
  induction xs with
  | nil => rfl
  | cons a r ih => rw [List.map_cons, rowsL, ih]; rfl
end DL
namespace DL
open PySem PySem.Spec PyProof.Rows L2
variable [Tabs]
/-! f(..).append(e): the list is new, nobody sees it afterwards -/
def apE (fo f2 : En → R S) : En → SR := fun env => (fo env).st env fun s => match s with
  | .ow ss => (f2 env).st env fun _ => if ss.length < 1000000 then .nx env else .no
  | _ => .no
section
variable {X : Cx} {W : WX} {pos : Pos} {x e : Expr} {fo f2 : En → R S}
theorem ds_appendE {ap cp : Pos} (hx : DO X W x fo) (he : DO X W e f2) (hss : starEach [e] X.env = (false, eval e X.env) :: starEach [] X.env := by rfl)
    (hbase : attributeBase x "append" X.env (eval x X.env) = eval x X.env := by rfl)
    (hfew : ((backTo cp (starEach [e] X.env)).all (fun x => !x.1) && (backToKw cp (keywordEach [] X.env)).all (fun x => x.1.isSome)
      && decide ([e].length + ([] : List Keyword).length + (if ([] : List Keyword).isEmpty then 0 else 1) < 30)) = true := by rfl)
    (hline : (ap.endLine == cp.line) = true := by rfl) (hplain : (backTo cp (starEach [] X.env)).any (·.1) = false := by rfl)
    (hs : swapsWith (.Call (.Attribute x "append" ap) [e] [] cp) none pos.line X.env = pure false := by rfl) :
    DS X W (.Expr (.Call (.Attribute x "append" ap) [e] [] cp) pos) (apE fo f2) :=
  (ps_expr (pe_bm F.plainAttrs_list F.slot_list_append F.type_list_append mt_append hx (pa_cons he pa_nil hss) hbase hfew hline hss hplain) hs).wk fun D σ H ⟨B, F, env, r, p⟩ => by
    unfold apE at p
    refine tO.st r p fun v H1 F1 s as a r1 o n fr p1 => ?_
    cases s with
    | fr d => exact p1.elim
    | tu ss => exact p1.elim
    | ow ss =>
      cases o with
      | ow h1 h2 h3 =>
        rename_i a0 vs bs
        have ha0 : H a0 = none := fr a0 (List.mem_cons_self ..)
        refine ⟨tyV_lst h2, ?_⟩
        refine tO.st r1 p1 fun u H2 F2 t cs b r2 o2 n2 fr2 p2 => ?_
        obtain ⟨k1, k2⟩ := b.keepO ⟨h1, _, h2, rfl⟩
        have hl := h3.len
        split at p2
        · rename_i hlt
          refine ⟨a0, vs, u, rfl, rfl, k2.trans h2, by have := million; omega, ?_⟩
          have nB : B a0 = none := r.bh.free ha0
          have sF : Same F2 (upd H2 a0 (.lst (vs ++ [u]))) := r2.fh.updR _ _ k1
          have sB := r2.bh.updR a0 (.lst (vs ++ [u])) nB
          obtain ⟨ds, q1, q2, q3⟩ := r.sl
          have q4 := (q1.mono a.ff (F' := F1) (H' := H1) fun c hc => a.keepO (q1.at c hc))
          have q5 := (q4.mono b.ff (F' := F2) (H' := H2) fun c hc => b.keepO (q4.at c hc))
          have q6 := q5.mono (Same.refl F2) (H' := upd H2 a0 (.lst (vs ++ [u]))) fun c hc => by
            refine ⟨(q5.at c hc).1, upd_ne fun z => ?_⟩
            obtain ⟨_, o, e, _⟩ := q1.at c hc
            rw [z, ha0] at e; cases e
          exact p2 σ _ F2 AfterS.refl ⟨sB, sF, ds, q6, q2, q3⟩
        · exact p2.elim
end
@[simp] theorem e_apE {fo f2 : En → R S} {env : En} : apE fo f2 env = (fo env).st env fun s => match s with
  | .ow ss => (f2 env).st env fun _ => if ss.length < 1000000 then .nx env else .no
  | _ => .no := rfl
end DL
namespace DL
open PySem PySem.Spec PyProof.Rows L2
/-! a slot's own list is lent while an expression is worked out: what comes out holds no list -/
mutual
def noL : D → Bool
  | .none | .bool _ | .int _ | .str _ => true
  | .tuple ds => noLs ds
  | _ => false
def noLs : List D → Bool
  | [] => true
  | d :: ds => noL d && noLs ds
end
theorem SqT.less {K : PySem.W.Frag} {F F0 H : Hp} {a : Addr} {xs : List V} (f : Same F H) (hf : ∀ a, F0 a = F a ∨ ∃ vs, H a = some (.lst vs)) (h : SqT K F a xs) : SqT K F0 a xs := by
  rcases h with (h | ⟨o, h⟩) | h
  · refine .inl (.inl ?_)
    rcases hf a with e | ⟨vs, e⟩
    · rw [e]; exact h
    · have := f a _ h; rw [e] at this; cases this
  · refine .inl (.inr ⟨o, ?_⟩)
    rcases hf a with e | ⟨vs, e⟩
    · rw [e]; exact h
    · have := f a _ h; rw [e] at this; cases this
  · exact .inr h
mutual
theorem Dp.less {K : PySem.W.Frag} {F F0 H : Hp} (f : Same F H) (hf : ∀ a, F0 a = F a ∨ ∃ vs, H a = some (.lst vs)) : ∀ (d : D) (v : V), noL d = true → Dp K F v d → Dp K F0 v d
  | .none, _, _, .non => .non
  | .bool _, _, _, .bl b => .bl b
  | .int _, _, _, .int i => .int i
  | .str _, _, _, .str x => .str x
  | .tuple ds, _, n, .tup h1 h2 => .tup (SqT.less f hf h1) (DpAll.less f hf ds _ n h2)
  | .list _, _, n, _ => by cases n
  | .dict _, _, n, _ => by cases n
theorem DpAll.less {K : PySem.W.Frag} {F F0 H : Hp} (f : Same F H) (hf : ∀ a, F0 a = F a ∨ ∃ vs, H a = some (.lst vs)) : ∀ (ds : List D) (vs : List V), noLs ds = true → DpAll K F vs ds → DpAll K F0 vs ds
  | [], _, _, .nil => .nil
  | d :: ds, _, n, .cons h1 h2 => by
    have n : (noL d && noLs ds) = true := n
    rw [Bool.and_eq_true] at n
    exact .cons (Dp.less f hf d _ n.1 h1) (DpAll.less f hf ds _ n.2 h2)
end
theorem OwAll.nth' {K : PySem.W.Frag} {F H : Hp} : ∀ {vs : List V} {ss : List S} {as : List Addr} {n : Nat} {s : S}, OwAll K F H vs ss as → ss[n]? = some s → ∃ v bs, vs[n]? = some v ∧ Ow K F H v s bs ∧ ∀ b ∈ bs, b ∈ as
  | _, _, _, _, _, .nil, e => by simp at e
  | _, _, _, 0, _, .cons a t, e => by
    simp at e; subst e
    exact ⟨_, _, rfl, a, fun b hb => List.mem_append_left _ hb⟩
  | _, _, _, n + 1, _, .cons a t, e => by
    obtain ⟨v, bs, h1, h2, h3⟩ := OwAll.nth' (n := n) t (by simpa using e)
    exact ⟨v, bs, by simpa using h1, h2, fun b hb => List.mem_append_right _ (h3 b hb)⟩
theorem Ow.to' {K : PySem.W.Frag} {F H : Hp} : ∀ {p : List Nat} {s t : S} {v : V} {as : List Addr}, Ow K F H v s as → getS s p = some t → ∃ w bs, To H v p w ∧ Ow K F H w t bs ∧ ∀ b ∈ bs, b ∈ as
  | [], s, t, v, as, h, g => by
    simp [getS] at g
    subst g
    exact ⟨v, as, rfl, h, fun b hb => hb⟩
  | n :: p, s, t, v, as, h, g => by
    cases h with
    | fr _ => simp [getS] at g
    | @ow a vs ss cs x y z =>
      unfold getS at g
      cases e : ss[n]? with
      | none => rw [e] at g; cases g
      | some s =>
        rw [e] at g
        obtain ⟨v1, bs1, k1, k2, k3⟩ := z.nth' e
        obtain ⟨w, bs, q1, q2, q3⟩ := Ow.to' k2 g
        exact ⟨w, bs, ⟨a, vs, v1, rfl, .inl y, k1, q1⟩, q2, fun b hb => List.mem_cons_of_mem _ (k3 b (q3 b hb))⟩
    | @tu a vs ss cs x y z =>
      unfold getS at g
      cases e : ss[n]? with
      | none => rw [e] at g; cases g
      | some s =>
        rw [e] at g
        obtain ⟨v1, bs1, k1, k2, k3⟩ := z.nth' e
        obtain ⟨w, bs, q1, q2, q3⟩ := Ow.to' k2 g
        exact ⟨w, bs, ⟨a, vs, v1, rfl, .inr y, k1, q1⟩, q2, fun b hb => List.mem_cons_of_mem _ (k3 b (q3 b hb))⟩
mutual
/-- all cells of an own value are lists (no own tuples) -/
def noT : S → Bool
  | .fr _ => true
  | .ow ss => noTs ss
  | .tu _ => false
def noTs : List S → Bool
  | [] => true
  | s :: ss => noT s && noTs ss
end
mutual
theorem Ow.lists {K : PySem.W.Frag} {F H : Hp} : ∀ (s : S) (v : V) (as : List Addr), Ow K F H v s as → noT s = true → ∀ a ∈ as, ∃ vs, H a = some (.lst vs)
  | .fr _, _, _, .fr _, _ => fun a h => nomatch h
  | .ow ss, _, _, .ow h1 h2 h3, n => fun a h => by
    rcases List.mem_cons.mp h with e | e
    · rw [e]; exact ⟨_, h2⟩
    · exact OwAll.lists ss _ _ h3 n a e
  | .tu _, _, _, _, n => by cases n
theorem OwAll.lists {K : PySem.W.Frag} {F H : Hp} : ∀ (ss : List S) (vs : List V) (as : List Addr), OwAll K F H vs ss as → noTs ss = true → ∀ a ∈ as, ∃ vs, H a = some (.lst vs)
  | [], _, _, .nil, _ => fun a h => nomatch h
  | s :: ss, _, _, .cons h1 h2, n => fun a h => by
    have n : (noT s && noTs ss) = true := n
    rw [Bool.and_eq_true] at n
    rcases List.mem_append.mp h with e | e
    · exact Ow.lists s _ _ h1 n.1 a e
    · exact OwAll.lists ss _ _ h2 n.2 a e
end
/-- behind an expression that was worked out with the cells bs frozen -/
theorem After.back {F G H F' H' : Hp} {bs : List Addr} (hF : ∀ a ∈ bs, F a = none) (hG : ∀ a, G a = if a ∈ bs then H a else F a) (x : After G H F' H') : After F H (fun a => if a ∈ bs then none else F' a) H' where
  ff := ⟨fun a o e hn => by
    have hb : a ∉ bs := fun z => by rw [hF a z] at e; cases e
    show (if a ∈ bs then none else F' a) = some o
    rw [if_neg hb]
    refine x.ff.k a o ?_ hn
    rw [hG, if_neg hb]; exact e, fun a ps e => by
    have hb : a ∉ bs := fun z => by rw [hF a z] at e; cases e
    obtain ⟨m, h1, h2⟩ := x.ff.t a ps (by rw [hG, if_neg hb]; exact e)
    exact ⟨m, (if_neg hb).trans h1, h2⟩⟩
  fh := ⟨fun a o e hn => by
    have e : (if a ∈ bs then none else F' a) = some o := e
    split at e
    · cases e
    · exact x.fh.k a o e hn, fun a ps e => by
    have e : (if a ∈ bs then none else F' a) = some (.tbl ps) := e
    split at e
    · cases e
    · exact x.fh.t a ps e⟩
  hh := x.hh
  nw := fun a o e n => by
    have e : (if a ∈ bs then none else F' a) = some o := e
    split at e
    · cases e
    · rename_i hb
      exact x.nw a o e (by rw [hG, if_neg hb]; exact n)
/-- the result of such an expression -/
theorem lend_back {K : PySem.W.Frag} {F G H F' H' : Hp} {bs : List Addr} {v : V} {d : D} (hF : ∀ a ∈ bs, F a = none) (hl : ∀ a ∈ bs, ∃ vs, H a = some (.lst vs)) (hG : ∀ a, G a = if a ∈ bs then H a else F a) (x : After G H F' H') (hd : Dp K F' v d) (hn : noL d = true) :
    ∃ F0, After F H F0 H' ∧ Dp K F0 v d := by
  refine ⟨_, After.back hF hG x, Dp.less x.fh (fun a => ?_) d v hn hd⟩
  by_cases hb : a ∈ bs
  · right
    obtain ⟨vs, e⟩ := hl a hb
    exact ⟨vs, x.hh a _ e⟩
  · left; show (if a ∈ bs then none else F' a) = F' a
    rw [if_neg hb]
end DL
namespace DL
open PySem PySem.Spec PyProof.Rows L2
variable [Tabs]
/-- the slot i is lent to an expression -/
def lnR (i : Nat) (f : En → R D) : En → R D := fun env => match env[i]? with
  | some (some (.v s)) => if noT s = true then (f (env.set i (some (.v (.fr s.toD))))).bind fun d => if noL d = true then .ok d else .no else .no
  | _ => .no
theorem Rel.lend {K : PySem.W.Frag} {B F H : Hp} {env : En} {σ : L2.St} {i : Nat} {s : S} (r : Rel K B F H env σ) (e : env[i]? = some (some (.v s))) (hs : noT s = true) :
    ∃ (G : Hp) (bs : List Addr), Rel K B G H (env.set i (some (.v (.fr s.toD)))) σ ∧ (∀ a ∈ bs, F a = none) ∧ (∀ a ∈ bs, ∃ vs, H a = some (.lst vs)) ∧ ∀ a, G a = if a ∈ bs then H a else F a := by
  obtain ⟨as, h1, h2, h3⟩ := r.sl
  obtain ⟨v, bs, q1, q2, q3⟩ := h1.get e
  obtain ⟨cs, ds, w1, w2, w3, w4, w5, w6⟩ := h1.share h2 e q1 q2
  cases w2 with
  | v o =>
    refine ⟨fun a => if a ∈ ds then H a else F a, ds, ?_, fun a ha => (o.at _ _ _ a ha).1, o.lists _ _ _ hs, fun a => rfl⟩
    have hF : ∀ a o, F a = some o → a ∉ ds := fun a u e z => by
      have := (o.at _ _ _ a z).1
      rw [e] at this; cases this
    have gF : Same F (fun a => if a ∈ ds then H a else F a) := .mixF fun a z => (o.at _ _ _ a z).1
    have gH : Same (fun a => if a ∈ ds then H a else F a) H := .mixH r.fh
    refine ⟨r.bh, gH, cs, OwEn.put (Ow.dp gF _ _ _ o fun a ha => if_pos ha) (w1.mono gF fun a ha => ⟨?_, rfl⟩) q1, w3, fun a ha => h3 a (w4 a ha)⟩
    show (if a ∈ ds then H a else F a) = none
    rw [if_neg fun z => w6 a z ha]
    exact (w1.at a ha).1
section
variable {X : Cx} {W : WX} {m : Md} {e : Expr} {f : En → R D}
theorem de_lend (i : Nat) (h : DE X W .f e f) : DE X W .f e (lnR i f) := h.wk fun σ H Q ⟨B, F, env, r, p⟩ => by
  unfold lnR at p
  split at p
  · rename_i s ee
    split at p
    · rename_i hs
      obtain ⟨G, bs, r2, b1, b2, b3⟩ := r.lend ee hs
      refine ⟨B, G, _, r2, ?_⟩
      cases ef : f (env.set i (some (.v (.fr s.toD)))) with
      | no => rw [ef] at p; exact p
      | er c => rw [ef] at p; exact fun H' F' a => p H' _ (After.back b1 b3 a)
      | ok d =>
        rw [ef] at p
        have p : PoE X.K (ecOf X.mg) W .f F H σ Q (if noL d = true then .ok d else .no) := p
        split at p
        · rename_i hn
          intro v H' F' a hv
          obtain ⟨F0, a0, hd⟩ := lend_back b1 b2 b3 a hv hn
          exact p v H' F0 a0 hd
        · exact p.elim
    · exact p.elim
  · exact p.elim
/-- y = R; y[j] = e, e may read y -/
def alR (i r : Nat) (fp : En → R (List Nat)) (fe : En → R D) (fi : En → R D) : En → SR := fun env => (fp env).st env fun p => match env[i]? with
  | some (some (.v s)) => if r = i ∨ env.length ≤ r then .no else match getS s p with
    | some (.ow ts) => if noTs ts = true then (fe ((env.set i none).set r (some (.v (.fr (S.ow ts).toD))))).st (env.set r none) fun d => if noL d = true then putS i (env.set r none) s p ts (.fr d) fi else .no else .no
    | _ => .no
  | _ => .no
theorem OwEn.hide {K : PySem.W.Frag} {F H : Hp} {v : V} {s : Sl} {bs : List Addr} {σ : L2.St} {env : En} {as : List Addr} {i : Nat} (h1 : OwEn K F H σ env as) (h2 : as.Nodup) (e : env[i]? = some (some s)) (q : σ[i]? = some (some v)) (o : OwS K F H v s bs) :
    ∃ cs ds, OwEn K F H σ (env.set i none) cs ∧ OwS K F H v s ds ∧ cs.Nodup ∧ (∀ b ∈ cs, b ∈ as) ∧ (∀ b ∈ ds, b ∈ as) ∧ ∀ b ∈ ds, b ∉ cs := h1.share h2 e q o
variable {sts : List Stmt} {U : En → SR} {ei : Expr} {fe fi : En → R D} {fp : En → R (List Nat)} {pos pos' : Pos}
theorem dss_aliasR {x : Expr} {y : Str} {py py2 sp : Pos} {i : Nat} (r : Nat) (nd : X.N.Nodup) (hx : DRef X W x i fp) (he : DE X W .f e fe) (hi : DE X W .h ei fi) (hr : X.N[r]? = some y := by rfl) (hy : Loc X.env.scope y := by first | exact Or.inl rfl | exact Or.inr rfl)
    (hv : Vis X.env.scope y := by first | exact Or.inl rfl | exact Or.inr (Or.inl rfl) | exact Or.inr (Or.inr rfl)) (hd : (y == ("__debug__" : Str)) = false := by decide) (hcd : (y == ("__classdict__" : Str)) = false := by decide)
    (hs0 : swapsWith x (some (.Name y py)) pos.line X.env = pure false := by rfl) (hf : X.fn y = true ∨ X.env.scope.names.lookup y = some .local := by first | exact Or.inl rfl | exact Or.inr rfl)
    (ha : ∀ v, assign (.Subscript (.Name y py2) ei sp) X.env v = (do
      let ov ← holding [v] (eval (.Name y py2) X.env)
      let iv ← holding [v, ov] (eval ei X.env)
      standAt sp
      holding [v, ov, iv] (setItem ov iv v)
      release [v, ov, iv] []) := by intro _; rfl)
    (hs : swapsWithSole [.Subscript (.Name y py2) ei sp] e pos'.line X.env = pure false := by rfl) (hw : swappedStores [.Subscript (.Name y py2) ei sp] e X.env = pure none := by rfl)
    (h1 : (assignEach [.Subscript (.Name y py2) ei sp] X.env).map (·.2) = [assign (.Subscript (.Name y py2) ei sp) X.env] := by rfl)
    (h2 : DSs X W sts U) :
    DSs X W (.Assign [.Name y py] x pos :: .Assign [.Subscript (.Name y py2) ei sp] e pos' :: sts) (sqS (alR i r fp fe fi) U) :=
  (pss_cons (ps_set nd hr hy hx.1 hs0 hf) (pss_cons (ps_asg he (pg_sub (pe_var hr hv hd hcd) hi set_list ha) hs hw h1) h2)).wk fun D σ H ⟨B, F, env, rl, p⟩ => by
    replace p := PoS.part p
    refine ⟨B, F, env, rl, ?_⟩
    unfold alR at p
    cases e1 : fp env with
    | no => rw [e1] at p; exact p.elim
    | er c => rw [e1] at p; exact fun H1 F1 a1 => p σ H1 F1 (a1.toS rl.bh) (rl.after a1)
    | ok q =>
      rw [e1] at p
      obtain ⟨s0, t0, ee, eg⟩ := hx.2 env q e1
      rw [R.st_ok, ee] at p
      dsimp only at p
      intro v w H1 F1 a1 hv1 hto
      by_cases hri : r = i ∨ env.length ≤ r
      · rw [if_pos hri] at p; exact p.elim
      rw [if_neg hri] at p
      have hne : r ≠ i := fun z => hri (.inl z)
      rw [eg] at p
      cases t0 with
      | fr d => exact p.elim
      | tu ts => exact p.elim
      | ow ts =>
        dsimp only at p
        by_cases hnt : noTs ts = true
        · rw [if_pos hnt] at p
          have ep : getP s0 q = some ts := getS_getP eg
          have rF := rl.after a1
          have r1 : Rel X.K B F1 H1 (env.set r none) (σ.set r (some w)) := rF.drop
          have hlen : r < σ.length := by
            obtain ⟨as, h1, _⟩ := rl.sl
            rw [h1.len]
            exact Nat.lt_of_not_le fun z => hri (.inr z)
          have hw1 : (σ.set r (some w))[r]? = some (some w) := by rw [List.getElem?_set_self hlen]
          have hv2 : (σ.set r (some w))[i]? = some (some v) := by rw [List.getElem?_set_ne hne]; exact hv1
          have ee2 : (env.set r none)[i]? = some (some (.v s0)) := by rw [List.getElem?_set_ne hne]; exact ee
          -- the value's own cells
          obtain ⟨as, h1, h2, h3⟩ := r1.sl
          obtain ⟨v', bs0, q1, q2, q3⟩ := h1.get ee2
          rw [hv2] at q1; cases q1
          obtain ⟨cs, ds, w1, w2, w3, w4, w5, w6⟩ := h1.share h2 ee2 hv2 q2
          cases w2 with
          | v o =>
            obtain ⟨w', bs, t1, t2, t3⟩ := Ow.to' o eg
            have ew := To.fn t1 hto
            subst ew
            have bF : ∀ a ∈ bs, F1 a = none := fun a ha => (t2.at _ _ _ a ha).1
            have bL : ∀ a ∈ bs, ∃ vs, H1 a = some (.lst vs) := t2.lists _ _ _ hnt
            have gF : Same F1 (fun a => if a ∈ bs then H1 a else F1 a) := .mixF bF
            have gH : Same (fun a => if a ∈ bs then H1 a else F1 a) H1 := .mixH r1.fh
            have rG : Rel X.K B (fun a => if a ∈ bs then H1 a else F1 a) H1 ((env.set i none).set r (some (.v (.fr (S.ow ts).toD)))) (σ.set r (some w')) := by
              have comm : (env.set r none).set i none = (env.set i none).set r none := List.set_comm _ _ hne
              have base : OwEn X.K (fun a => if a ∈ bs then H1 a else F1 a) H1 (σ.set r (some w')) ((env.set i none).set r none) cs := by
                rw [← comm]
                refine w1.mono gF fun a ha => ⟨?_, rfl⟩
                show (if a ∈ bs then H1 a else F1 a) = none
                rw [if_neg fun z => w6 a (t3 a z) ha]
                exact (w1.at a ha).1
              have hdp : Dp X.K (fun a => if a ∈ bs then H1 a else F1 a) w' (S.ow ts).toD := Ow.dp gF _ _ _ t2 fun a ha => if_pos ha
              have := OwEn.put (i := r) (env := env.set i none) hdp base hw1
              exact ⟨r1.bh, gH, cs, this, w3, fun a ha => h3 a (w4 a ha)⟩
            have p1 := p.after (a1.toS rl.bh)
            refine ⟨B, _, _, rG, ?_⟩
            cases ef : fe ((env.set i none).set r (some (.v (.fr (S.ow ts).toD)))) with
            | no => rw [ef] at p1; exact p1.elim
            | er c => rw [ef] at p1; exact fun H' F' a => p1 _ H' _ ((After.back bF (fun a => rfl) a).toS r1.bh) (r1.after (After.back bF (fun a => rfl) a))
            | ok d =>
              rw [ef, R.st_ok] at p1
              by_cases hn : noL d = true
              · rw [if_pos hn] at p1
                intro u H2 F2 a2 hu
                obtain ⟨F0, a0, hd0⟩ := lend_back bF bL (fun a => rfl) a2 hu hn
                refine ⟨w', hw1, ?_⟩
                exact put_run r1 a0 ee2 ep hv2 (.fr hd0) List.nodup_nil (fun b hb => nomatch hb) (To.same a0.hh hto) (p1.after (a0.toS r1.bh))
              · rw [if_neg hn] at p1; exact p1.elim
        · rw [if_neg hnt] at p; exact p.elim
end
end DL
namespace DL
open PySem PySem.Spec PyProof.Rows L2
variable [Tabs]
/-- a name that may be called, of which nothing is said -/
theorem cal_no {P : Program} {w : World} {K : PySem.W.Frag} {mg : Str → Option Value} {base : Heap} {x : Str} {st : Stmt} {ps : List Str} {k : Nat} (d : Fd K mg x st ps) : Cal P w K mg base k x ps (fun _ => .no) := by
  obtain ⟨f, fd, h1, h2, h3⟩ := d.ex
  obtain ⟨oc, od, kV, doc, pm, an, cdv, ct, osl, _, lk, _⟩ := h1.ex
  exact ⟨f, fd, ⟨fun A outer s H us vs Q E hr hg e0 hb rv hp => by
    obtain ⟨F0, ds, _, _, _, h4⟩ := hp
    exact h4.elim⟩, h2, h1.kp, h3, oc, od, osl, lk⟩
end DL
namespace DL
open PySem PySem.Spec PyProof.Rows L2
variable [Tabs]
/-! isinstance(e, (T1, T2)) -/
def isi2R (T1 T2 : String) (f : En → R D) : En → R D := fun env => (f env).bind fun d => .ok (.bool (isT T1 d || isT T2 d))
section
variable {X : Cx} {W : WX} {k : Nat} {m : Md} {pos p p2 p3 tpos : Pos} {a : Expr} {fa : En → R D} {kk : Nat}
theorem kit_any2 {K : PySem.W.Frag} {t u1 u2 : Value} {b1 b2 : Bool} (h1 : PySem.W.kitOne K t u1 = some b1) (h2 : PySem.W.kitOne K t u2 = some b2) : PySem.W.kitAny K t [u1, u2] = some (b1 || b2) := by
  unfold PySem.W.kitAny
  rw [h1]
  cases b1 with
  | true => rfl
  | false =>
    unfold PySem.W.kitAny
    rw [h2]
    cases b2 <;> rfl
theorem de_isi2 {T1 T2 : Str} {Ts1 Ts2 : String} (ha : DE X W .h a fa) (hT1 : Ts1 ∈ knownT := by decide) (hT2 : Ts2 ∈ knownT := by decide) (hg : Gl X "isinstance" := by rfl) (hm : X.mg "isinstance" = none)
    (hg1 : Gl X T1 := by rfl) (hm1 : X.mg T1 = none) (hb1 : bootBuiltins T1 = some (.type Ts1)) (hn1 : T1 ≠ "__name__" := by decide) (hdb1 : (T1 == ("__debug__" : Str)) = false := by decide)
    (hg2 : Gl X T2 := by rfl) (hm2 : X.mg T2 = none) (hb2 : bootBuiltins T2 = some (.type Ts2)) (hn2 : T2 ≠ "__name__" := by decide) (hdb2 : (T2 == ("__debug__" : Str)) = false := by decide)
    (he : starEach [a, .Tuple [.Name T1 p2, .Name T2 p3] kk tpos] X.env = (false, eval a X.env) :: starEach [.Tuple [.Name T1 p2, .Name T2 p3] kk tpos] X.env := by rfl)
    (he2 : starEach [.Tuple [.Name T1 p2, .Name T2 p3] kk tpos] X.env = (false, eval (.Tuple [.Name T1 p2, .Name T2 p3] kk tpos) X.env) :: starEach [] X.env := by rfl)
    (he3 : starEach [.Name T1 p2, .Name T2 p3] X.env = (false, eval (.Name T1 p2) X.env) :: starEach [.Name T2 p3] X.env := by rfl) (he4 : starEach [.Name T2 p3] X.env = (false, eval (.Name T2 p3) X.env) :: starEach [] X.env := by rfl)
    (hpl : (backTo pos (starEach [.Tuple [.Name T1 p2, .Name T2 p3] kk tpos] X.env)).any (·.1) = false := by rfl) :
    DE X W m (.Call (.Name "isinstance" p) [a, .Tuple [.Name T1 p2, .Name T2 p3] kk tpos] [] pos) (isi2R Ts1 Ts2 fa) :=
  (pe_callB call_isiT hg hm PyProof.Rows.boot_isinstance (pa_cons ha (pa_cons (pe_tup (pa_cons (pe_bltn (v := .ty Ts1) hg1 hm1 hb1 rfl hn1 hdb1) (pa_cons (pe_bltn (v := .ty Ts2) hg2 hm2 hb2 rfl hn2 hdb2) pa_nil he4) he3)) pa_nil he2) he) (by decide) (by decide) he hpl).wk fun σ H Q ⟨B, F, env, r, q⟩ =>
    tD.bind r q fun v H1 F1 d a1 r1 q1 p1 => by
      refine ⟨(by decide : (2 : Nat) ≤ sizeLine), fun t nt => ?_⟩
      have an := After.newO (F := F1) r1.fh (p := t) (o := .tup [.ty Ts1, .ty Ts2]) nt
      have q2 := q1.after an
      exact ⟨v, t, [.ty Ts1, .ty Ts2], _, [.type Ts1, .type Ts2], _, rfl, upd_same, .cons (.ty Ts1) (.cons (.ty Ts2) .nil), Dp.ty q2, kit_any2 (kit_isT q2 hT1) (kit_isT q2 hT2), p1 _ _ _ an (Rp.bl _)⟩
end
@[simp] theorem e_isi2R {T1 T2 : String} {f : En → R D} {env : En} : isi2R T1 T2 f env = (f env).bind fun d => .ok (.bool (isT T1 d || isT T2 d)) := rfl
end DL
namespace DL
open PySem PySem.Spec PyProof.Rows L2
variable [Tabs]
/-! the slot i is lent to a test -/
def lnT (i : Nat) (t : En → R Bool) : En → R Bool := fun env => match env[i]? with
  | some (some (.v s)) => if noT s = true then t (env.set i (some (.v (.fr s.toD)))) else .no
  | _ => .no
section
variable {X : Cx} {W : WX} {e : Expr} {t : En → R Bool}
theorem dt_lend (i : Nat) (h : DT X W e t) : DT X W e (lnT i t) := h.wk fun σ H Q ⟨B, F, env, r, p⟩ => by
  unfold lnT at p
  split at p
  · rename_i s ee
    split at p
    · rename_i hs
      obtain ⟨G, bs, r2, b1, b2, b3⟩ := r.lend ee hs
      refine ⟨B, G, _, r2, ?_⟩
      cases ef : t (env.set i (some (.v (.fr s.toD)))) with
      | no => rw [ef] at p; exact p
      | er c => rw [ef] at p; exact fun H' F' a => p H' _ (After.back b1 b3 a)
      | ok d => rw [ef] at p; exact fun H' F' a => p H' _ (After.back b1 b3 a)
    · exact p.elim
  · exact p.elim
end
theorem e_lnT {i : Nat} {t : En → R Bool} {env : En} {s : S} (h : env[i]? = some (some (.v s))) (hs : noT s = true) : lnT i t env = t (env.set i (some (.v (.fr s.toD)))) := by
  unfold lnT
  rw [h]
  dsimp only
  rw [if_pos hs]
theorem e_lnR {i : Nat} {f : En → R D} {env : En} {s : S} {d : D} (h : env[i]? = some (some (.v s))) (hs : noT s = true) (hd : f (env.set i (some (.v (.fr s.toD)))) = .ok d) (hn : noL d = true) : lnR i f env = .ok d := by
  unfold lnR
  rw [h]
  dsimp only
  rw [if_pos hs, hd, R.bind_ok, if_pos hn]
end DL
namespace DL
open PySem PySem.Spec PyProof.Rows L2
variable [Tabs]
/-! ### dicts that one slot alone knows -/
def dkey : D → Option Key
  | .int i => some (.inl i)
  | .str s => some (.inr s)
  | _ => none
theorem dkey_v {K : PySem.W.Frag} {m : Md} {F H : Hp} {v : V} {d : D} {k : Key} (h : dkey d = some k) (r : Rp K m F H v d) : v = kV k := by
  cases d with
  | int i => cases h; exact r.intI
  | str i => cases h; exact r.strI
  | _ => cases h
def valD (kds : List (Key × D)) (k : Key) : Option D := (kds.find? fun kv => decide (kv.1 = k)).map (·.2)
def putD (kds : List (Key × D)) (k : Key) (v : D) : List (Key × D) :=
  if (kds.any fun kv => decide (kv.1 = k)) = true then kds.map (fun kv => if kv.1 = k then (kv.1, v) else kv) else kds ++ [(k, v)]
def keysI : List (Key × D) → Option (List Int)
  | [] => some []
  | (.inl i, _) :: r => match keysI r with
    | some is => some (i :: is)
    | none => none
  | (.inr _, _) :: _ => none
section
variable {K : PySem.W.Frag} {F : Hp}
theorem Kd.val {kvs : List (Key × V)} {kds : List (Key × D)} (h : Kd K F kvs kds) (k : Key) : (valV kvs k).isSome = (valD kds k).isSome := by
  unfold Kd at h
  induction h with
  | nil => rfl
  | @cons p q ps qs h t ih =>
    unfold valV valD at *
    rw [List.find?_cons, List.find?_cons, h.1]
    by_cases e : q.1 = k
    · simp [e]
    · simpa [e] using ih
theorem Kd.any {kvs : List (Key × V)} {kds : List (Key × D)} (h : Kd K F kvs kds) (k : Key) : (kvs.any fun kv => decide (kv.1 = k)) = (kds.any fun kv => decide (kv.1 = k)) := by
  unfold Kd at h
  induction h with
  | nil => rfl
  | @cons p q ps qs h t ih => rw [List.any_cons, List.any_cons, h.1, ih]
theorem Kd.len {kvs : List (Key × V)} {kds : List (Key × D)} (h : Kd K F kvs kds) : kvs.length = kds.length := by
  unfold Kd at h
  induction h with
  | nil => rfl
  | cons h t ih => rw [List.length_cons, List.length_cons, ih]
theorem Kd.put {kvs : List (Key × V)} {kds : List (Key × D)} (h : Kd K F kvs kds) (k : Key) {v : V} {d : D} (hv : Dp K F v d) : Kd K F (putK kvs k v) (putD kds k d) := by
  have ha := h.any k
  unfold putK putD
  rw [ha]
  split
  · rename_i z
    clear ha z
    unfold Kd at h ⊢
    induction h with
    | nil => exact .nil
    | @cons p q ps qs h t ih =>
      rw [List.map_cons, List.map_cons]
      refine .cons ?_ ih
      rw [h.1]
      by_cases e : q.1 = k
      · rw [if_pos e, if_pos e]; exact ⟨rfl, hv⟩
      · rw [if_neg e, if_neg e]; exact h
  · rename_i z
    clear ha z
    unfold Kd at h ⊢
    induction h with
    | nil => exact .cons ⟨rfl, hv⟩ .nil
    | cons h t ih => exact .cons h ih
theorem Kd.keys {kvs : List (Key × V)} {kds : List (Key × D)} (h : Kd K F kvs kds) : ∀ ks, keysI kds = some ks → kvs.map (·.1) = ks.map Sum.inl := by
  unfold Kd at h
  induction h with
  | nil => intro ks e; cases e; rfl
  | @cons p q ps qs h t ih =>
    intro ks e
    obtain ⟨q1, q2⟩ := q
    cases q1 with
    | inr s => cases e
    | inl i =>
      simp only [keysI] at e
      split at e
      · rename_i is e2
        cases e
        rw [List.map_cons, List.map_cons, ih is e2, h.1]
      · cases e
theorem OwEn.mutM {H : Hp} : ∀ {σ : L2.St} {env : En} {as : List Addr} {i : Nat} {kds : List (Key × D)}, OwEn K F H σ env as → as.Nodup → env[i]? = some (some (.m kds)) →
    ∃ a kvs, σ[i]? = some (some (.ref a)) ∧ F a = none ∧ H a = some (.dK kvs) ∧ Kd K F kvs kds ∧ a ∈ as ∧
      ∀ kvs' kds', Kd K F kvs' kds' → OwEn K F (upd H a (.dK kvs')) σ (env.set i (some (.m kds'))) as
  | _, _, _, _, _, .nil, _, e => by simp at e
  | _, _, _, 0, _, .un t, _, e => by simp at e
  | _, _, _, i + 1, _, .un t, n, e => by
    obtain ⟨a, vs, h1, h2, h3, h4, h5, h9⟩ := OwEn.mutM (i := i) t n (by simpa using e)
    exact ⟨a, vs, by simpa using h1, h2, h3, h4, h5, fun kvs' kds' q => .un (h9 _ _ q)⟩
  | _, _, _, 0, _, .so (as := as) h t, n, e => by
    simp at e; subst e
    cases h with
    | @m a kvs _ p q o =>
      have n' := List.nodup_append.mp n
      have ta : ∀ b ∈ as, b ≠ a := fun b hb z => n'.2.2 a List.mem_cons_self b hb z.symm
      exact ⟨a, kvs, rfl, p, q, o, List.mem_append_left _ List.mem_cons_self, fun kvs' kds' q =>
        .so (.m p upd_same q) (t.mono (Same.refl _) fun b hb => ⟨(t.at b hb).1, upd_ne (ta b hb)⟩)⟩
  | _, _, _, i + 1, _, .so (bs := hs) (as := as) h t, n, e => by
    have n' := List.nodup_append.mp n
    obtain ⟨a, vs, h1, h2, h3, h4, h5, h9⟩ := OwEn.mutM (i := i) t n'.2.1 (by simpa using e)
    refine ⟨a, vs, by simpa using h1, h2, h3, h4, List.mem_append_right _ h5, fun kvs' kds' q => ?_⟩
    exact .so (h.mono (Same.refl _) fun b hb => ⟨(h.at b hb).1, upd_ne fun z => n'.2.2 b hb a h5 z⟩) (h9 _ _ q)
theorem Rel.mutM {B H F' H' : Hp} {env : En} {σ : L2.St} {i : Nat} {kds : List (Key × D)} (r : Rel K B F H env σ) (x : After F H F' H') (e : env[i]? = some (some (.m kds))) :
    ∃ a kvs, σ[i]? = some (some (.ref a)) ∧ F' a = none ∧ H' a = some (.dK kvs) ∧ Kd K F' kvs kds ∧
      ∀ kvs' kds', Kd K F' kvs' kds' → Rel K B F' (upd H' a (.dK kvs')) (env.set i (some (.m kds'))) σ := by
  obtain ⟨as, h1, h2, h3⟩ := r.sl
  have h4 : OwEn K F' H' σ env as := h1.mono x.ff fun a ha => x.keepO (h1.at a ha)
  obtain ⟨a, kvs, q1, q2, q3, q4, q5, q9⟩ := h4.mutM h2 e
  refine ⟨a, kvs, q1, q2, q3, q4, fun kvs' kds' w => ?_⟩
  have rb := r.bh.trans x.hh
  have rf : Same F' H' := x.fh
  exact ⟨rb.updR _ _ (h3 a q5), rf.updR _ _ q2, as, q9 _ _ w, h2, h3⟩
theorem Rel.setM {B H F' H' : Hp} {env : En} {σ : L2.St} {i : Nat} {p : Addr} {kvs : List (Key × V)} {kds : List (Key × D)} (r : Rel K B F H env σ) (x : After F H F' H') (hp : H p = none) (hF : F' p = none)
    (kd : Kd K F' kvs kds) : Rel K B F' (upd H' p (.dK kvs)) (env.set i (some (.m kds))) (σ.set i (some (.ref p))) := by
  obtain ⟨as, h1, h2, h3⟩ := r.sl
  have np : ∀ a ∈ as, a ≠ p := fun a ha z => by
    obtain ⟨_, o, e, _⟩ := h1.at a ha
    rw [z, hp] at e; cases e
  have h4 : OwEn K F' H' σ env as := h1.mono x.ff fun a ha => x.keepO (h1.at a ha)
  have h5 : OwEn K F' (upd H' p (.dK kvs)) σ env as := h4.mono (Same.refl _) fun a ha => ⟨(h4.at a ha).1, upd_ne (np a ha)⟩
  obtain ⟨cs, q1, q2, q3⟩ := OwEn.set (.m hF upd_same kd) i h5 h2 (by simp) fun a ha hm => by
    rcases List.mem_cons.mp ha with z | z
    · exact np a hm z
    · cases z
  have hb : B p = none := r.bh.free hp
  refine ⟨(r.bh.trans x.hh).updR _ _ hb, x.fh.updR _ _ hF, cs, q1, q2, fun a ha => (q3 a ha).elim (h3 a) fun z => ?_⟩
  rcases List.mem_cons.mp z with w | w
  · rw [w]; exact hb
  · cases w
end
section
variable {X : Cx} {W : WX} {k : Nat} {m : Md} {pos pos' xp : Pos} {e v : Expr} {f g : En → R D}
/-- x = {e: v} -/
def mkM (i : Nat) (f g : En → R D) : En → SR := fun env => (f env).st env fun d => match dkey d with
  | some k => (g env).st env fun v => .nx (env.set i (some (.m [(k, v)])))
  | none => .no
theorem ds_mk {x : Str} (i : Nat) (nd : X.N.Nodup) (he : DE X W .f e f) (hv : DE X W .f v g) (hi : X.N[i]? = some x := by rfl) (hx : Loc X.env.scope x := by first | exact Or.inl rfl | exact Or.inr rfl) (hs : swapsWith (.Dict [some e] [v] pos') (some (.Name x xp)) pos.line X.env = pure false := by rfl)
    (hf : X.fn x = true ∨ X.env.scope.names.lookup x = some .local := by first | exact Or.inl rfl | exact Or.inr rfl) : DS X W (.Assign [.Name x xp] (.Dict [some e] [v] pos') pos) (mkM i f g) :=
  (ps_set nd hi hx (pe_disp (pps_cons he hv pps_nil) rfl rfl (by simp) (by simp)) hs hf).wk fun D σ H ⟨B, F, env, r, p⟩ => fun p0 hp => by
    have a0 := After.newO (o := .dK []) r.fh hp
    have r0 := r.after a0
    refine tD.st r0 p fun v H1 F1 d a1 r1 q1 p1 => ?_
    cases ek : dkey d with
    | none => rw [ek] at p1; exact p1.elim
    | some k =>
      rw [ek] at p1
      refine tD.st r1 p1 fun u H2 F2 c a2 r2 q2 p2 => ?_
      have a3 := a1.trans a2
      refine ⟨a3.hh _ _ upd_same, [(k, u)], ?_, by simp, p2 _ _ F2 AfterS.refl (r.setM (a0.trans a3) hp ?_ (.cons ⟨rfl, q2⟩ .nil))⟩
      · rw [dkey_v ek q1]; rfl
      · cases z : F2 p0 with
        | none => rfl
        | some o =>
          have := a3.nw p0 o z (r.fh.free hp)
          rw [upd_same] at this; cases this
/-- e in x, e not in x -/
def inMR (i : Nat) (f : En → R D) : En → R D := fun env => (f env).bind fun d => match dkey d with
  | some k => match env[i]? with
    | some (some (.m kds)) => .ok (.bool (valD kds k).isSome)
    | _ => .no
  | none => .no
def ninMR (i : Nat) (f : En → R D) : En → R D := fun env => (f env).bind fun d => match dkey d with
  | some k => match env[i]? with
    | some (some (.m kds)) => .ok (.bool (!(valD kds k).isSome))
    | _ => .no
  | none => .no
theorem inM_at {K : PySem.W.Frag} {B F H : Hp} {env : En} {σ : L2.St} {i : Nat} {kds : List (Key × D)} (r : Rel K B F H env σ) (e : env[i]? = some (some (.m kds))) (k : Key) :
    ∃ a o, σ[i]? = some (some (.ref a)) ∧ DGet H a (kV k) o ∧ o.isSome = (valD kds k).isSome := by
  obtain ⟨a, kvs, q1, q2, q3, q4, _⟩ := r.mutM (After.refl r.fh) e
  exact ⟨a, _, q1, DGet.k q3, q4.val k⟩
theorem de_inM {x : Str} (i : Nat) (hu : X.A.units + 65 < cLine) (he : DE X W .h e f) (hN : X.N[i]? = some x := by rfl) (hv : Vis X.env.scope x := by first | exact Or.inl rfl | exact Or.inr (Or.inl rfl) | exact Or.inr (Or.inr rfl)) (hd : (x == ("__debug__" : Str)) = false := by decide)
    (hcd : (x == ("__classdict__" : Str)) = false := by decide) (hm : behindInMarks .In (.Name x xp) = false := by first | exact nomark _ | rfl) : DE X W m (.Compare e [.In] [.Name x xp] pos) (inMR i f) :=
  (pe_cmp (pc_din (by omega) he (pe_var hN hv hd hcd)) hm).wk fun σ H Q ⟨B, F, env, r, p⟩ => tD.bind r p fun v H1 F1 d a1 r1 q1 p1 => by
    cases ek : dkey d with
    | none => rw [ek] at p1; exact p1.elim
    | some k =>
      rw [ek] at p1
      dsimp only at p1
      split at p1
      · rename_i kds ee
        obtain ⟨a, o, z1, z2, z3⟩ := inM_at r1 ee k
        rw [dkey_v ek q1]
        refine ⟨.ref a, z1, a, o, rfl, z2, ?_⟩
        rw [z3]
        exact p1 _ H1 F1 (After.refl r1.fh) (Rp.bl _)
      · exact p1.elim
theorem de_ninM {x : Str} (i : Nat) (hu : X.A.units + 65 < cLine) (he : DE X W .h e f) (hN : X.N[i]? = some x := by rfl) (hv : Vis X.env.scope x := by first | exact Or.inl rfl | exact Or.inr (Or.inl rfl) | exact Or.inr (Or.inr rfl)) (hd : (x == ("__debug__" : Str)) = false := by decide)
    (hcd : (x == ("__classdict__" : Str)) = false := by decide) (hm : behindInMarks .NotIn (.Name x xp) = false := by first | exact nomark _ | rfl) : DE X W m (.Compare e [.NotIn] [.Name x xp] pos) (ninMR i f) :=
  (pe_cmp (pc_dnotin (by omega) he (pe_var hN hv hd hcd)) hm).wk fun σ H Q ⟨B, F, env, r, p⟩ => tD.bind r p fun v H1 F1 d a1 r1 q1 p1 => by
    cases ek : dkey d with
    | none => rw [ek] at p1; exact p1.elim
    | some k =>
      rw [ek] at p1
      dsimp only at p1
      split at p1
      · rename_i kds ee
        obtain ⟨a, o, z1, z2, z3⟩ := inM_at r1 ee k
        rw [dkey_v ek q1]
        refine ⟨.ref a, z1, a, o, rfl, z2, ?_⟩
        rw [z3]
        exact p1 _ H1 F1 (After.refl r1.fh) (Rp.bl _)
      · exact p1.elim
def inMT (i : Nat) (f : En → R D) : En → R Bool := fun env => (f env).bind fun d => match dkey d with
  | some k => match env[i]? with
    | some (some (.m kds)) => .ok (valD kds k).isSome
    | _ => .no
  | none => .no
theorem dt_inM {x : Str} (i : Nat) (hu : X.A.units + 65 < cLine) (he : DE X W .h e f) (hN : X.N[i]? = some x := by rfl) (hv : Vis X.env.scope x := by first | exact Or.inl rfl | exact Or.inr (Or.inl rfl) | exact Or.inr (Or.inr rfl)) (hd : (x == ("__debug__" : Str)) = false := by decide)
    (hcd : (x == ("__classdict__" : Str)) = false := by decide) (hm : behindInMarks .In (.Name x xp) = false := by first | exact nomark _ | rfl) : DT X W (.Compare e [.In] [.Name x xp] pos) (inMT i f) :=
  (pt_cmp (pc_din (by omega) he (pe_var hN hv hd hcd)) hm).wk fun σ H Q ⟨B, F, env, r, p⟩ => tD.bindT r p fun v H1 F1 d a1 r1 q1 p1 => by
    cases ek : dkey d with
    | none => rw [ek] at p1; exact p1.elim
    | some k =>
      rw [ek] at p1
      dsimp only at p1
      split at p1
      · rename_i kds ee
        obtain ⟨a, o, z1, z2, z3⟩ := inM_at r1 ee k
        rw [dkey_v ek q1]
        refine ⟨.ref a, z1, a, o, rfl, z2, ?_⟩
        rw [z3]
        exact ⟨_, rfl, p1 H1 F1 (After.refl r1.fh)⟩
      · exact p1.elim
def ninMT (i : Nat) (f : En → R D) : En → R Bool := fun env => (f env).bind fun d => match dkey d with
  | some k => match env[i]? with
    | some (some (.m kds)) => .ok (!(valD kds k).isSome)
    | _ => .no
  | none => .no
theorem dt_ninM {x : Str} (i : Nat) (hu : X.A.units + 65 < cLine) (he : DE X W .h e f) (hN : X.N[i]? = some x := by rfl) (hv : Vis X.env.scope x := by first | exact Or.inl rfl | exact Or.inr (Or.inl rfl) | exact Or.inr (Or.inr rfl)) (hd : (x == ("__debug__" : Str)) = false := by decide)
    (hcd : (x == ("__classdict__" : Str)) = false := by decide) (hm : behindInMarks .NotIn (.Name x xp) = false := by first | exact nomark _ | rfl) : DT X W (.Compare e [.NotIn] [.Name x xp] pos) (ninMT i f) :=
  (pt_cmp (pc_dnotin (by omega) he (pe_var hN hv hd hcd)) hm).wk fun σ H Q ⟨B, F, env, r, p⟩ => tD.bindT r p fun v H1 F1 d a1 r1 q1 p1 => by
    cases ek : dkey d with
    | none => rw [ek] at p1; exact p1.elim
    | some k =>
      rw [ek] at p1
      dsimp only at p1
      split at p1
      · rename_i kds ee
        obtain ⟨a, o, z1, z2, z3⟩ := inM_at r1 ee k
        rw [dkey_v ek q1]
        refine ⟨.ref a, z1, a, o, rfl, z2, ?_⟩
        rw [z3]
        exact ⟨_, rfl, p1 H1 F1 (After.refl r1.fh)⟩
      · exact p1.elim
/-- x[e] = v -/
def putM (i : Nat) (f g : En → R D) : En → SR := fun env => match env[i]? with
  | some (some (.m kds)) => (g env).st env fun v => (f env).st env fun d => match dkey d with
    | some k => if kds.length < 1000000 then .nx (env.set i (some (.m (putD kds k v)))) else .no
    | none => .no
  | _ => .no
theorem ds_put {x : Str} (i : Nat) (hu : X.A.units + 65 < cLine) (he : DE X W .f e f) (hg : DE X W .f v g) (hN : X.N[i]? = some x := by rfl) (hv : Vis X.env.scope x := by first | exact Or.inl rfl | exact Or.inr (Or.inl rfl) | exact Or.inr (Or.inr rfl)) (hd : (x == ("__debug__" : Str)) = false := by decide)
    (hcd : (x == ("__classdict__" : Str)) = false := by decide) (hs : swapsWith v (some (.Subscript (.Name x xp) e pos')) pos.line X.env = pure false := by rfl) : DS X W (.Assign [.Subscript (.Name x xp) e pos'] v pos) (putM i f g) :=
  (ps_dput (by omega) (pe_var hN hv hd hcd) he hg hs).wk fun D σ H ⟨B, F, env, r, p⟩ => by
    unfold putM at p
    split at p
    · rename_i kds ee
      refine tD.st r p fun v H1 F1 c a1 r1 q1 p1 => ?_
      obtain ⟨a, _, q0, _⟩ := r1.mutM (After.refl r1.fh) ee
      refine ⟨.ref a, q0, tD.st r1 p1 fun u H2 F2 d a2 r2 q2 p2 => ?_⟩
      cases ek : dkey d with
      | none => rw [ek] at p2; exact p2.elim
      | some k =>
        rw [ek] at p2
        dsimp only at p2
        split at p2
        · rename_i hl
          obtain ⟨a', kvs, w1, w2, w3, w4, w9⟩ := r2.mutM (After.refl r2.fh) ee
          obtain rfl : a' = a := by
            have := w1.symm.trans q0
            simpa using this
          rw [dkey_v ek q2]
          exact ⟨a', _, rfl, DPut.k w3 (by have := w4.len; have := million; omega), p2 _ _ F2 AfterS.refl (w9 _ _ (w4.put k (q1.after a2)))⟩
        · exact p2.elim
    · exact p.elim
/-- sorted(x), the keys ints -/
def srtM (i : Nat) : En → R S := fun env => match env[i]? with
  | some (some (.m kds)) => match keysI kds with
    | some ks => if ks.length < 64 then sortL ks else .no
    | none => .no
  | _ => .no
theorem do_srtM {x y : Str} {yp : Pos} (i : Nat) (hc : X.calm = true) (hg : Gl X y) (hmg : X.mg y = none) (hb : bootBuiltins y = some (.builtin "sorted")) (hN : X.N[i]? = some x := by rfl) (hv : Vis X.env.scope x := by first | exact Or.inl rfl | exact Or.inr (Or.inl rfl) | exact Or.inr (Or.inr rfl)) (hd : (x == ("__debug__" : Str)) = false := by decide)
    (hcd : (x == ("__classdict__" : Str)) = false := by decide) (hn : y ≠ "__name__" := by decide) (hdb : (y == ("__debug__" : Str)) = false := by decide)
    (hs : starEach [.Name x xp] X.env = (false, eval (.Name x xp) X.env) :: starEach [] X.env := by rfl) (hpl : (backTo pos (starEach [] X.env)).any (·.1) = false := by rfl) : DO X W (.Call (.Name y yp) [.Name x xp] [] pos) (srtM i) :=
  (pe_callB (call_sortedDI hc) hg hmg hb (pa_cons (pe_var hN hv hd hcd) pa_nil hs) hn hdb hs hpl).wk fun σ H Q ⟨B, F, env, r, p⟩ => by
    unfold srtM at p
    split at p
    · rename_i kds ee
      split at p
      · rename_i ks ek
        split at p
        · rename_i hl
          obtain ⟨a, kvs, q1, q2, q3, q4, _⟩ := r.mutM (After.refl r.fh) ee
          refine ⟨.ref a, q1, a, kvs, ks, rfl, .of q3, q4.keys ks ek, hl, fun ys l h2 h3 n => ?_⟩
          rw [sortI_eq h2 h3]
          have q := OwAll.ofDp (F := F) (H := upd H l (.lst ((sortI ks).map V.int))) (dp_ints (K := X.K) (sortI ks))
          rw [List.map_map] at q
          exact p _ _ _ [l] (After.newO r.fh n) (.ow (as := []) (r.fh.free n) upd_same q) (by simp) (fun x hx => by
            rcases List.mem_cons.mp hx with e | e
            · subst e; exact n
            · cases e)
        · exact p.elim
      · exact p.elim
    · exact p.elim
end
end DL
namespace DL
open PySem PySem.Spec PyProof.Rows L2
/-! ### quiet evaluation: what stands is kept to the bit, no generator is touched -/
mutual
/-- the value u carries d in the heap h -/
inductive VD (h : Heap) : Value → D → Prop
  | non : VD h .none .none
  | bl (b : Bool) : VD h (.bool b) (.bool b)
  | int (i : Int) (t : Tok) : VD h (.int i t) (.int i)
  | str (x : Str) (t : Tok) : VD h (.str x t) (.str x)
  | tup {a : Addr} {us : List Value} {ds : List D} : us.length ≤ sizeLine → IsTup h a us.toArray → VDs h us ds → VD h (.ref a) (.tuple ds)
  | lst {a : Addr} {us : List Value} {ds : List D} : us.length ≤ sizeLine → h.IsList a us.toArray → VDs h us ds → VD h (.ref a) (.list ds)
inductive VDs (h : Heap) : List Value → List D → Prop
  | nil : VDs h [] []
  | cons {u : Value} {d : D} {us : List Value} {ds : List D} : VD h u d → VDs h us ds → VDs h (u :: us) (d :: ds)
end
section
variable {h h' : Heap}
mutual
/-- kept where the objects that have a class are kept -/
theorem VD.keepC (k : ∀ b o, o.cls ≠ .none → h.get? b = some o → h'.get? b = some o) : ∀ (d : D) (u : Value), VD h u d → VD h' u d
  | .none, _, .non => .non
  | .bool _, _, .bl b => .bl b
  | .int _, _, .int i t => .int i t
  | .str _, _, .str x t => .str x t
  | .tuple ds, _, .tup z p q => .tup z (let ⟨o, e, c, r⟩ := p; ⟨o, k _ o (by rw [c]; exact fun z => nomatch z) e, c, r⟩) (VDs.keepC k ds _ q)
  | .list ds, _, .lst z p q => .lst z (let ⟨o, e, c, r⟩ := p; ⟨o, k _ o (by rw [c]; exact fun z => nomatch z) e, c, r⟩) (VDs.keepC k ds _ q)
  | .dict _, _, x => by cases x
theorem VDs.keepC (k : ∀ b o, o.cls ≠ .none → h.get? b = some o → h'.get? b = some o) : ∀ (ds : List D) (us : List Value), VDs h us ds → VDs h' us ds
  | [], _, .nil => .nil
  | d :: ds, _, .cons p q => .cons (VD.keepC k d _ p) (VDs.keepC k ds _ q)
end
theorem VD.keeps (k : ∀ b o, h.get? b = some o → h'.get? b = some o) (d : D) (u : Value) (v : VD h u d) : VD h' u d := VD.keepC (fun b o _ => k b o) d u v
theorem VDs.keeps (k : ∀ b o, h.get? b = some o → h'.get? b = some o) (ds : List D) (us : List Value) (v : VDs h us ds) : VDs h' us ds := VDs.keepC (fun b o _ => k b o) ds us v
theorem VDs.len : ∀ {us : List Value} {ds : List D}, VDs h us ds → us.length = ds.length
  | _, _, .nil => rfl
  | _, _, .cons _ q => by simp [VDs.len q]
theorem VDs.get : ∀ {us : List Value} {ds : List D} {i : Nat} {d : D}, VDs h us ds → ds[i]? = some d → ∃ u, us[i]? = some u ∧ VD h u d
  | _, _, _, _, .nil, e => by simp at e
  | _, _, 0, _, .cons p _, e => by simp at e; subst e; exact ⟨_, rfl, p⟩
  | _, _, i + 1, _, .cons _ q, e => by
    obtain ⟨u, h1, h2⟩ := VDs.get (i := i) q (by simpa using e)
    exact ⟨u, by simpa using h1, h2⟩
theorem VDs.getU : ∀ {us : List Value} {ds : List D} {i : Nat} {u : Value}, VDs h us ds → us[i]? = some u → ∃ d, ds[i]? = some d ∧ VD h u d
  | _, _, _, _, .nil, e => by simp at e
  | _, _, 0, _, .cons p _, e => by simp at e; subst e; exact ⟨_, rfl, p⟩
  | _, _, i + 1, _, .cons _ q, e => by
    obtain ⟨d, h1, h2⟩ := VDs.getU (i := i) q (by simpa using e)
    exact ⟨d, by simpa using h1, h2⟩
end
section
variable {X : Cx} {pins : List (Addr × Obj)} {σ : L2.St} {H F : Hp} {s : Shared}
mutual
theorem VD.ofDp (I : Inv X pins σ H s) (f : Same F H) : ∀ (d : D) (v : V) (u : Value), Dp X.K F v d → RelV v u → VD s.heap u d
  | .none, _, _, .non, r => by cases r; exact .non
  | .bool _, _, _, .bl b, r => by cases r; exact .bl b
  | .int _, _, _, .int i, r => by obtain ⟨t, rfl⟩ := r; exact .int i t
  | .str _, _, _, .str x, r => by obtain ⟨t, rfl⟩ := r; exact .str x t
  | .tuple ds, _, _, .tup p q, r => by
    cases r
    obtain ⟨its, rv, pt, z⟩ := I.tuple (SqT.same f p)
    exact .tup (by rw [← rv.length]; exact z) pt (VDs.ofDp I f ds _ _ q rv)
  | .list ds, _, _, .lst p q, r => by
    cases r
    obtain ⟨its, rv, pt, z⟩ := I.list (f.seq p)
    exact .lst (by rw [← rv.length]; exact z) pt.isList (VDs.ofDp I f ds _ _ q rv)
  | .dict _, _, _, x, _ => by cases x
theorem VDs.ofDp (I : Inv X pins σ H s) (f : Same F H) : ∀ (ds : List D) (vs : List V) (us : List Value), DpAll X.K F vs ds → Vals vs us → VDs s.heap us ds
  | [], _, _, .nil, .nil => .nil
  | d :: ds, _, _, .cons p q, .cons r rs => .cons (VD.ofDp I f d _ _ p r) (VDs.ofDp I f ds _ _ q rs)
end
end
/-- a frame in which something is evaluated quietly; N: the slots' names -/
structure QX where
  P : Program
  w : World
  K : PySem.W.Frag
  mg : Str → Option Value
  base : Heap
  env : Env
  N : Nat → Option Str
structure QO (q : QX) : Prop where
  mod : Mod q.K q.mg q.base
  kind : q.env.scope.kind = .function
  glob : q.env.globals = mainGlobals
structure QR (q : QX) (env : En) (s : Shared) : Prop where
  bk : ∀ b o, q.base.get? b = some o → s.heap.get? b = some o
  loc : ∃ m, s.heap.Ns q.env.locals m ∧ ∀ i x d, q.N i = some x → env[i]? = some (some (.v (.fr d))) → ∃ u, m x = some u ∧ VD s.heap u d
theorem kp_refl (s : Shared) : Keeps s s := ⟨s.heap, s.toks, rfl, fun _ _ e => e⟩
theorem kp_tok (s : Shared) (t : Nat) : Keeps s { s with toks := t } := ⟨s.heap, t, rfl, fun _ _ e => e⟩
theorem kp_trans {s s1 s2 : Shared} (a : Keeps s s1) (b : Keeps s1 s2) : Keeps s s2 := by
  obtain ⟨h1, t1, rfl, k1⟩ := a
  obtain ⟨h2, t2, rfl, k2⟩ := b
  exact ⟨h2, t2, rfl, fun b o e => k2 b o (k1 b o e)⟩
theorem kp_heap {s s1 : Shared} (a : Keeps s s1) : ∀ b o, s.heap.get? b = some o → s1.heap.get? b = some o := by
  obtain ⟨h1, t1, rfl, k1⟩ := a
  exact k1
theorem QR.keep {q : QX} {env : En} {s s1 : Shared} (r : QR q env s) (a : Keeps s s1) : QR q env s1 := by
  have k := kp_heap a
  obtain ⟨m, h1, h2⟩ := r.loc
  refine ⟨fun b o e => k b o (r.bk b o e), m, h1.keeps k, fun i x d e1 e2 => ?_⟩
  obtain ⟨u, z1, z2⟩ := h2 i x d e1 e2
  exact ⟨u, z1, z2.keeps k _ _⟩
/-- e answers f of the slots, quietly -/
def QDE (q : QX) (k : Nat) (e : Expr) (f : En → R D) : Prop := ∀ (A : Around) (s : Shared) (E : Value → Shared → Prop) (env : En) (d : D), Room k A → QR q env s → f env = .ok d →
  wpAny (model q.P q.w) A (eval e q.env) (fun y s' => VD s'.heap y d ∧ Keeps s s') E s
def QDT (q : QX) (k : Nat) (e : Expr) (f : En → R Bool) : Prop := ∀ (A : Around) (s : Shared) (E : Value → Shared → Prop) (env : En) (b : Bool), Room k A → QR q env s → f env = .ok b →
  wpAny (model q.P q.w) A (isTrue e q.env (eval e q.env)) (fun c s' => c = b ∧ Keeps s s') E s
/-- several, from the left -/
def QDA (q : QX) (k : Nat) (es : List Expr) (f : En → R (List D)) : Prop := ∀ (pos : Pos) (A : Around) (s : Shared) (E : Value → Shared → Prop) (env : En) (ds : List D), Room k A → QR q env s → f env = .ok ds →
  wpAny (model q.P q.w) A (spliced (backTo pos (starEach es q.env))) (fun us s' => VDs s'.heap us ds ∧ Keeps s s') E s
section
variable {q : QX} {k : Nat} {pos : Pos} {j : Nat} {a b : Expr} {fa fb : En → R D}
theorem bind_ok {A B : Type} {r : R A} {f : A → R B} {b : B} (h : r.bind f = .ok b) : ∃ a, r = .ok a ∧ f a = .ok b := by
  cases r with
  | ok a => exact ⟨a, rfl, h⟩
  | er c => cases h
  | no => cases h
theorem qde_var {x : Str} (o : QO q) (i : Nat) (hN : q.N i = some x := by rfl) (hv : q.env.kindOf x = some .local := by rfl) (hd : (x == ("__debug__" : Str)) = false := by decide) : QDE q k (.Name x pos) (vf i) := by
  intro A s E env d _ r e
  obtain ⟨m, h1, h2⟩ := r.loc
  unfold vf at e
  split at e
  · rename_i d' e2
    cases e
    obtain ⟨u, z1, z2⟩ := h2 i x _ hN e2
    exact wpAny_Name (wpAny_loadName_local o.kind hv h1 z1 ⟨z2, kp_refl s⟩) hd
  · cases e
theorem qde_int {i : Int} : QDE q k (.Constant (.int i) j pos) (fun _ => .ok (.int i)) := by
  intro A s E env d _ r e
  cases e
  exact wpAny_Constant_int ⟨.int i _, kp_tok s _⟩
theorem qde_bl {i : Bool} : QDE q k (.Constant (.bool i) j pos) (fun _ => .ok (.bool i)) := by
  intro A s E env d _ r e
  cases e
  exact Constant_bool ⟨.bl i, kp_refl s⟩
theorem qde_non : QDE q k (.Constant .none j pos) (fun _ => .ok .none) := by
  intro A s E env d _ r e
  cases e
  exact Constant_none ⟨.non, kp_refl s⟩
/-- a is None -/
theorem VD.isN {h : Heap} {u : Value} {d : D} (v : VD h u d) : (u == Value.none) = isNo d := by cases v <;> rfl
theorem qt_isN (ha : QDE q k a fa) {p p2 : Pos} : QDT q k (.Compare a [.Is] [.Constant .none j p] p2) (fun env => (fa env).bind fun x => .ok (isNo x)) := by
  intro A s E env c rm r e
  obtain ⟨d, e1, e2⟩ := bind_ok e
  cases e2
  refine wpAny_isTrue_Compare1 (thn (ha A s E env d rm r e1) fun u s1 ⟨v, k1⟩ => ?_)
  refine Constant_none ?_
  refine is_none_gen ?_
  refine wpAny_truthy_bool ⟨?_, k1⟩
  cases v <;> rfl
/-- a * b of ints -/
theorem qde_mul (ha : QDE q k a fa) (hb : QDE q k b fb) : QDE q k (.BinOp a .Mult b pos) (fun env => (fa env).bind fun x => (fb env).bind fun y => mulD x y) := by
  intro A s E env c rm r e
  obtain ⟨d1, e1, e⟩ := bind_ok e
  obtain ⟨d2, e2, e⟩ := bind_ok e
  refine wpAny_BinOp (thn (ha A s E env d1 rm r e1) fun u s1 ⟨v1, k1⟩ => thn (hb A s1 E env d2 rm (r.keep k1) e2) fun u2 s2 ⟨v2, k2⟩ => ?_)
  have v1 := v1.keeps (kp_heap k2) _ _
  unfold mulD gI i2 at e
  split at e
  · rename_i i j
    dsimp only at e
    split at e
    · rename_i hc
      cases e
      cases v1
      cases v2
      exact mul_int ⟨.int _ _, kp_trans (kp_trans k1 k2) (kp_tok s2 _)⟩ (CMulX.ok hc)
    · cases e
  · cases e
/-- a < b of ints -/
theorem qde_lt (ha : QDE q k a fa) (hb : QDE q k b fb) (hm : behindInMarks .Lt b = false := by rfl) : QDE q k (.Compare a [.Lt] [b] pos) (fun env => (fa env).bind fun x => (fb env).bind fun y => ltD x y) := by
  intro A s E env c rm r e
  obtain ⟨d1, e1, e⟩ := bind_ok e
  obtain ⟨d2, e2, e⟩ := bind_ok e
  refine wpAny_Compare1 (thn (ha A s E env d1 rm r e1) fun u s1 ⟨v1, k1⟩ => thn (hb A s1 E env d2 rm (r.keep k1) e2) fun u2 s2 ⟨v2, k2⟩ => ?_) hm
  have v1 := v1.keeps (kp_heap k2) _ _
  unfold ltD gB0 i2 at e
  split at e
  · rename_i i j
    dsimp only at e
    cases e
    cases v1
    cases v2
    exact lt_int ⟨.bl _, kp_trans k1 k2⟩
  · cases e
end
end DL
namespace DL
open PySem PySem.Spec PyProof.Rows L2
section
variable {q : QX} {k : Nat} {pos : Pos} {j : Nat} {a b : Expr} {fa fb : En → R D}
/-- a[b] of a tuple or list -/
theorem qde_ix (ha : QDE q k a fa) (hb : QDE q k b fb) (hs : PlainIx b := by intro _ _; rfl) : QDE q k (.Subscript a b pos) (fun env => (fa env).bind fun x => (fb env).bind fun y => ixD x y) := by
  intro A s E env c rm r e
  obtain ⟨d1, e1, e⟩ := bind_ok e
  obtain ⟨d2, e2, e⟩ := bind_ok e
  refine Subscript_ (thn (ha A s E env d1 rm r e1) fun u s1 ⟨v1, k1⟩ => thn (hb A s1 E env d2 rm (r.keep k1) e2) fun u2 s2 ⟨v2, k2⟩ => ?_)
  have v1 := v1.keeps (kp_heap k2) _ _
  cases d2 with
  | int i =>
    obtain ⟨t, rfl⟩ : ∃ t, u2 = .int i t := by cases v2; exact ⟨_, rfl⟩
    unfold ixD at e
    dsimp only at e
    split at e
    · rename_i ds
      split at e
      · rename_i d' ei
        cases e
        cases v1 with
        | @lst p us _ hz hl hv =>
          obtain ⟨n, h1, h2, h3, h4, h5⟩ := L2.atI_get ei
          obtain ⟨u', g1, g2⟩ := hv.get h2
          have hlen := hv.len
          have hm := line63
          by_cases h0 : 0 ≤ i
          · have hj : i.toNat = n := by
              rw [seqIndex_of h0 h5] at h1
              exact Option.some.inj h1
            exact item_listR hl h0 (by omega) (by rw [hj]; simpa using g1) ⟨g2, kp_trans k1 k2⟩ (hs _ _)
          · have hj : (i + (us.toArray.size : Int)).toNat = n := by
              rw [seqIndex_neg (by omega) h4] at h1
              rw [List.size_toArray, hlen]
              exact Option.some.inj h1
            exact subscriptTail_builtinR (x := u') hl.typeIs slot_list_getitem.lookup
              (wpAny_getItem_list_neg (Q := fun y s' => y = u' ∧ VD s'.heap y _ ∧ Keeps s s') hl (by omega) (by rw [List.size_toArray]; omega) (by omega) (by rw [hj]; simpa using g1) ⟨rfl, g2, kp_trans k1 k2⟩) (hs _ _)
      · cases e
    · rename_i ds
      split at e
      · rename_i d' ei
        cases e
        cases v1 with
        | @tup p us _ hz hl hv =>
          obtain ⟨n, h1, h2, h3, h4, h5⟩ := L2.atI_get ei
          obtain ⟨u', g1, g2⟩ := hv.get h2
          have hlen := hv.len
          have hm := line63
          exact subscriptTail_builtinR (x := u') hl.typeIs slot_tuple_getitem.lookup
            (getItem_tuple (j := n) (Q := fun y s' => y = u' ∧ VD s'.heap y _ ∧ Keeps s s') hl (by omega) (by omega) (by rw [List.size_toArray, hlen]; exact h1) (by simpa using g1) ⟨rfl, g2, kp_trans k1 k2⟩) (hs _ _)
      · cases e
    · cases e
  | _ => cases e

/-! statements that store nothing -/
def QDS (q : QX) (k : Nat) (st : Stmt) (T : En → SR) : Prop := ∀ (A : Around) (s : Shared) (E : Value → Shared → Prop) (env : En), Room k A → QR q env s →
  (∀ d, T env = .rt (.fr d) → wpAny (model q.P q.w) A (exec st q.env) (fun fl s' => ∃ u, fl = .ret u ∧ VD s'.heap u d ∧ Keeps s s') E s) ∧
  (∀ e', T env = .nx e' → e' = env ∧ wpAny (model q.P q.w) A (exec st q.env) (fun fl s' => fl = .next ∧ Keeps s s') E s)
def QDSs (q : QX) (k : Nat) (sts : List Stmt) (T : En → SR) : Prop := ∀ (A : Around) (s : Shared) (E : Value → Shared → Prop) (env : En), Room k A → QR q env s →
  (∀ d, T env = .rt (.fr d) → wpAny (model q.P q.w) A (execs sts q.env) (fun fl s' => ∃ u, fl = .ret u ∧ VD s'.heap u d ∧ Keeps s s') E s) ∧
  (∀ e', T env = .nx e' → e' = env ∧ wpAny (model q.P q.w) A (execs sts q.env) (fun fl s' => fl = .next ∧ Keeps s s') E s)
theorem qds_nil : QDSs q k [] nxS := by
  intro A s E env rm r
  refine ⟨fun d e => (by cases e), fun e' e => ?_⟩
  cases e
  exact ⟨rfl, wpAny_execs_nil ⟨rfl, kp_refl s⟩⟩
theorem qds_cons {st : Stmt} {sts : List Stmt} {T U : En → SR} (h1 : QDS q k st T) (h2 : QDSs q k sts U) : QDSs q k (st :: sts) (sqS T U) := by
  intro A s E env rm r
  have r1 := h1 A s E env rm r
  refine ⟨fun d e => ?_, fun e' e => ?_⟩
  · rw [e_sqS] at e
    cases eT : T env with
    | rt t =>
      rw [eT] at e
      have e : SR.rt t = .rt (.fr d) := e
      cases e
      exact wpAny_execs_cons (thn (r1.1 d eT) fun fl s1 ⟨u, z1, z2⟩ => by subst z1; exact ⟨u, rfl, z2⟩)
    | nx e1 =>
      rw [eT] at e
      obtain ⟨z0, z⟩ := r1.2 e1 eT
      subst z0
      refine wpAny_execs_cons (thn z fun fl s1 ⟨z1, z2⟩ => ?_)
      subst z1
      exact thn ((h2 A s1 E e1 rm (r.keep z2)).1 d e) fun fl s2 ⟨u, y1, y2, y3⟩ => ⟨u, y1, y2, kp_trans z2 y3⟩
    | _ => rw [eT] at e; cases e
  · rw [e_sqS] at e
    cases eT : T env with
    | nx e1 =>
      rw [eT] at e
      obtain ⟨z0, z⟩ := r1.2 e1 eT
      subst z0
      have y := (h2 A s E e1 rm r).2 e' e
      refine ⟨y.1, wpAny_execs_cons (thn z fun fl s1 ⟨z1, z2⟩ => ?_)⟩
      subst z1
      exact thn ((h2 A s1 E e1 rm (r.keep z2)).2 e' e).2 fun fl s2 ⟨y1, y2⟩ => ⟨y1, kp_trans z2 y2⟩
    | _ => rw [eT] at e; cases e
theorem qds_one {st : Stmt} {T : En → SR} (h1 : QDS q k st T) : QDSs q k [st] T := by
  intro A s E env rm r
  have r1 := h1 A s E env rm r
  refine ⟨fun d e => wpAny_execs_cons (thn (r1.1 d e) fun fl s1 ⟨u, z1, z2⟩ => by subst z1; exact ⟨u, rfl, z2⟩), fun e' e => ⟨(r1.2 e' e).1, wpAny_execs_cons (thn (r1.2 e' e).2 fun fl s1 ⟨z1, z2⟩ => by subst z1; exact wpAny_execs_nil ⟨rfl, z2⟩)⟩⟩
theorem qds_ret {e : Expr} {f : En → R D} (h : QDE q k e f) : QDS q k (.Return (some e) pos) (rtS f) := by
  intro A s E env rm r
  refine ⟨fun d z => ?_, fun e' z => ?_⟩
  · rw [e_rtS] at z
    cases ef : f env with
    | ok d' =>
      rw [ef] at z
      have z : SR.rt (.fr d') = .rt (.fr d) := z
      cases z
      exact wpAny_Return_some (thn (h A s E env d rm r ef) fun u s1 y => ⟨u, rfl, y⟩)
    | er c => rw [ef] at z; cases z
    | no => rw [ef] at z; cases z
  · rw [e_rtS] at z
    cases ef : f env with
    | ok d' => rw [ef] at z; cases z
    | er c => rw [ef] at z; cases z
    | no => rw [ef] at z; cases z
theorem qds_if {c : Expr} {t : En → R Bool} {st1 st2 : List Stmt} {T U : En → SR} (hc : QDT q k c t) (h1 : QDSs q k st1 T) (h2 : QDSs q k st2 U) : QDS q k (.If c st1 st2 pos) (ifS t T U) := by
  intro A s E env rm r
  cases et : t env with
  | er c => exact ⟨fun d z => (by rw [e_ifS, et] at z; cases z), fun d z => (by rw [e_ifS, et] at z; cases z)⟩
  | no => exact ⟨fun d z => (by rw [e_ifS, et] at z; cases z), fun d z => (by rw [e_ifS, et] at z; cases z)⟩
  | ok bb =>
    cases bb with
    | true =>
      refine ⟨fun d z => ?_, fun e' z => ?_⟩
      · rw [e_ifS, et] at z
        refine wpAny_If (thn (hc A s E env true rm r et) fun bv s1 ⟨z1, z2⟩ => ?_)
        subst z1
        exact thn ((h1 A s1 E env rm (r.keep z2)).1 d z) fun fl s2 ⟨u, y1, y2, y3⟩ => ⟨u, y1, y2, kp_trans z2 y3⟩
      · rw [e_ifS, et] at z
        refine ⟨((h1 A s E env rm r).2 e' z).1, wpAny_If (thn (hc A s E env true rm r et) fun bv s1 ⟨z1, z2⟩ => ?_)⟩
        subst z1
        exact thn ((h1 A s1 E env rm (r.keep z2)).2 e' z).2 fun fl s2 ⟨y1, y2⟩ => ⟨y1, kp_trans z2 y2⟩
    | false =>
      refine ⟨fun d z => ?_, fun e' z => ?_⟩
      · rw [e_ifS, et] at z
        refine wpAny_If (thn (hc A s E env false rm r et) fun bv s1 ⟨z1, z2⟩ => ?_)
        subst z1
        exact thn ((h2 A s1 E env rm (r.keep z2)).1 d z) fun fl s2 ⟨u, y1, y2, y3⟩ => ⟨u, y1, y2, kp_trans z2 y3⟩
      · rw [e_ifS, et] at z
        refine ⟨((h2 A s E env rm r).2 e' z).1, wpAny_If (thn (hc A s E env false rm r et) fun bv s1 ⟨z1, z2⟩ => ?_)⟩
        subst z1
        exact thn ((h2 A s1 E env rm (r.keep z2)).2 e' z).2 fun fl s2 ⟨y1, y2⟩ => ⟨y1, kp_trans z2 y2⟩
/-- the test as the derivations write it -/
theorem qdt_isN {p p2 : Pos} (ha : QDE q k a fa) : QDT q k (.Compare a [.Is] [.Constant .none j p] p2) (t2 fa cN isD) := by
  intro A s E env c rm r e
  refine qt_isN ha A s E env c rm r ?_
  unfold t2 at e
  obtain ⟨d, e1, e2⟩ := bind_ok e
  show (fa env).bind _ = _
  rw [e1]
  exact e2
/-! ### quiet functions -/
structure QFn (P : Program) (w : World) (K : PySem.W.Frag) (mg : Str → Option Value) (base : Heap) (k : Nat) (x : Str) (n : Nat) (g : List D → R S) : Prop where
  ex : ∃ f, mg x = some (.ref f) ∧ PySem.W.keepIn K (.ref f) = true ∧ ∀ (A : Around) (s : Shared) (us : List Value) (ds : List D) (d : D), Room k A → (∀ b o, base.get? b = some o → s.heap.get? b = some o) →
    us.length = n → VDs s.heap us ds → g ds = .ok (.fr d) → codeAny (model P w) A (.call (.ref f) ⟨us, []⟩) (fun r s' => ∃ u, r = .ok (.ret u) ∧ VD s'.heap u d ∧ Keeps s s') s
end
section
variable {P : Program} {w : World} {K : PySem.W.Frag} {mg : Str → Option Value} {base : Heap}
theorem qfn_mk {x : Str} {st : Stmt} {N ps : List Str} {k : Nat} {T : En → SR} (M : Mod K mg base) (F0 : Fd K mg x st ps) (S : FnScope N ps (defScope st)) (hl : ∀ y ∈ ps, (defScope st).names.lookup y = some .local)
    (hT : ∀ env : Env, env.scope = defScope st → env.globals = mainGlobals → QDSs ⟨P, w, K, mg, base, env, fun i => ps[i]?⟩ k (defBody st) T) : QFn P w K mg base (k + 1) x ps.length (bodyR N ps.length T) := by
  obtain ⟨f, fd, h1, h2, h3⟩ := F0.ex
  obtain ⟨oc, od, kV, doc, pm, an, cdv, ct, osl, rfl, lk, hcd⟩ := h1.ex
  refine ⟨f, h2, h1.kp, fun A s us ds d rm hb hn hv hg => ?_⟩
  have inH : K.In s.heap := M.kin.keeps hb
  have noL : s.heap.NoLimit := M.nolimit.keeps hb
  have hz : (us ++ []).length = ps.length := by rw [List.append_nil]; exact hn
  have bb := h3 s us inH hz
  rw [List.append_nil] at bb
  have kinds : ∀ z ∈ ps.zip us, (defScope st).names.lookup z.1 = some .local ∨ ((defScope st).names.lookup z.1 = some .cell ∧ ((cellsFrom (s.heap.objs.size + 1) (defScope st).names []).lookup z.1).isSome = true) := by
    rintro ⟨n, u⟩ hz
    exact .inl (hl n (List.of_mem_zip hz).1)
  refine codeAny_call_function rm.depth (inH _ _ lk) rfl S.co S.gen rfl (PySem.W.codeRec_of inH hcd) (bb _ _ _ _ ?_)
  refine wpAny_newFunctionEnv_cells S.kind kinds fun env1 eq1 s1 made => ?_
  have ndP : ps.Nodup := by rw [← S.pre]; exact S.nd.sublist (List.take_sublist _ _)
  have kd : ∀ y ∈ ps, env1.kindOf y = some .local := fun y hy => by subst eq1; exact hl y hy
  have e1 : env1.scope = defScope st := by subst eq1; rfl
  have e2 : env1.globals = mainGlobals := by subst eq1; rfl
  refine ⟨noL.keeps made.toInCall.keep, codeAny_func ?_⟩
  have kp : Keeps s s1 := made.toInCall.done
  have hd : us.length = ds.length := hv.len
  have hn2 : ds.length = ps.length := hd.symm.trans hn
  have hr : QR ⟨P, w, K, mg, base, env1, fun i => ps[i]?⟩ (init N ds) s1 := by
    refine ⟨fun b o e => kp_heap kp b o (hb b o e), _, made.toInCall.ns, fun i y d' h4 h5 => ?_⟩
    have hi : i < ds.length := by
      have := (List.getElem?_eq_some_iff.mp h4).1
      omega
    unfold init at h5
    rw [List.getElem?_append_left (by simpa using hi), List.getElem?_map] at h5
    have h6 : ds[i]? = some d' := by
      cases z : ds[i]? with
      | none => rw [z] at h5; cases h5
      | some d0 => rw [z] at h5; cases h5; rfl
    obtain ⟨u, z1, z2⟩ := hv.get h6
    exact ⟨u, bindL_get ndP h4 z1 (kd y (List.mem_of_getElem? h4)), z2.keeps (kp_heap kp) _ _⟩
  unfold bodyR at hg
  rw [if_pos hn2] at hg
  have body := fun E => hT env1 e1 e2 (A.deeper env1) s1 E (init N ds) (rm.deeper _) hr
  cases eT : T (init N ds) with
  | rt t =>
    rw [eT] at hg
    have hg : R.ok t = .ok (.fr d) := hg
    cases hg
    exact wpAny_mono ((body _).1 d eT) (fun fl s2 ⟨u, z1, z2, z3⟩ => by subst z1; exact ⟨u, rfl, z2, kp_trans kp z3⟩) fun _ _ z => z
  | nx e' =>
    rw [eT] at hg
    have hg : R.ok (DL.S.fr .none) = .ok (.fr d) := hg
    cases hg
    exact wpAny_mono ((body _).2 e' eT).2 (fun fl s2 ⟨z1, z2⟩ => by subst z1; exact ⟨.none, rfl, .non, kp_trans kp z2⟩) fun _ _ z => z
  | er c e' => rw [eT] at hg; cases hg
  | bk e' => rw [eT] at hg; cases hg
  | ct e' => rw [eT] at hg; cases hg
  | no => rw [eT] at hg; cases hg
end
section
variable {q : QX} {k : Nat} {pos : Pos} {j : Nat} {e : Expr} {es : List Expr} {f : En → R D} {fs : En → R (List D)} {g : List D → R S}
theorem qda_nil : QDA q k [] nilA := by
  intro pos A s E env ds rm r z
  cases z
  exact Calls.spliced_nil ⟨.nil, kp_refl s⟩
theorem qda_cons (h1 : QDE q k e f) (h2 : QDA q k es fs) (he : starEach (e :: es) q.env = (false, eval e q.env) :: starEach es q.env := by rfl) : QDA q k (e :: es) (consA f fs) := by
  intro pos A s E env ds rm r z
  obtain ⟨d, z1, z⟩ := bind_ok z
  obtain ⟨ds', z2, z⟩ := bind_ok z
  cases z
  rw [he]
  show wpAny _ _ (spliced ((false, eval e q.env) :: backTo pos (starEach es q.env))) _ _ s
  refine Calls.spliced_cons (thn (h1 A s _ env d rm r z1) fun u s1 ⟨v1, k1⟩ => ?_)
  exact thn (h2 pos A s1 _ env ds' rm (r.keep k1) z2) fun us s2 ⟨v2, k2⟩ => ⟨.cons (v1.keeps (kp_heap k2) _ _) v2, kp_trans k1 k2⟩
/-- a value that no list belongs to -/
def frO (f : En → R S) : En → R D := fun env => (f env).bind fun s => match s with
  | .fr d => .ok d
  | _ => .no
@[simp] theorem e_frO {f : En → R S} {env : En} {d : D} (h : f env = .ok (.fr d)) : frO f env = .ok d := by
  unfold frO; rw [h]; rfl
/-- a call of a quiet function -/
theorem qde_call {x : Str} {p : Pos} {n : Nat} (o : QO q) (c : QFn q.P q.w q.K q.mg q.base k x n g) (hg : q.env.kindOf x = some .globalImplicit) (ha : QDA q k (e :: es) fs) (hn : ∀ ds env, fs env = .ok ds → ds.length = n) (hdb : (x == ("__debug__" : Str)) = false := by decide)
    (he : starEach (e :: es) q.env = (false, eval e q.env) :: starEach es q.env := by rfl) (hpl : (backTo pos (starEach es q.env)).any (·.1) = false := by rfl) : QDE q k (.Call (.Name x p) (e :: es) [] pos) (frO (cal fs g)) := by
  intro A s E env d rm r z
  obtain ⟨f, c1, c2, c3⟩ := c.ex
  obtain ⟨sv, z1, z⟩ := bind_ok z
  obtain ⟨ds, z2, z3⟩ := bind_ok z1
  have nl := hn ds env z2
  refine wpAny_Call_Name_kw (Calls.Name_function_global o.kind hg (Calls.loadGlobal_global (by rw [o.glob]; exact o.mod.glob.keeps r.bk) c1 ?_) hdb)
  refine PySem.W.callWith_K (h₀ := q.base) o.mod.kin c2 (thn (ha pos A s E env ds rm r z2) fun us s1 ⟨v1, k1⟩ => ⟨o.mod.kin.keeps fun b ob eb => kp_heap k1 b ob (r.bk b ob eb), ?_⟩) he hpl
  cases sv with
  | fr d' =>
    have z : R.ok d' = .ok d := z
    cases z
    refine wpAny_call (codeAny_mono (c3 A s1 us ds d rm (fun b ob eb => kp_heap k1 b ob (r.bk b ob eb)) (v1.len.trans nl) v1 z3) fun rr s2 ⟨u, y1, y2, y3⟩ => ?_)
    subst y1
    exact ⟨y2, kp_trans k1 y3⟩
  | ow xs => cases z
  | tu xs => cases z
end
end DL
namespace DL
open PySem PySem.Spec PyProof.Rows L2
variable [Tabs]
/-! ### any, all of a generator expression whose element is quiet -/
/-- the answers of the elements -/
def anyF (b : D → En → Option En) (f : En → R D) (env : En) : List D → R (List Bool)
  | [] => .ok []
  | d :: ds => match b d env with
    | none => .no
    | some e => match f e with
      | .ok (.bool k) => (anyF b f env ds).bind fun ks => .ok (k :: ks)
      | _ => .no
def gexR (vs : List Nat) (it : En → R (List D)) (b : D → En → Option En) (f : En → R D) (h : List Bool → Bool) : En → R D := fun env => match it env with
  | .ok ds => match anyF b f (wipeE env vs) ds with
    | .ok ks => .ok (.bool (h ks))
    | _ => .no
  | _ => .no
abbrev anyK (ks : List Bool) : Bool := ks.any id
abbrev allK (ks : List Bool) : Bool := ks.all id
theorem anyF_get {b : D → En → Option En} {f : En → R D} {env : En} : ∀ {ds : List D} {ks : List Bool}, anyF b f env ds = .ok ks → ds.length = ks.length ∧ ∀ (i : Nat) (d : D), ds[i]? = some d → ∃ (e : En) (k : Bool), b d env = some e ∧ f e = .ok (.bool k) ∧ ks[i]? = some k
  | [], ks, h => by cases h; exact ⟨rfl, fun i d e => by simp at e⟩
  | d :: ds, ks, h => by
    rw [anyF] at h
    cases e1 : b d env with
    | none => rw [e1] at h; cases h
    | some e =>
      rw [e1] at h
      dsimp only at h
      cases e2 : f e with
      | er c => rw [e2] at h; cases h
      | no => rw [e2] at h; cases h
      | ok v =>
        rw [e2] at h
        cases v <;> try (cases h; done)
        rename_i k
        obtain ⟨ks', e3, h⟩ := bind_ok h
        cases h
        obtain ⟨h1, h2⟩ := anyF_get e3
        refine ⟨by simp [h1], fun i d' hi => ?_⟩
        cases i with
        | zero => simp at hi; subst hi; exact ⟨e, k, e1, e2, rfl⟩
        | succ i => simpa using h2 i d' (by simpa using hi)
/-- the scope of a generator expression of two names -/
structure GenS2 (env : Env) (scope : Scope) (xa xb : Str) : Prop where
  kind : scope.kind = .function
  co : scope.isCoroutine = false
  cell : ∀ y ∈ scope.names, y.2 ≠ .cell
  dot : scope.names.lookup (".0" : Str) = some NameKind.local
  la : scope.names.lookup xa = some .local
  lb : scope.names.lookup xb = some .local
  free : ∀ y ∈ scope.names, y.2 = .free → ∃ c, env.cells.lookup y.1 = some c
  ab : xa ≠ xb
theorem Same.grow {H : Hp} {P : Addr} {ps more : Array Value} (hP : H P = some (.tbl ps)) (ht : TriplesOk (ps ++ more).toList) : Same H (L2.upd H P (.tbl (ps ++ more))) := ⟨fun b o e hn => by
  by_cases hb : b = P
  · subst hb; rw [hP] at e; cases e; cases hn
  · rw [upd_ne hb]; exact e, fun b qs e => by
  by_cases hb : b = P
  · subst hb; rw [hP] at e; cases e
    exact ⟨more, upd_same, fun _ => ht⟩
  · exact ⟨#[], by rw [upd_ne hb, Array.append_empty]; exact e, by rw [Array.append_empty]; exact id⟩⟩
theorem pass_all (n : Nat) : passing (fun _ => true) n 0 = List.range n := by unfold passing; simp
theorem any_range (ks : List Bool) : (List.range ks.length).any (fun i => ks.getD i false) = anyK ks := by
  rw [Bool.eq_iff_iff, List.any_eq_true, List.any_eq_true]
  constructor
  · rintro ⟨i, hi, h⟩
    have hi := List.mem_range.mp hi
    rw [List.getD_eq_getElem?_getD, List.getElem?_eq_getElem hi] at h
    exact ⟨_, List.getElem_mem hi, h⟩
  · rintro ⟨b, hb, h⟩
    obtain ⟨i, hi, e⟩ := List.getElem_of_mem hb
    refine ⟨i, List.mem_range.mpr hi, ?_⟩
    rw [List.getD_eq_getElem?_getD, List.getElem?_eq_getElem hi]
    rw [← e] at h; exact h
theorem all_range (ks : List Bool) : (List.range ks.length).all (fun i => ks.getD i false) = allK ks := by
  rw [Bool.eq_iff_iff, List.all_eq_true, List.all_eq_true]
  constructor
  · intro h b hb
    obtain ⟨i, hi, e⟩ := List.getElem_of_mem hb
    have := h i (List.mem_range.mpr hi)
    rw [List.getD_eq_getElem?_getD, List.getElem?_eq_getElem hi] at this
    rw [← e]; exact this
  · intro h i hi
    have hi := List.mem_range.mp hi
    rw [List.getD_eq_getElem?_getD, List.getElem?_eq_getElem hi]
    exact h _ (List.getElem_mem hi)
/-- a generator is ready in s5: its answers are ks; H1: what was tracked -/
def GRdy (X : Cx) (pins : List (Addr × Obj)) (σ : L2.St) (F1 H1 : Hp) (ks : List Bool) (g : Addr) (s5 : Shared) : Prop :=
  ∃ (fp wr : List Addr) (G : Array GenState → Array GenState → Prop) (Fv : Nat → Value → Prop) (St : Nat → Shared → Prop),
    WalksS X.prog X.w X.A.in1 g fp wr G ks.length Fv St ∧ St 0 s5 ∧ TruthOf X.prog X.w X.A.in1 Fv (fun i => ks.getD i false) ∧
    ∀ s', Moved wr G s5 s' → ∃ H2, After F1 H1 F1 H2 ∧ Inv X pins σ H2 s'
section
variable {X : Cx} {W : WX} {k : Nat} {m : Md} {pins : List (Addr × Obj)} {σ : L2.St}
theorem gen_zip {c P : Addr} {e1 e2 elt : Expr} {xa xb : Str} {pa pb pt zp zpos gpos : Pos} {kt ia ib : Nat} {scope : Scope} {fs : En → R (List D)} {fe : En → R D} {B F H : Hp} {env : En} {s : Shared} {ks : List Bool} {Q' : Value → Shared → Prop}
    (hr : Room (k + 1) X.A) (TB : GxR.TabB X.base X.mg c P) (hcode : X.env.code = .ref c) (hP : P ∈ Tabs.T) (S : GenS2 X.env scope xa xb) (ha : DA X W [.f, .f] [e1, e2] fs) (hz : Gl X "zip") (hzm : X.mg "zip" = none) (iab : ia ≠ ib) (hla : ia < env.length) (hlb : ib < env.length)
    (hel : ∀ cenv : Env, cenv.scope = scope → cenv.globals = mainGlobals → QDE ⟨X.prog, X.w, X.K, X.mg, X.base, cenv, fun i => if i = ia then some xa else if i = ib then some xb else none⟩ k elt fe)
    (hs : ∀ v, genFold (.Call (.Name "zip" zp) [e1, e2] [] zpos) X.env v = pure v)
    (I : Inv X pins σ H s) (r : Rel X.K B F H env σ) {ds : List D} (hfs : fs env = .ok ds) {zs : List D} (hzs : zip2 ds = .ok zs) (hks : anyF (tupG 2 (consG (setN ia) (consG (setN ib) nilG))) fe (wipeE env [ia, ib]) zs = .ok ks)
    (hst : starEach [e1, e2] X.env = (false, eval e1 X.env) :: starEach [e2] X.env := by rfl) (hpl : (backTo zpos (starEach [e2] X.env)).any (·.1) = false := by rfl)
    (hQ : ∀ F1 H1 g s5, After F H F1 H1 → GRdy X pins σ F1 H1 ks g s5 → Q' (.ref g) s5) :
    wpAny (model X.prog X.w) X.A (eval (.GeneratorExp elt [⟨.Tuple [.Name xa pa, .Name xb pb] kt pt, .Call (.Name "zip" zp) [e1, e2] [] zpos, [], 0⟩] scope gpos) X.env) Q' X.xe s := by
  obtain ⟨xs, ys, rfl, rfl⟩ : ∃ xs ys, ds = [.list xs, .list ys] ∧ zs = zipL xs ys := by
    unfold zip2 at hzs
    split at hzs
    · cases hzs; exact ⟨_, _, rfl, rfl⟩
    · cases hzs
  obtain ⟨hlen, hget⟩ := anyF_get hks
  refine wpAny_GeneratorExp_walksQTD hr.hd S.co (closure_ok S.free) S.cell S.dot S.la S.lb S.ab S.kind hr.depth ?_ hs
  have arg : tA X.K (ecOf X.mg) W [.f, .f] fs σ H (fun vs H1 => ∃ F1, After F H F1 H1 ∧ RpL X.K F1 H1 [.f, .f] vs [.list xs, .list ys]) := by
    refine ⟨B, F, env, r, ?_⟩
    rw [hfs]
    exact fun vs H1 F1 a rl => ⟨F1, a, rl⟩
  refine Call_ (ld_blt I hz hzm PyProof.Rows.boot_zip (PyProof.Rows.callWith_type1 (thn (ha.run zpos pins s σ H _ I arg) fun us s1 ⟨vs, H1, I1, rv, F1, a, rl⟩ => ?_) hst hpl))
  obtain ⟨v1, v2, rfl, d1, d2⟩ : ∃ v1 v2, vs = [v1, v2] ∧ Dp X.K F1 v1 (.list xs) ∧ Dp X.K F1 v2 (.list ys) := by
    cases rl with
    | cons x1 rl => cases rl with
      | cons x2 rl => cases rl; exact ⟨_, _, rfl, x1, x2⟩
  obtain ⟨u1, u2, rfl, w1, w2⟩ : ∃ u1 u2, us = [u1, u2] ∧ VD s1.heap u1 (.list xs) ∧ VD s1.heap u2 (.list ys) := by
    cases rv with
    | cons y1 rv => cases rv with
      | cons y2 rv => cases rv; exact ⟨_, _, rfl, VD.ofDp I1 a.fh _ _ _ d1 y1, VD.ofDp I1 a.fh _ _ _ d2 y2⟩
  cases w1 with
  | @lst l1 its1 _ hz1 il1 vd1 =>
  cases w2 with
  | @lst l2 its2 _ hz2 il2 vd2 =>
  -- the table
  have r1 : Rel X.K B F1 H1 env σ := r.after a
  obtain ⟨ps, hPs, ht⟩ := r1.bh.tgH P hP
  have hPh : s1.heap.get? P = some { cls := .none, data := .fields ps } := I1.hok P _ hPs
  have lt1 : l1 < s1.heap.objs.size := by obtain ⟨o, e, _⟩ := il1; exact Heap.lt_size e
  have lt2 : l2 < s1.heap.objs.size := by obtain ⟨o, e, _⟩ := il2; exact Heap.lt_size e
  have ne1 : l1 ≠ P := fun z => by
    obtain ⟨o, e, c, _⟩ := il1
    rw [z, hPh] at e; cases e; cases c
  have ne2 : l2 ≠ P := fun z => by
    obtain ⟨o, e, c, _⟩ := il2
    rw [z, hPh] at e; cases e; cases c
  have ltP : P < s1.heap.objs.size := Heap.lt_size hPh
  refine call_zip_2 il1 il2 fun h2 hzz hTI hTO hi1 hi2 hsz hk2 => ?_
  have I2 : Inv X pins σ H1 { s1 with heap := h2 } := I1.kept (t' := s1.toks) hk2
  refine wpAny_pyIter_zip hzz ⟨I2.nolimit, ?_⟩
  have hP2 : h2.get? P = some { cls := .none, data := .fields ps } := hk2 _ _ hPh
  have cdh : PySem.W.CodeHd h2 c P := TB.code.keeps fun b u e => hk2 b u (I1.bk b u e)
  have goOn : ∀ (code : Value) (h3 : Heap) (tk : Nat) (more : Array Value), Heap.ExtBut P h2 h3 → h2.objs.size ≤ h3.objs.size → h3.get? P = some { cls := .none, data := .fields (ps ++ more) } → TriplesOk (ps ++ more).toList →
      wpAny (model X.prog X.w) X.A (builtinsFor X.env.globals X.env.builtins) (fun bi s₄ =>
        ∃ Ia fp wr n₀ Pt St₀ Mid pz Fv, Value.ref (s1.heap.objs.size + 4) = .ref Ia ∧ (∀ A' : Around, A'.handled = none → WalksU X.prog X.w A' Ia fp wr n₀ Pt St₀ Mid) ∧ (∀ i vals, Pt i vals → ∃ va vb, vals = #[va, vb]) ∧ St₀ 0 s₄.heap ∧ (∀ b ∈ fp, b < s₄.heap.objs.size) ∧ s₄.heap.NoLimit ∧ cStatics ∉ wr ∧
          (∀ href : Heap, (∀ b o, s₄.heap.get? b = some o → href.get? b = some o) →
            QuietGenTD X.prog X.w (genEnv scope (cloFrom X.env.cells scope.names []) s₄.heap.objs.size code bi X.env) xa xb [] elt (List.range s₄.heap.objs.size) wr Pt pz Fv href (X.A.depth + 1) (X.A.units + 8)) ∧
          (∀ g h₅ tk gs, gs.bare = true → s₄.heap.objs.size < g → h₅.objs.size = g + 1 → (∀ b o, s₄.heap.get? b = some o → h₅.get? b = some o) →
            WalksS X.prog X.w X.A.in4 g (g :: s₄.heap.objs.size :: List.range s₄.heap.objs.size) (s₄.heap.objs.size :: wr) (GenOnlyQ s₄.gens.size) (passing pz n₀ 0).length
              (fun j y => ∃ i, (passing pz n₀ 0)[j]? = some i ∧ Fv i y) (GenAt X.prog X.w X.A.in4 g s₄.gens.size s₄.heap.objs.size (List.range s₄.heap.objs.size) wr pz n₀ Fv) →
            GenAt X.prog X.w X.A.in4 g s₄.gens.size s₄.heap.objs.size (List.range s₄.heap.objs.size) wr pz n₀ Fv 0 { s₄ with gens := s₄.gens.push gs, toks := tk, heap := h₅ } →
            Q' (.ref g) { s₄ with gens := s₄.gens.push gs, toks := tk, heap := h₅ })) X.xe { s1 with heap := h3, toks := tk } := by
    intro code h3 tk more hx hge hP3 ht3
    obtain ⟨mm, mo, b1, b2', b3, b4, b5, b6, b7, b8⟩ := TB.bm
    have stP : cStatics ≠ P := fun z => by
      obtain ⟨_, nn, _⟩ := I1.nolimit
      obtain ⟨o', es, ep, ho, hd, _⟩ := nn
      rw [z, hPh] at ho; cases ho; cases hd
    have stlt : cStatics < s1.heap.objs.size := by
      obtain ⟨_, nn, _⟩ := I1.nolimit
      exact nn.lt
    have old3 : ∀ b u, b ≠ P → s1.heap.get? b = some u → h3.get? b = some u := fun b u hb e => hx b u hb (hk2 b u e)
    refine wpAny_builtinsFor (m := X.mg) (by rw [I1.ok.glob]; exact (I2.mod.glob.keeps I2.bk).extBut hx TB.gP) b1 b2' (old3 _ _ b4 (I1.bk _ _ b5)) b6 b7 b8 ?_
    have Wk := fun (A' : Around) (hA : A'.handled = none) => (WalksT.zip2 (prog := X.prog) (w := X.w) hA (s1.heap.objs.size + 4) (s1.heap.objs.size + 2) (s1.heap.objs.size + 3) s1.heap.objs.size (s1.heap.objs.size + 1) l1 l2 (PySem.W.ktu_apart s1.heap.objs.size l1 l2 lt1 lt2) its1.toArray its2.toArray).toU
    have big : ∀ b, s1.heap.objs.size ≤ b → b ≠ P := fun b hb z => by rw [z] at hb; exact absurd ltP (Nat.not_lt.mpr hb)
    have hn : min its1.toArray.size its2.toArray.size = ks.length := by
      rw [← hlen]; simp [zipL, vd1.len, vd2.len]
    refine ⟨s1.heap.objs.size + 4, _, _, _, _, _, _, (fun _ => true), (fun i y => ∃ kk, ks[i]? = some kk ∧ y = .bool kk), rfl, Wk, (fun i vals hv => by obtain ⟨x, y, _, _, e⟩ := hv; exact ⟨x, y, e⟩), ?_, ?_, I2.nolimit.extBut hx stP, ?_, ?_, ?_⟩
    · refine (Wk X.A hr.hd).frame _ _ _ ⟨hzz, hTI, ⟨_, _, hTO⟩, hi1, hi2, Heap.IsList.at il1 fun o e => hk2 _ o e, Heap.IsList.at il2 fun o e => hk2 _ o e⟩ fun b hb u e => hx b u (fun z => ?_) e
      simp only [List.mem_cons, List.not_mem_nil, or_false] at hb
      rcases hb with y | y | y | y | y | y | y
      · exact big b (by rw [y]; omega) z
      · exact big b (by rw [y]; omega) z
      · exact big b (by rw [y]; omega) z
      · exact big b (by rw [y]; exact Nat.le_refl _) z
      · exact big b (by rw [y]; omega) z
      · exact ne1 (y.symm.trans z)
      · exact ne2 (y.symm.trans z)
    · intro b hb
      show b < h3.objs.size
      have sz : ∀ n : Nat, n < 5 → (s1.heap.objs.size + n : Nat) < h3.objs.size := fun n hn => by omega
      simp only [List.mem_cons, List.not_mem_nil, or_false] at hb
      rcases hb with y | y | y | y | y | y | y
      · rw [y]; exact sz 4 (by decide)
      · rw [y]; exact sz 2 (by decide)
      · rw [y]; exact sz 3 (by decide)
      · rw [y]; exact sz 0 (by decide)
      · rw [y]; exact sz 1 (by decide)
      · rw [y]; exact Nat.lt_trans lt1 (sz 0 (by decide))
      · rw [y]; exact Nat.lt_trans lt2 (sz 0 (by decide))
    · intro z
      simp only [List.mem_cons, List.not_mem_nil, or_false] at z
      rcases z with y | y | y | y
      · rw [y] at stlt; exact absurd stlt (Nat.not_lt.mpr (Nat.le_add_right _ _))
      · rw [y] at stlt; exact absurd stlt (Nat.not_lt.mpr (Nat.le_add_right _ _))
      · rw [y] at stlt; exact absurd stlt (Nat.lt_irrefl _)
      · rw [y] at stlt; exact absurd stlt (Nat.not_lt.mpr (Nat.le_add_right _ _))
    · intro href hhr
      have hm4 : ∀ b o, b ≠ P → s1.heap.get? b = some o → b ∈ List.range h3.objs.size ∧ b ∉ [s1.heap.objs.size + 4, s1.heap.objs.size + 3, s1.heap.objs.size, s1.heap.objs.size + 1] ∧ href.get? b = some o := fun b o hb e => by
        have l := Heap.lt_size e
        refine ⟨List.mem_range.mpr (Heap.lt_size (old3 b o hb e)), fun z => ?_, hhr b o (old3 b o hb e)⟩
        simp only [List.mem_cons, List.not_mem_nil, or_false] at z
        rcases z with y | y | y | y
        · rw [y] at l; exact absurd l (Nat.not_lt.mpr (Nat.le_add_right _ _))
        · rw [y] at l; exact absurd l (Nat.not_lt.mpr (Nat.le_add_right _ _))
        · rw [y] at l; exact absurd l (Nat.lt_irrefl _)
        · rw [y] at l; exact absurd l (Nat.not_lt.mpr (Nat.le_add_right _ _))
      refine ⟨fun A' E' i va vb s₂ m₂ hA _ _ hp hns hma hmb hk => ?_, fun A' E' i va vb s₂ m₂ hA hD hU hp hpz hns hma hmb hk => ?_⟩
      · simp only [List.forIn_nil]
        exact wpAny_pure ⟨rfl, kp_refl _⟩
      · obtain ⟨x, y, hx1, hy1, exy⟩ := hp
        obtain ⟨ex, ey⟩ : va = x ∧ vb = y := by simpa using congrArg Array.toList exy
        subst ex ey
        have keepTo : ∀ b o, b ≠ P → s1.heap.get? b = some o → s₂.heap.get? b = some o := fun b o hb e => hk b (hm4 b o hb e).1 (hm4 b o hb e).2.1 o (hm4 b o hb e).2.2
        obtain ⟨da, hda, vda⟩ := vd1.getU (i := i) (by simpa using hx1)
        obtain ⟨db, hdb, vdb⟩ := vd2.getU (i := i) (by simpa using hy1)
        have hzi : (zipL xs ys)[i]? = some (.tuple [da, db]) := by
          unfold zipL; rw [List.getElem?_zipWith, hda, hdb]
        obtain ⟨en, kk, g1, g2, g3⟩ := hget i _ hzi
        have hen : en = ((wipeE env [ia, ib]).set ia (some (.v (.fr da)))).set ib (some (.v (.fr db))) := by
          have : tupG 2 (consG (setN ia) (consG (setN ib) nilG)) (.tuple [da, db]) (wipeE env [ia, ib]) = some (((wipeE env [ia, ib]).set ia (some (.v (.fr da)))).set ib (some (.v (.fr db)))) := rfl
          rw [this] at g1; exact (Option.some.inj g1).symm
        have rm : Room k A' := ⟨hA, by have := hr.dp; omega, by have := hr.un; omega⟩
        have cls : ∀ {v : Value} {d : D}, VD s1.heap v d → VD s₂.heap v d := fun v => VD.keepC (fun b o hc e => keepTo b o (fun z => by rw [z, hPh] at e; cases e; exact hc rfl) e) _ _ v
        have hl : (wipeE env [ia, ib]).length = env.length := by simp
        refine wpAny_mono (hel (genEnv scope (cloFrom X.env.cells scope.names []) h3.objs.size code builtinsNs X.env) rfl (show X.env.globals = mainGlobals from I1.ok.glob) A' s₂ E' en (.bool kk) rm ⟨fun b o e => keepTo b o (fun z => ?_) (I1.bk b o e), m₂, hns, fun j x d h4 h5 => ?_⟩ g2) (fun y s3 ⟨q1, q2⟩ => ⟨⟨kk, g3, ?_⟩, q2⟩) fun _ _ z => z
        · have := (I1.bs b o e).2
          rw [z, hPs] at this; cases this
        · rw [hen] at h5
          dsimp only at h4
          by_cases ja : j = ia
          · subst ja
            rw [if_pos rfl] at h4; cases h4
            rw [List.getElem?_set_ne (Ne.symm iab), List.getElem?_set_self (by omega)] at h5
            cases h5
            exact ⟨va, hma, cls vda⟩
          · rw [if_neg ja] at h4
            by_cases jb : j = ib
            · subst jb
              rw [if_pos rfl] at h4; cases h4
              rw [List.getElem?_set_self (by rw [List.length_set]; omega)] at h5
              cases h5
              exact ⟨vb, hmb, cls vdb⟩
            · rw [if_neg jb] at h4; cases h4
        · cases q1; rfl
    · intro g h5 tk5 gs hgb hag hs5 hk5 W5 hat
      simp only [pass_all, List.length_range, hn] at W5
      rw [hn] at hat
      refine hQ F1 H1 g _ a ⟨_, _, _, _, _, W5.in4_1, hat, ?_, fun s' hm => ?_⟩
      · intro j y sj Qj Ej hy hQj
        obtain ⟨i, hij, kk, hkk, rfl⟩ := hy
        obtain ⟨hj, ej⟩ := List.getElem?_eq_some_iff.mp hij
        rw [List.getElem_range] at ej
        subst ej
        refine wpAny_truthy_bool ?_
        have hQ2 : Qj (ks.getD j false) sj := hQj
        rw [List.getD_eq_getElem?_getD, hkk] at hQ2
        exact hQ2
      · have nwr : ∀ b u, s1.heap.get? b = some u → b ∉ h3.objs.size :: [s1.heap.objs.size + 4, s1.heap.objs.size + 3, s1.heap.objs.size, s1.heap.objs.size + 1] := fun b u e hb => by
          have l := Heap.lt_size e
          have sz : s1.heap.objs.size ≤ h3.objs.size := by omega
          simp only [List.mem_cons, List.not_mem_nil, or_false] at hb
          rcases hb with y | y | y | y | y
          · rw [y] at l; exact absurd l (Nat.not_lt.mpr sz)
          · rw [y] at l; exact absurd l (Nat.not_lt.mpr (Nat.le_add_right _ _))
          · rw [y] at l; exact absurd l (Nat.not_lt.mpr (Nat.le_add_right _ _))
          · rw [y] at l; exact absurd l (Nat.lt_irrefl _)
          · rw [y] at l; exact absurd l (Nat.not_lt.mpr (Nat.le_add_right _ _))
        have J := GxR.inv_tab (more := more) (h' := s'.heap) (g' := s'.gens) (d' := s'.drawn) (t' := s'.toks) I1 hPs (fun b u hb e => hm.heap b u (nwr b u e) (hk5 b u (old3 b u hb e))) (hm.heap P _ (nwr P _ hPh) (hk5 P _ hP3)) (AllBare.movedS (I1.bare.push hgb) hm)
        rw [GxR.sh_eta s1 s' hm.os] at J
        have gr := Same.grow hPs ht3
        exact ⟨_, ⟨Same.refl _, a.fh.trans gr, gr, fun x o e n => by rw [n] at e; cases e⟩, J⟩
  cases hf : codeAmong gpos ps.toList with
  | none =>
    refine wpAny_genexprCodeX hcode (cdh.code hP2 ht) (cdh.tab hP2) hf fun c' h' tk hx hge hlt hco' _ htab' _ => ?_
    obtain ⟨_, _, _, _, _, _, _, _, _, _, _, _, _, _, _, _, _, _, _, htr, _⟩ := hco'
    exact goOn _ h' tk _ hx (Nat.le_trans hge (Nat.le_of_lt hlt)) htab'.2 htr
  | some cv =>
    refine wpAny_genexprCode_hit hcode (cdh.code hP2 ht) hf ?_
    exact goOn cv h2 s1.toks #[] (Heap.ExtBut.refl _ _) (Nat.le_refl _) (by rw [Array.append_empty]; exact hP2) (by rw [Array.append_empty]; exact ht)
/-- any(.. for a, b in zip(..)), all(..) -/
theorem de_gexZ {all : Bool} {c P : Addr} {e1 e2 elt : Expr} {xa xb : Str} {p pa pb pt zp zpos gpos pos : Pos} {kt ia ib : Nat} {scope : Scope} {fs : En → R (List D)} {fe : En → R D}
    (hr : Room (k + 1) X.A) (TB : GxR.TabB X.base X.mg c P) (hcode : X.env.code = .ref c) (hP : P ∈ Tabs.T) (S : GenS2 X.env scope xa xb) (ha : DA X W [.f, .f] [e1, e2] fs) (hgz : Gl X "zip") (hzm : X.mg "zip" = none) (hg : Gl X (if all then "all" else "any")) (hm : X.mg (if all then "all" else "any") = none)
    (hel : ∀ cenv : Env, cenv.scope = scope → cenv.globals = mainGlobals → QDE ⟨X.prog, X.w, X.K, X.mg, X.base, cenv, fun i => if i = ia then some xa else if i = ib then some xb else none⟩ k elt fe)
    (iab : ia ≠ ib := by decide) (hla : ia < X.N.length := by exact Nat.le_of_ble_eq_true rfl) (hlb : ib < X.N.length := by exact Nat.le_of_ble_eq_true rfl)
    (hs : ∀ v, genFold (.Call (.Name "zip" zp) [e1, e2] [] zpos) X.env v = pure v := by intro _; rfl)
    (he : starEach [.GeneratorExp elt [⟨.Tuple [.Name xa pa, .Name xb pb] kt pt, .Call (.Name "zip" zp) [e1, e2] [] zpos, [], 0⟩] scope gpos] X.env = (false, eval (.GeneratorExp elt [⟨.Tuple [.Name xa pa, .Name xb pb] kt pt, .Call (.Name "zip" zp) [e1, e2] [] zpos, [], 0⟩] scope gpos) X.env) :: starEach [] X.env := by rfl)
    (hst : starEach [e1, e2] X.env = (false, eval e1 X.env) :: starEach [e2] X.env := by rfl) (hpl : (backTo zpos (starEach [e2] X.env)).any (·.1) = false := by rfl) :
    DE X W m (.Call (.Name (if all then "all" else "any") p) [.GeneratorExp elt [⟨.Tuple [.Name xa pa, .Name xb pb] kt pt, .Call (.Name "zip" zp) [e1, e2] [] zpos, [], 0⟩] scope gpos] [] pos)
      (gexR [ia, ib] (cal fs zip2) (tupG 2 (consG (setN ia) (consG (setN ib) nilG))) fe (if all then allK else anyK)) := by
  refine ⟨fun pins s σ H Q I ⟨B, F, env, r, q⟩ => ?_⟩
  have hlen : env.length = X.N.length := by
    obtain ⟨as, h1, _, _⟩ := r.sl
    rw [← h1.len, I.len]
  unfold gexR cal at q
  cases e0 : fs env with
  | no => rw [e0] at q; exact q.elim
  | er cc => rw [e0] at q; exact q.elim
  | ok ds =>
    rw [e0, show (R.ok ds).bind zip2 = zip2 ds from rfl] at q
    cases ez : zip2 ds with
    | no => rw [ez] at q; exact q.elim
    | er cc => rw [ez] at q; exact q.elim
    | ok zs =>
      rw [ez] at q
      dsimp only at q
      cases ek : anyF (tupG 2 (consG (setN ia) (consG (setN ib) nilG))) fe (wipeE env [ia, ib]) zs with
      | no => rw [ek] at q; exact q.elim
      | er cc => rw [ek] at q; exact q.elim
      | ok ks =>
        rw [ek] at q
        have q : PoE X.K (ecOf X.mg) W m F H σ Q (.ok (.bool ((if all then allK else anyK) ks))) := q
        cases all with
        | false =>
          refine wpAny_Call_Name_kw (ld_blt I hg hm boot_any ?_)
          refine PyProof.Rows.callWith_builtin1 ?_ he (by rfl)
          rw [he]
          refine Calls.spliced_cons (gen_zip hr TB hcode hP S ha hgz hzm iab (by omega) (by omega) hel hs I r e0 ez ek hst hpl fun F1 H1 g s5 a ⟨fp, wr, G, Fv, Sx, Wk, hst, htr, hI⟩ => ?_)
          refine Calls.spliced_nil ?_
          refine call_any_walkS (Wk.self 0 _ _ _ hst ⟨g, fp, wr, G, _, Fv, Sx, _, rfl, Wk, hst, htr, fun s' hmv => ?_⟩)
          obtain ⟨H2, a2, J⟩ := hI s' hmv
          refine ⟨.bl _, H2, J, rfl, ?_⟩
          rw [any_range]
          exact q _ _ _ (a.trans a2) (Rp.bl _)
        | true =>
          refine wpAny_Call_Name_kw (ld_blt I hg hm (by decide +kernel : bootBuiltins "all" = some (.builtin "all")) ?_)
          refine PyProof.Rows.callWith_builtin1 ?_ he (by rfl)
          rw [he]
          refine Calls.spliced_cons (gen_zip hr TB hcode hP S ha hgz hzm iab (by omega) (by omega) hel hs I r e0 ez ek hst hpl fun F1 H1 g s5 a ⟨fp, wr, G, Fv, Sx, Wk, hst, htr, hI⟩ => ?_)
          refine Calls.spliced_nil ?_
          refine call_all_walkS (Wk.self 0 _ _ _ hst ⟨g, fp, wr, G, _, Fv, Sx, _, rfl, Wk, hst, htr, fun s' hmv => ?_⟩)
          obtain ⟨H2, a2, J⟩ := hI s' hmv
          refine ⟨.bl _, H2, J, rfl, ?_⟩
          rw [all_range]
          exact q _ _ _ (a.trans a2) (Rp.bl _)
end
end DL
namespace DL
open PySem PySem.Spec PyProof.Rows L2
variable [Tabs]
/-- a def whose code object is known -/
structure FdC (K : PySem.W.Frag) (mg : Str → Option Value) (x : Str) (st : Stmt) (ps : List Str) (c : Addr) : Prop where
  ex : ∃ f fd, Fun K x x st f fd ∧ mg x = some (.ref f) ∧ Binds K fd ps [] ∧ fd.code = .ref c
theorem FdC.fd {K : PySem.W.Frag} {mg : Str → Option Value} {x : Str} {st : Stmt} {ps : List Str} {c : Addr} (d : FdC K mg x st ps c) : Fd K mg x st ps := let ⟨f, fd, h1, h2, h3, _⟩ := d.ex; ⟨f, fd, h1, h2, h3⟩
theorem fnG_mkC {P : Program} {w : World} {K : PySem.W.Frag} {mg : Str → Option Value} {base : Heap} {y qual : Str} {st : Stmt} {f c : Addr} {fd : FuncData} {N ps : List Str} {k : Nat} {T : En → SR} (Fn : Fun K y qual st f fd) (hc : fd.code = .ref c) (S : FnScope N ps (defScope st))
    (hT : ∀ (f0 : Addr) (A : Around) (outer : List Env) (s : Shared) (H : Hp) (E : XK),
      Cxt (cxOf (L2.CX P w) P w K mg base N qual (defScope st) f0 (.ref c) A outer s H E) (fun cls d _ H' => E cls d H') k → DSs (cxOf (L2.CX P w) P w K mg base N qual (defScope st) f0 (.ref c) A outer s H E) (fun cls d _ H' => E cls d H') (defBody st) T) :
    FnG P w K mg base (k + 1) f fd ps (bodyR N ps.length T) := by
  obtain ⟨oc, od, kV, doc, pm, an, cdv, ct, osl, rfl, lk, hcd⟩ := Fn.ex
  have hc : cdv = .ref c := hc
  subst hc
  refine ⟨fun A outer s H us vs Q E hr hgd e0 hb rv hp => ?_⟩
  obtain ⟨F, ds, ⟨hlen, htg⟩, hF, hd, hq⟩ := hp
  have inH : K.In s.heap := e0.mod.kin.keeps fun b o e => (e0.bs b o e).1
  have noL : s.heap.NoLimit := e0.mod.nolimit.keeps fun b o e => (e0.bs b o e).1
  have kinds : ∀ z ∈ ps.zip us, (defScope st).names.lookup z.1 = some .local ∨ ((defScope st).names.lookup z.1 = some .cell ∧ ((cellsFrom (s.heap.objs.size + 1) (defScope st).names []).lookup z.1).isSome = true) := by
    rintro ⟨n, u⟩ hz
    exact (S.par n (List.of_mem_zip hz).1).imp id fun q => ⟨q, PySem.W.cellsFrom_some _ _ _ (.inl q)⟩
  refine codeAny_call_function hr.depth (inH _ _ lk) rfl S.co S.gen rfl (PySem.W.codeRec_of inH hcd) (hb _ _ _ _ ?_)
  refine wpAny_newFunctionEnv_cells S.kind kinds fun env1 eq1 s1 made => ?_
  subst eq1
  refine ⟨noL.keeps made.toInCall.keep, codeAny_func ?_⟩
  have I : Inv (cxOf (L2.CX P w) P w K mg base N qual (defScope st) f (.ref c) A outer s H E) [] (L2.start N vs) H s1 := inv_start S hr.hd e0 hlen rv made
  have cx : Cxt (cxOf (L2.CX P w) P w K mg base N qual (defScope st) f (.ref c) A outer s H E) (fun cls d _ H' => E cls d H') k :=
    ⟨rfl, S.nd, takes_of rfl rfl rfl rfl, hr.deeper _, guards_deeper hgd, passes_of rfl⟩
  have body := hT f A outer s H E cx
  have rel0 : Rel K H F H (init N ds) (L2.start N vs) := by
    refine ⟨⟨Same.refl _, htg⟩, hF, [], ?_, .nil, fun a ha => by cases ha⟩
    unfold init L2.start
    rw [hd.len]
    exact owEn_init hd
  have run := body.run [] s1 (L2.start N vs) H { nx := fun _ H' => Q .non H', rt := Q } I ⟨H, F, init N ds, rel0, ?_⟩
  · refine wpAny_mono run (fun fl s2 hs => ?_) fun u s2 hs => hs
    cases fl with
    | ret u =>
      obtain ⟨v, σ2, H2, J, rvu, qv⟩ := hs
      exact ⟨v, H2, J.os, J.bare, J.base, J.hok, rvu, qv⟩
    | next =>
      obtain ⟨σ2, H2, J, qv⟩ := hs
      exact ⟨.non, H2, J.os, J.bare, J.base, J.hok, rfl, qv⟩
    | brk => obtain ⟨_, _, _, qv⟩ := hs; exact qv.elim
    | cont => obtain ⟨_, _, _, qv⟩ := hs; exact qv.elim
  · have hl2 : ds.length = ps.length := hd.len.symm.trans hlen
    unfold bodyR at hq
    rw [if_pos hl2] at hq
    cases eT : T (init N ds) with
    | rt s0 => rw [eT] at hq; exact fun v H' F' as a b1 b2 o n fr => hq v H' F' as ⟨a.ff, b2, b1, fun x o e n => a.nw x o e n⟩ o n fr
    | nx e1 => rw [eT] at hq; exact fun σ2 H' F' a r => hq .non H' F' [] ⟨a.ff, r.fh, r.bh, a.nw⟩ (.fr .non) .nil fun _ z => by cases z
    | er c e1 => rw [eT] at hq; exact fun σ2 H' F' a r => hq H' F' ⟨a.ff, r.fh, r.bh, a.nw⟩
    | bk e1 => rw [eT] at hq; exact hq.elim
    | ct e1 => rw [eT] at hq; exact hq.elim
    | no => rw [eT] at hq; exact hq.elim
theorem cal_mkC {P : Program} {w : World} {K : PySem.W.Frag} {mg : Str → Option Value} {base : Heap} {x : Str} {st : Stmt} {N ps : List Str} {k : Nat} {c : Addr} {T : En → SR} (d : FdC K mg x st ps c) (S : FnScope N ps (defScope st))
    (hT : ∀ (f0 : Addr) (A : Around) (outer : List Env) (s : Shared) (H : Hp) (E : XK),
      Cxt (cxOf (L2.CX P w) P w K mg base N x (defScope st) f0 (.ref c) A outer s H E) (fun cls d _ H' => E cls d H') k → DSs (cxOf (L2.CX P w) P w K mg base N x (defScope st) f0 (.ref c) A outer s H E) (fun cls d _ H' => E cls d H') (defBody st) T) :
    Cal P w K mg base (k + 1) x ps (bodyR N ps.length T) := by
  obtain ⟨f, fd, h1, h2, h3, h4⟩ := d.ex
  have h1' := h1
  obtain ⟨oc, od, kV, doc, pm, an, cdv, ct, osl, _, lk, _⟩ := h1'.ex
  exact ⟨f, fd, fnG_mkC h1 h4 S hT, h2, h1.kp, h3, oc, od, osl, lk⟩
theorem genS2_of {env : Env} {scope : Scope} {xa xb : Str} (k : scope.kind = .function) (c : scope.isCoroutine = false) (n : (scope.names.all fun y => match y.2 with | .cell => false | .free => false | _ => true) = true)
    (d : scope.names.lookup (".0" : Str) = some NameKind.local) (la : scope.names.lookup xa = some .local) (lb : scope.names.lookup xb = some .local) (ab : xa ≠ xb) : GenS2 env scope xa xb := by
  have h := List.all_eq_true.mp n
  exact ⟨k, c, fun y hy z => (by have := h y hy; rw [z] at this; cases this), d, la, lb, fun y hy z => (by have := h y hy; rw [z] at this; cases this), ab⟩
theorem top_at {P : Program} {w : World} {K : PySem.W.Frag} {mg : Str → Option Value} {base : Heap} {k : Nat} {x : Str} {st : Stmt} {ps : List Str} {g : List D → R S} {fa f : Addr} {fd : FuncData} (hfa : mg x = some (.ref fa)) (h1 : Fun K x x st f fd) (h2 : mg x = some (.ref f))
    (h : Cal P w K mg base k x ps g) : FnG P w K mg base k fa fd ps g := by
  obtain ⟨f', fd', q1, q2, _, _, oc', od', osl', lk'⟩ := h.ex
  obtain ⟨oc, od, kV, doc, pm, an, cdv, ct, osl, _, lk, _⟩ := h1.ex
  rw [h2] at q2 hfa
  cases q2
  cases hfa
  rw [lk] at lk'
  cases lk'
  exact q1
end DL
namespace DL
open PySem PySem.Spec PyProof.Rows L2
theorem tabIn_of {K : PySem.W.Frag} {x : Str} {f c P : Addr} {oc oc' : Value} {od od' : Option Addr} {fd : FuncData} {sl sl' : Array (Option Value)} {vs : Array Value} (h1 : PySem.W.nsIn K mainGlobals x = some (some (.ref f))) (h2 : K.lookup f = some ⟨oc, od, .func fd, sl⟩) (h3 : fd.code = .ref c)
    (h4 : K.lookup c = some ⟨oc', od', .fields vs, sl'⟩) (h5 : vs[11]? = some (.ref P)) : PySem.W.tabIn K x = some (c, P) := by
  unfold PySem.W.tabIn
  rw [h1]
  dsimp only
  rw [h2]
  dsimp only
  rw [h3]
  dsimp only
  rw [h4]
  dsimp only
  rw [h5]
theorem noTab_of {K : PySem.W.Frag} {h : Heap} {P : Addr} (X : K.In h) (n : PySem.W.noTabs K = true) (e : h.get? P = some (PySem.W.tabObj #[])) : K.lookup P = none := by
  cases q : K.lookup P with
  | none => rfl
  | some o =>
    have e2 := X P o q
    rw [e] at e2
    have h2 := List.all_eq_true.mp n (P, o) (PySem.W.mem_of_lookupK q)
    cases e2
    exact absurd (show false = true from h2) Bool.false_ne_true
theorem all_nil {A : Type} {p : A → Prop} : ∀ x ∈ ([] : List A), p x := fun _ h => nomatch h
theorem all_cons {A : Type} {p : A → Prop} {a : A} {l : List A} (h : p a) (t : ∀ x ∈ l, p x) : ∀ x ∈ a :: l, p x := fun x hx => by
  rcases List.mem_cons.mp hx with e | e
  · rw [e]; exact h
  · exact t x e
end DL
namespace DL
open PySem PySem.Spec PyProof.Rows L2
variable [Tabs]
/-- a global that is a string -/
def GS (mg : Str → Option Value) (x : Str) (n : Str) : Prop := ∃ t, mg x = some (.str n t)
theorem de_globS {X : Cx} {W : WX} {m : Md} {pos : Pos} {x n : Str} (g : GS X.mg x n) (hg : Gl X x) (hdb : (x == ("__debug__" : Str)) = false := by decide) : DE X W m (.Name x pos) (fun _ => .ok (.str n)) := by
  obtain ⟨t, e⟩ := g
  exact de_glob (v := .str n) hg e ⟨t, rfl⟩ (fun F => .str n) hdb
end DL
namespace DL
open PySem PySem.Spec PyProof.Rows L2
variable [Tabs]
/-! ### a def that is handed a fresh owned first argument, and may change it -/
def less (H : Hp) (as : List Addr) : Hp := fun a => if a ∈ as then none else H a
theorem less_in {H : Hp} {as : List Addr} {a : Addr} (h : a ∈ as) : less H as a = none := if_pos h
theorem less_out {H : Hp} {as : List Addr} {a : Addr} (h : a ∉ as) : less H as a = H a := if_neg h
theorem Same.lessH {H : Hp} {as : List Addr} : Same (less H as) H := .of fun b o e => by
  by_cases hb : b ∈ as
  · rw [less_in hb] at e; cases e
  · rw [less_out hb] at e; exact e
theorem Same.toLess {H0 H : Hp} {as : List Addr} (s : Same H0 H) (f : ∀ a ∈ as, H0 a = none) : Same H0 (less H as) := ⟨fun b o e n => by
  rw [less_out fun z => by rw [f b z] at e; cases e]; exact s.k b o e n, fun b ps e => by
  obtain ⟨m, h1, h2⟩ := s.t b ps e
  exact ⟨m, by rw [less_out fun z => by rw [f b z] at e; cases e]; exact h1, h2⟩⟩
/-- the promise -/
def PrO (K : PySem.W.Frag) (mg : Str → Option Value) (n : Nat) (g : S → List D → R S) : Sp := fun vs H Q E => ∃ F s ds as v0 vs', (vs.length = n ∧ Tg H ∧ vs = v0 :: vs') ∧ Same F H ∧ Ow K F H v0 s as ∧ as.Nodup ∧ DpAll K F vs' ds ∧ match g s ds with
  | .ok s => ∀ v H' F' bs, After F (less H as) F' H' → Ow K F' H' v s bs → bs.Nodup → (∀ a ∈ bs, less H as a = none) → Q v H'
  | .er c => ∀ H' F', After F (less H as) F' H' → E (ecOf mg c) none H'
  | .no => False
structure FnO (P : Program) (w : World) (K : PySem.W.Frag) (mg : Str → Option Value) (base : Heap) (k : Nat) (f : Addr) (fd : FuncData) (ps : List Str) (g : S → List D → R S) : Prop where
  run : ∀ (A : Around) (outer : List Env) (s : Shared) (H : Hp) (us : List Value) (vs : List V) (Q : VK) (E : XK), Room k A → A.guards = some [] → Env0 P w K mg base A outer s H →
    BindsTo s fd ⟨us, []⟩ (ps.zip us) → Vals vs us → PrO K mg ps.length g vs H Q E → codeAny (model P w) A (.call (.ref f) ⟨us, []⟩) (CR (L2.CX P w) outer P w H s Q E) s
/-- an owned first argument, then data -/
def calO (f0 : En → R S) (fs : En → R (List D)) (g : S → List D → R S) : En → R S := fun env => (f0 env).bind fun s => (fs env).bind fun ds => g s ds
section
variable {X : Cx} {W : WX} {j k : Nat} {f : Addr} {fd : FuncData} {ps : List Str} {g : S → List D → R S} {x : Str} {p pos : Pos} {e : Expr} {es : List Expr} {f0 : En → R S} {fs : En → R (List D)} {ms : List Md}
theorem do_callO (G : FnO X.prog X.w X.K X.mg X.base j f fd ps g) (cx : Cxt X W k) (hk : j ≤ k) (hg : Gl X x) (hm : X.mg x = some (.ref f)) (kp : PySem.W.keepIn X.K (.ref f) = true) (hb : Binds X.K fd ps []) (h0 : DO X W e f0) (ha : DA X W ms es fs) (hms : allf ms = true)
    (hn : ∀ ds env, fs env = .ok ds → ds.length + 1 = ps.length) (hdb : (x == ("__debug__" : Str)) = false := by decide) (he : starEach (e :: es) X.env = (false, eval e X.env) :: starEach es X.env := by rfl) (hpl : (backTo pos (starEach es X.env)).any (·.1) = false := by rfl) :
    DO X W (.Call (.Name x p) (e :: es) [] pos) (calO f0 fs g) := by
  refine ⟨fun pins s σ H Q I ⟨B, F, env, r, q⟩ => ?_⟩
  refine wpAny_Call_Name_kw (ld_glob I hg hm ?_ hdb)
  have arg : tO X.K (ecOf X.mg) W f0 σ H (fun v H1 => tA X.K (ecOf X.mg) W ms fs σ H1 (fun vs H2 => (v :: vs).length = ps.length ∧ PrO X.K X.mg ps.length g (v :: vs) H2 Q (WE W σ))) := by
    refine ⟨B, F, env, r, ?_⟩
    unfold calO at q
    cases e0 : f0 env with
    | er c => rw [e0] at q; exact q
    | no => rw [e0] at q; exact q
    | ok s0 =>
      rw [e0] at q
      intro v H1 F1 as a o n fr
      refine ⟨B, F1, env, r.after a, ?_⟩
      cases ef : fs env with
      | er c => rw [ef] at q; exact fun H2 F2 a2 => q H2 F2 (a.trans a2)
      | no => rw [ef] at q; exact q
      | ok ds =>
        rw [ef] at q
        intro vs H2 F2 a2 rl
        have dp := rl.fs (allf_of hms)
        have ln : (v :: vs).length = ps.length := by rw [List.length_cons, dp.len]; exact hn ds env ef
        have o2 : Ow X.K F2 H2 v s0 as := o.mono a2.ff _ _ _ fun b hb => a2.keepO (o.at _ _ _ b hb)
        refine ⟨ln, F2, s0, ds, as, v, vs, ⟨ln, (r.bh.trans (a.hh.trans a2.hh)).tgH, rfl⟩, a2.fh, o2, n, dp, ?_⟩
        have q : PoO X.K (ecOf X.mg) W F H σ Q (g s0 ds) := q
        have af : ∀ {F3 H3 : Hp}, After F2 (less H2 as) F3 H3 → After F H F3 H3 := fun {F3 H3} a3 => ⟨(a.ff.trans a2.ff).trans a3.ff, a3.fh, ((a.hh.trans a2.hh).toLess fr).trans a3.hh, fun y oy e3 ny => by
          cases q2 : F2 y with
          | some u => exact (a.trans a2).nw y u q2 ny
          | none =>
            have := a3.nw y oy e3 q2
            by_cases hy : y ∈ as
            · exact fr y hy
            · rw [less_out hy] at this; exact (a.hh.trans a2.hh).free this⟩
        cases eg : g s0 ds with
        | no => rw [eg] at q; exact q
        | er c => rw [eg] at q; exact fun H3 F3 a3 => q H3 F3 (af a3)
        | ok so =>
          rw [eg] at q
          exact fun v H3 F3 bs a3 o3 n3 fr3 => q v H3 F3 bs (af a3) o3 n3 fun b hb => by
            by_cases hy : b ∈ as
            · exact fr b hy
            · have := fr3 b hb
              rw [less_out hy] at this; exact (a.hh.trans a2.hh).free this
  refine PySem.W.callWith_K (h₀ := X.base) I.ok.mod.kin kp (thn ((pa_cons h0 ha he).run pos pins s σ H (fun vs H2 => vs.length = ps.length ∧ PrO X.K X.mg ps.length g vs H2 Q (WE W σ)) I arg) fun us s1 ⟨vs, H1, I1, rv, hlen, hp⟩ => ⟨I1.kIn, ?_⟩) he hpl
  have hus : us.length = ps.length := rv.length.symm.trans hlen
  have bb := hb s1 us I1.kIn (by rw [List.append_nil]; exact hus)
  rw [List.append_nil] at bb
  refine wpAny_call (codeAny_mono (G.run X.A X.stack s1 H1 us vs Q (WE W σ) (cx.rm.mono hk) cx.gd I1.env0 bb rv hp) fun rr s2 hq => ?_)
  cases rr with
  | error u => exact passAt cx.tk σ pins H1 s1 u s2 I1 hq
  | ok fl => cases fl with
    | ret u => exact I1.after hq
    | next => exact hq.elim
    | brk => exact hq.elim
    | cont => exact hq.elim
end
def initO (N : List Str) (s : S) (ds : List D) : En := some (.v s) :: init N.tail ds
def bodyO (N : List Str) (n : Nat) (T : En → SR) : S → List D → R S := fun s ds => if ds.length + 1 = n then endR (T (initO N s ds)) else .no
section
variable {P : Program} {w : World} {K : PySem.W.Frag} {mg : Str → Option Value} {base : Heap}
theorem fnO_mk {y qual : Str} {st : Stmt} {f : Addr} {fd : FuncData} {N ps : List Str} {k : Nat} {T : En → SR} (Fn : Fun K y qual st f fd) (S : FnScope N ps (defScope st)) (hN : N.length = N.tail.length + 1)
    (hT : ∀ (f0 : Addr) (cdv : Value) (A : Around) (outer : List Env) (s : Shared) (H : Hp) (E : XK),
      Cxt (cxOf (L2.CX P w) P w K mg base N qual (defScope st) f0 cdv A outer s H E) (fun cls d _ H' => E cls d H') k → DSs (cxOf (L2.CX P w) P w K mg base N qual (defScope st) f0 cdv A outer s H E) (fun cls d _ H' => E cls d H') (defBody st) T) :
    FnO P w K mg base (k + 1) f fd ps (bodyO N ps.length T) := by
  obtain ⟨oc, od, kV, doc, pm, an, cdv, ct, osl, rfl, lk, hcd⟩ := Fn.ex
  refine ⟨fun A outer s H us vs Q E hr hgd e0 hb rv hp => ?_⟩
  obtain ⟨F, s0, ds, as, v0, vs', ⟨hlen, htg, rfl⟩, hF, ho, hnd, hd, hq⟩ := hp
  have inH : K.In s.heap := e0.mod.kin.keeps fun b o e => (e0.bs b o e).1
  have noL : s.heap.NoLimit := e0.mod.nolimit.keeps fun b o e => (e0.bs b o e).1
  have kinds : ∀ z ∈ ps.zip us, (defScope st).names.lookup z.1 = some .local ∨ ((defScope st).names.lookup z.1 = some .cell ∧ ((cellsFrom (s.heap.objs.size + 1) (defScope st).names []).lookup z.1).isSome = true) := by
    rintro ⟨n, u⟩ hz
    exact (S.par n (List.of_mem_zip hz).1).imp id fun q => ⟨q, PySem.W.cellsFrom_some _ _ _ (.inl q)⟩
  refine codeAny_call_function hr.depth (inH _ _ lk) rfl S.co S.gen rfl (PySem.W.codeRec_of inH hcd) (hb _ _ _ _ ?_)
  refine wpAny_newFunctionEnv_cells S.kind kinds fun env1 eq1 s1 made => ?_
  subst eq1
  refine ⟨noL.keeps made.toInCall.keep, codeAny_func ?_⟩
  have I : Inv (cxOf (L2.CX P w) P w K mg base N qual (defScope st) f cdv A outer s H E) [] (L2.start N (v0 :: vs')) H s1 := inv_start S hr.hd e0 hlen rv made
  have cx : Cxt (cxOf (L2.CX P w) P w K mg base N qual (defScope st) f cdv A outer s H E) (fun cls d _ H' => E cls d H') k :=
    ⟨rfl, S.nd, takes_of rfl rfl rfl rfl, hr.deeper _, guards_deeper hgd, passes_of rfl⟩
  have body := hT f cdv A outer s H E cx
  have hnT : ∀ b ∈ as, ∃ o, H b = some o ∧ noTb o = true := fun b hb => (ho.at _ _ _ b hb).2
  have rel0 : Rel K (less H as) F H (initO N s0 ds) (L2.start N (v0 :: vs')) := by
    refine ⟨⟨Same.lessH, fun P hP => ?_⟩, hF, as ++ [], ?_, by rw [List.append_nil]; exact hnd, fun a ha => by rw [List.append_nil] at ha; exact less_in ha⟩
    · obtain ⟨ps, h1, h2⟩ := htg P hP
      exact ⟨ps, by rw [less_out fun z => by obtain ⟨o, h3, h4⟩ := hnT P z; rw [h1] at h3; cases h3; cases h4]; exact h1, h2⟩
    · have e1 : L2.start N (v0 :: vs') = some v0 :: L2.start N.tail vs' := by
        unfold L2.start
        rw [List.map_cons, List.cons_append, List.length_cons, hN, Nat.add_sub_add_right]
      rw [e1]
      refine .so (.v ho) ?_
      unfold init L2.start
      rw [hd.len]
      exact owEn_init hd
  have run := body.run [] s1 (L2.start N (v0 :: vs')) H { nx := fun _ H' => Q .non H', rt := Q } I ⟨less H as, F, initO N s0 ds, rel0, ?_⟩
  · refine wpAny_mono run (fun fl s2 hs => ?_) fun u s2 hs => hs
    cases fl with
    | ret u =>
      obtain ⟨v, σ2, H2, J, rvu, qv⟩ := hs
      exact ⟨v, H2, J.os, J.bare, J.base, J.hok, rvu, qv⟩
    | next =>
      obtain ⟨σ2, H2, J, qv⟩ := hs
      exact ⟨.non, H2, J.os, J.bare, J.base, J.hok, rfl, qv⟩
    | brk => obtain ⟨_, _, _, qv⟩ := hs; exact qv.elim
    | cont => obtain ⟨_, _, _, qv⟩ := hs; exact qv.elim
  · have hl2 : ds.length + 1 = ps.length := by rw [← hd.len]; exact hlen
    unfold bodyO at hq
    rw [if_pos hl2] at hq
    cases eT : T (initO N s0 ds) with
    | rt s0 => rw [eT] at hq; exact fun v H' F' bs a b1 b2 o n fr => hq v H' F' bs ⟨a.ff, b2, b1, fun x o e n => a.nw x o e n⟩ o n fr
    | nx e1 => rw [eT] at hq; exact fun σ2 H' F' a r => hq .non H' F' [] ⟨a.ff, r.fh, r.bh, a.nw⟩ (.fr .non) .nil fun _ z => by cases z
    | er c e1 => rw [eT] at hq; exact fun σ2 H' F' a r => hq H' F' ⟨a.ff, r.fh, r.bh, a.nw⟩
    | bk e1 => rw [eT] at hq; exact hq.elim
    | ct e1 => rw [eT] at hq; exact hq.elim
    | no => rw [eT] at hq; exact hq.elim
end
structure CalO (P : Program) (w : World) (K : PySem.W.Frag) (mg : Str → Option Value) (base : Heap) (k : Nat) (x : Str) (ps : List Str) (g : S → List D → R S) : Prop where
  ex : ∃ f fd, FnO P w K mg base k f fd ps g ∧ mg x = some (.ref f) ∧ PySem.W.keepIn K (.ref f) = true ∧ Binds K fd ps []
theorem calO_mk {P : Program} {w : World} {K : PySem.W.Frag} {mg : Str → Option Value} {base : Heap} {x : Str} {st : Stmt} {N ps : List Str} {k : Nat} {T : En → SR} (d : Fd K mg x st ps) (S : FnScope N ps (defScope st)) (hN : N.length = N.tail.length + 1)
    (hT : ∀ (f0 : Addr) (cdv : Value) (A : Around) (outer : List Env) (s : Shared) (H : Hp) (E : XK),
      Cxt (cxOf (L2.CX P w) P w K mg base N x (defScope st) f0 cdv A outer s H E) (fun cls d _ H' => E cls d H') k → DSs (cxOf (L2.CX P w) P w K mg base N x (defScope st) f0 cdv A outer s H E) (fun cls d _ H' => E cls d H') (defBody st) T) :
    CalO P w K mg base (k + 1) x ps (bodyO N ps.length T) := by
  obtain ⟨f, fd, h1, h2, h3⟩ := d.ex
  exact ⟨f, fd, fnO_mk h1 S hN hT, h2, h1.kp, h3⟩
section
variable {X : Cx} {W : WX} {j k : Nat} {ps : List Str} {g : S → List D → R S} {x : Str} {p pos : Pos} {e : Expr} {es : List Expr} {f0 : En → R S} {fs : En → R (List D)} {ms : List Md}
theorem do_calO (c : CalO X.prog X.w X.K X.mg X.base j x ps g) (cx : Cxt X W k) (hk : j ≤ k) (h0 : DO X W e f0) (ha : DA X W ms es fs) (hms : allf ms = true) (hn : ∀ ds env, fs env = .ok ds → ds.length + 1 = ps.length) (hg : Gl X x := by rfl) (hdb : (x == ("__debug__" : Str)) = false := by decide)
    (he : starEach (e :: es) X.env = (false, eval e X.env) :: starEach es X.env := by rfl) (hpl : (backTo pos (starEach es X.env)).any (·.1) = false := by rfl) : DO X W (.Call (.Name x p) (e :: es) [] pos) (calO f0 fs g) := by
  obtain ⟨f, fd, h1, h2, h3, h4⟩ := c.ex
  exact do_callO h1 cx hk hg h2 h3 h4 h0 ha hms hn hdb he hpl
end
end DL
namespace DL
open PySem PySem.Spec PyProof.Rows L2
variable [Tabs]
/-! ### lists and tuples of owned parts -/
section
variable (K : PySem.W.Frag) (ec : Str → Value) (W : WX)
def PoAO (F H : Hp) (σ : L2.St) (Q : List V → Hp → Prop) : R (List S) → Prop
  | .ok ss => ∀ vs H' F' as, After F H F' H' → OwAll K F' H' vs ss as → as.Nodup → (∀ a ∈ as, H a = none) → Q vs H'
  | .er c => ∀ H' F', After F H F' H' → W (ec c) none σ H'
  | .no => False
def tAO (f : En → R (List S)) : TA := fun σ H Q => ∃ B F env, Rel K B F H env σ ∧ PoAO K ec W F H σ Q (f env)
end
def DAO (X : Cx) (W : WX) (es : List Expr) (f : En → R (List S)) : Prop := PA X es (tAO X.K (ecOf X.mg) W f)
def nilO : En → R (List S) := fun _ => .ok []
def consO (f : En → R S) (fs : En → R (List S)) : En → R (List S) := fun env => (f env).bind fun s => (fs env).bind fun ss => .ok (s :: ss)
section
variable {X : Cx} {W : WX} {pos : Pos} {e : Expr} {es : List Expr} {f : En → R S} {fs : En → R (List S)}
theorem dso_nil : DAO X W [] nilO := pa_nil.wk fun σ H Q ⟨B, F, env, r, p⟩ => p [] H F [] (After.refl r.fh) .nil .nil fun _ z => by cases z
theorem dso_cons (h : DO X W e f) (t : DAO X W es fs) (hs : starEach (e :: es) X.env = (false, eval e X.env) :: starEach es X.env := by rfl) : DAO X W (e :: es) (consO f fs) :=
  (pa_cons h t hs).wk fun σ H Q ⟨B, F, env, r, p⟩ => ⟨B, F, env, r, by
    unfold consO at p
    cases e1 : f env with
    | er c => rw [e1] at p; exact p
    | no => rw [e1] at p; exact p
    | ok s =>
      rw [e1] at p
      intro v H1 F1 as a o n fr
      refine ⟨B, F1, env, r.after a, ?_⟩
      cases e2 : fs env with
      | er c => rw [e2] at p; exact fun H2 F2 a2 => p H2 F2 (a.trans a2)
      | no => rw [e2] at p; exact p
      | ok ss =>
        rw [e2] at p
        intro vs H2 F2 bs a2 oa n2 fr2
        refine p (v :: vs) H2 F2 (as ++ bs) (a.trans a2) (.cons (o.mono a2.ff _ _ _ fun b hb => a2.keepO (o.at _ _ _ b hb)) oa) (List.nodup_append.mpr ⟨n, n2, fun b hb b2 hb2 z => ?_⟩) fun b hb => ?_
        · obtain ⟨_, o', h1, _⟩ := o.at _ _ _ b hb
          rw [z, fr2 b2 hb2] at h1; cases h1
        · rcases List.mem_append.mp hb with z | z
          · exact fr b z
          · exact a.hh.free (fr2 b z)⟩
def lstO (fs : En → R (List S)) : En → R S := fun env => (fs env).bind fun ss => if ss.length ≤ 1000 then .ok (.ow ss) else .no
def tupO (fs : En → R (List S)) : En → R S := fun env => (fs env).bind fun ss => if ss.length ≤ 1000 then .ok (.tu ss) else .no
theorem do_lstO (h : DAO X W es fs) : DO X W (.List es pos) (lstO fs) :=
  (pe_lst h).wk fun σ H Q ⟨B, F, env, r, p⟩ => ⟨B, F, env, r, by
    unfold lstO at p
    cases e1 : fs env with
    | er c => rw [e1] at p; exact p
    | no => rw [e1] at p; exact p
    | ok ss =>
      rw [e1] at p
      simp only [R.bind] at p
      intro vs H1 F1 as a oa n fr
      split at p
      · rename_i hl
        refine ⟨by rw [oa.len]; exact le_line hl, fun q nq => p (.ref q) _ F1 (q :: as) (a.trans (After.newO a.fh nq)) (.ow (a.fh.free nq) upd_same (OwAll.mono (Same.refl _) _ _ _ oa fun b hb => ⟨(oa.at _ _ _ b hb).1, upd_ne fun z => ?_⟩)) (List.nodup_cons.mpr ⟨fun hm => ?_, n⟩) fun b hb => ?_⟩
        · obtain ⟨_, o', h1, _⟩ := oa.at _ _ _ b hb
          rw [z, nq] at h1; cases h1
        · obtain ⟨_, o', h1, _⟩ := oa.at _ _ _ q hm
          rw [nq] at h1; cases h1
        · rcases List.mem_cons.mp hb with z | z
          · rw [z]; exact a.hh.free nq
          · exact fr b z
      · exact p.elim⟩
theorem do_tupO {x1 : Nat} (h : DAO X W es fs) : DO X W (.Tuple es x1 pos) (tupO fs) :=
  (pe_tup h).wk fun σ H Q ⟨B, F, env, r, p⟩ => ⟨B, F, env, r, by
    unfold tupO at p
    cases e1 : fs env with
    | er c => rw [e1] at p; exact p
    | no => rw [e1] at p; exact p
    | ok ss =>
      rw [e1] at p
      simp only [R.bind] at p
      intro vs H1 F1 as a oa n fr
      split at p
      · rename_i hl
        refine ⟨by rw [oa.len]; exact le_line hl, fun q nq => p (.ref q) _ F1 (q :: as) (a.trans (After.newO a.fh nq)) (.tu (a.fh.free nq) upd_same (OwAll.mono (Same.refl _) _ _ _ oa fun b hb => ⟨(oa.at _ _ _ b hb).1, upd_ne fun z => ?_⟩)) (List.nodup_cons.mpr ⟨fun hm => ?_, n⟩) fun b hb => ?_⟩
        · obtain ⟨_, o', h1, _⟩ := oa.at _ _ _ b hb
          rw [z, nq] at h1; cases h1
        · obtain ⟨_, o', h1, _⟩ := oa.at _ _ _ q hm
          rw [nq] at h1; cases h1
        · rcases List.mem_cons.mp hb with z | z
          · rw [z]; exact a.hh.free nq
          · exact fr b z
      · exact p.elim⟩
end
/-! ### a slot is emptied -/
theorem OwEn.pull {K : PySem.W.Frag} {F H : Hp} : ∀ {σ : L2.St} {env : En} {as : List Addr} {i : Nat} {s : Sl}, OwEn K F H σ env as → as.Nodup → env[i]? = some (some s) →
    ∃ v cs ds, σ[i]? = some (some v) ∧ OwEn K F H σ (env.set i none) cs ∧ OwS K F H v s ds ∧ (ds ++ cs).Nodup ∧ ∀ b ∈ ds ++ cs, b ∈ as
  | _, _, _, _, _, .nil, _, e => by simp at e
  | _, _, _, 0, _, .un t, _, e => by simp at e
  | _, _, _, i + 1, _, .un t, n, e => by
    obtain ⟨v, cs, ds, h1, h2, h3, h4, h5⟩ := OwEn.pull (i := i) t n (by simpa using e)
    exact ⟨v, cs, ds, by simpa using h1, .un h2, h3, h4, h5⟩
  | _, _, _, 0, _, .so (bs := bs) (as := as) h t, n, e => by
    simp at e; subst e
    exact ⟨_, as, bs, rfl, .un t, h, n, fun b hb => hb⟩
  | _, _, _, i + 1, _, .so (bs := hs) (as := as) h t, n, e => by
    have n' := List.nodup_append.mp n
    obtain ⟨v, cs, ds, h1, h2, h3, h4, h5⟩ := OwEn.pull (i := i) t n'.2.1 (by simpa using e)
    have n4 := List.nodup_append.mp h4
    refine ⟨v, hs ++ cs, ds, by simpa using h1, .so h h2, h3, List.nodup_append.mpr ⟨n4.1, List.nodup_append.mpr ⟨n'.1, n4.2.1, fun x hx y hy z => n'.2.2 x hx y (h5 y (List.mem_append_right _ hy)) z⟩, fun x hx y hy z => ?_⟩, fun b hb => ?_⟩
    · rcases List.mem_append.mp hy with w | w
      · exact n'.2.2 y w x (h5 x (List.mem_append_left _ hx)) z.symm
      · exact n4.2.2 x hx y w z
    · rcases List.mem_append.mp hb with w | w
      · exact List.mem_append_right _ (h5 b (List.mem_append_left _ w))
      · rcases List.mem_append.mp w with w | w
        · exact List.mem_append_left _ w
        · exact List.mem_append_right _ (h5 b (List.mem_append_right _ w))
end DL
namespace DL
open PySem PySem.Spec PyProof.Rows L2
variable [Tabs]
/-! ### for a, b in x + [..]: a list of owned pairs is used up -/
def forP (i1 i2 : Nat) (T : En → SR) : List S → En → SR
  | [], env => .nx env
  | .tu [s1, s2] :: rest, env => match T ((env.set i1 (some (.v s1))).set i2 (some (.v s2))) with
    | .nx e => forP i1 i2 T rest e
    | .ct e => forP i1 i2 T rest e
    | .bk e => .nx e
    | .rt s => .rt s
    | .er c e => .er c e
    | .no => .no
  | _ :: _, _ => .no
def forMv (i i1 i2 : Nat) (f2 : En → R S) (T : En → SR) : En → SR := fun env => match env[i]? with
  | some (some (.v (.ow ss1))) => (f2 env).st env fun s => match s with
    | .ow ss2 => if ss1.length + ss2.length ≤ sizeLine then forP i1 i2 T (ss1 ++ ss2) (env.set i none) else .no
    | _ => .no
  | _ => .no
/-- what stands while the loop runs: B, and what was not yet taken -/
def plus (B H : Hp) (rs : List Addr) : Hp := fun b => if b ∈ rs then H b else B b
section
variable {K : PySem.W.Frag} {B F H : Hp} {rs : List Addr}
theorem plus_in {b : Addr} (h : b ∈ rs) : plus B H rs b = H b := if_pos h
theorem plus_out {b : Addr} (h : b ∉ rs) : plus B H rs b = B b := if_neg h
theorem plus_same (s : Same B H) : Same (plus B H rs) H := ⟨fun b o e n => by
  by_cases hb : b ∈ rs
  · rw [plus_in hb] at e; exact e
  · rw [plus_out hb] at e; exact s.k b o e n, fun b ps e => by
  by_cases hb : b ∈ rs
  · rw [plus_in hb] at e; exact ⟨#[], by rw [Array.append_empty]; exact e, by rw [Array.append_empty]; exact id⟩
  · rw [plus_out hb] at e; exact s.t b ps e⟩
theorem plus_bsame (s : BSame B H) (f : ∀ b ∈ rs, B b = none) : BSame (plus B H rs) H := ⟨plus_same s.s, fun P hP => by
  obtain ⟨ps, h1, h2⟩ := s.tg P hP
  exact ⟨ps, by rw [plus_out fun z => by rw [f P z] at h1; cases h1]; exact h1, h2⟩⟩
theorem plus_down {H' : Hp} (f : ∀ b ∈ rs, B b = none) (s : Same (plus B H rs) H') : Same B H' := ⟨fun b o e n => s.k b o (by rw [plus_out fun z => by rw [f b z] at e; cases e]; exact e) n,
  fun b ps e => s.t b ps (by rw [plus_out fun z => by rw [f b z] at e; cases e]; exact e)⟩
theorem plus_after {F' : Hp} (f : ∀ b ∈ rs, B b = none) (x : AfterS (plus B H rs) F F') : AfterS B F F' := ⟨x.ff, fun a o e n => by
  have := x.nw a o e n
  by_cases hb : a ∈ rs
  · exact f a hb
  · rw [plus_out hb] at this; exact this⟩
theorem plus_kept {F' H' : Hp} (f : ∀ b ∈ rs, F b = none ∧ ∃ o, H b = some o ∧ noTb o = true) (x : AfterS (plus B H rs) F F') (s : Same (plus B H rs) H') : ∀ b ∈ rs, F' b = none ∧ H' b = H b := fun b hb => by
  obtain ⟨h1, o, h2, h3⟩ := f b hb
  refine ⟨?_, ?_⟩
  · cases e : F' b with
    | none => rfl
    | some u =>
      have := x.nw b u e h1
      rw [plus_in hb, h2] at this; cases this
  · rw [h2]; exact s.k b o (by rw [plus_in hb]; exact h2) h3
end
section
variable {X : Cx} {W : WX} {k : Nat} {pos p p1 p2 p3 pt : Pos} {kt : Nat} {x n1 n2 : Str} {e2 : Expr} {f2 : En → R S} {body : List Stmt} {T : En → SR}
theorem ds_forMv (i i1 i2 : Nat) (cx : Cxt X W k) (h2 : DO X W e2 f2) (hb : DSs X W body T) (hN : X.N[i]? = some x := by rfl) (hN1 : X.N[i1]? = some n1 := by rfl) (hN2 : X.N[i2]? = some n2 := by rfl)
    (hv : Vis X.env.scope x := by first | exact Or.inl rfl | exact Or.inr (Or.inl rfl) | exact Or.inr (Or.inr rfl)) (hd : (x == ("__debug__" : Str)) = false := by decide) (hcd : (x == ("__classdict__" : Str)) = false := by decide)
    (hx1 : Loc X.env.scope n1 := by first | exact Or.inl rfl | exact Or.inr rfl) (hf1 : X.fn n1 = true ∨ X.env.scope.names.lookup n1 = some .local := by first | exact Or.inl rfl | exact Or.inr rfl)
    (hx2 : Loc X.env.scope n2 := by first | exact Or.inl rfl | exact Or.inr rfl) (hf2 : X.fn n2 = true ∨ X.env.scope.names.lookup n2 = some .local := by first | exact Or.inl rfl | exact Or.inr rfl)
    (ha1 : (assignEach [Expr.Name n1 p1, .Name n2 p2] X.env).map (·.2) = assign (.Name n1 p1) X.env :: (assignEach [Expr.Name n2 p2] X.env).map (·.2) := by rfl)
    (ha2 : (assignEach [Expr.Name n2 p2] X.env).map (·.2) = assign (.Name n2 p2) X.env :: (assignEach [] X.env).map (·.2) := by rfl)
    (hn : (assignEach [Expr.Name n1 p1, .Name n2 p2] X.env).length = 2 := by rfl) (hst : (assignEach [Expr.Name n1 p1, .Name n2 p2] X.env).findIdx? (·.1) = none := by rfl)
    (hs : ∀ y, foldedSetIterable (.BinOp (.Name x p) .Add e2 p3) X.env y = pure y := by intro _; rfl) :
    DS X W (.For (.Tuple [.Name n1 p1, .Name n2 p2] kt pt) (.BinOp (.Name x p) .Add e2 p3) body [] pos) (forMv i i1 i2 f2 T) :=
  (ps_for cx.po cx.calm (pi_list (pe_op op_addA (pe_var hN hv hd hcd) h2)) (pg_tup cx.calm (pgs_cons (pg_name cx.nd hN1 hx1 hf1) (pgs_cons (pg_name cx.nd hN2 hx2 hf2) pgs_nil ha2) ha1) hn hst) hb hs).wk fun D σ H ⟨B, F, env, r, p⟩ => by
    unfold forMv at p
    split at p
    case h_2 => exact p.elim
    case h_1 ss1 e =>
    obtain ⟨as, h1, nd1, b1⟩ := r.sl
    obtain ⟨v, cs, ds, q1, q2, q3, q4, q5⟩ := h1.pull nd1 e
    cases q3 with
    | v q3 =>
    cases q3 with
    | @ow a vs1 _ as1 fa ha oa1 =>
    have b2 : ∀ b ∈ (a :: as1) ++ cs, B b = none := fun b hb => b1 b (q5 b hb)
    refine ⟨_, q1, B, F, env, r, ?_⟩
    cases e2 : f2 env with
    | no => rw [e2] at p; exact p.elim
    | er c => rw [e2] at p; exact fun H' F' a => p σ H' F' (a.toS r.bh) (r.after a)
    | ok s =>
    rw [e2] at p
    cases s with
    | fr d => exact p.elim
    | tu us => exact p.elim
    | ow ss2 =>
    simp only [R.st] at p
    split at p
    case isFalse => exact p.elim
    case isTrue hl =>
    intro v2 H1 F1 bs a1 o2 nb fr2
    cases o2 with
    | @ow b vs2 _ as2 fb hbb oa2 =>
    have r1 := r.after a1
    have ka : H1 a = some (.lst vs1) := by rw [(a1.keepO ⟨fa, _, ha, rfl⟩).2]; exact ha
    have ko : ∀ y ∈ as1, F1 y = none ∧ H1 y = H y := fun y hy => a1.keepO (oa1.at _ _ _ y hy)
    have oa1' : OwAll X.K F1 H1 vs1 ss1 as1 := OwAll.mono a1.ff _ _ _ oa1 ko
    have kc : ∀ y ∈ cs, F1 y = none ∧ H1 y = H y := fun y hy => a1.keepO (q2.at y hy)
    refine .inr (.inr (.inl ⟨a, b, vs1, vs2, rfl, rfl, .inl (.inl ka), .inl (.inl hbb), by rw [oa1'.len, oa2.len]; exact hl, fun c nc => ⟨c, rfl, ⟨_, .inl (.inl upd_same)⟩, ?_⟩⟩))
    have oall : OwAll X.K F1 H1 (vs1 ++ vs2) (ss1 ++ ss2) (as1 ++ as2) := OwAll.app oa1' oa2
    have hne : ∀ y, H1 y ≠ none → y ≠ c := fun y hy z => hy (by rw [z]; exact nc)
    have oall2 : OwAll X.K F1 (upd H1 c (.lst (vs1 ++ vs2))) (vs1 ++ vs2) (ss1 ++ ss2) (as1 ++ as2) := OwAll.mono (Same.refl _) _ _ _ oall fun y hy => by
      obtain ⟨h3, o, h4, _⟩ := oall.at _ _ _ y hy
      exact ⟨h3, upd_ne (hne y (by rw [h4]; simp))⟩
    have env2 : OwEn X.K F1 (upd H1 c (.lst (vs1 ++ vs2))) σ (env.set i none) cs := q2.mono a1.ff fun y hy => by
      obtain ⟨h3, o, h4, _⟩ := q2.at y hy
      exact ⟨(kc y hy).1, (upd_ne (hne y (by rw [(kc y hy).2, h4]; simp))).trans (kc y hy).2⟩
    have n4 := List.nodup_append.mp q4
    have n5 := (List.nodup_cons.mp n4.1)
    have nbs := (List.nodup_cons.mp nb)
    have fresh2 : ∀ y ∈ as2, H y = none := fun y hy => fr2 y (List.mem_cons_of_mem _ hy)
    have heldIn : ∀ y ∈ as1 ++ cs, ∃ o, H y = some o := fun y hy => by
      rcases List.mem_append.mp hy with z | z
      · obtain ⟨_, o, h4, _⟩ := oa1.at _ _ _ y z; exact ⟨o, h4⟩
      · obtain ⟨_, o, h4, _⟩ := q2.at y z; exact ⟨o, h4⟩
    have ndall : ((as1 ++ as2) ++ cs).Nodup := List.nodup_append.mpr ⟨List.nodup_append.mpr ⟨n5.2, nbs.2, fun y hy z hz w => by
      obtain ⟨o, h4⟩ := heldIn y (List.mem_append_left _ hy)
      rw [w, fresh2 z hz] at h4; cases h4⟩, n4.2.1, fun y hy z hz w => by
      rcases List.mem_append.mp hy with u | u
      · exact n4.2.2 y (List.mem_cons_of_mem _ u) z hz w
      · obtain ⟨o, h4⟩ := heldIn z (List.mem_append_right _ hz)
        rw [← w, fresh2 y u] at h4; cases h4⟩
    have bn : ∀ y ∈ (as1 ++ as2) ++ cs, B y = none := fun y hy => by
      rcases List.mem_append.mp hy with u | u
      · rcases List.mem_append.mp u with u | u
        · exact b2 y (List.mem_append_left _ (List.mem_cons_of_mem _ u))
        · exact r.bh.free (fresh2 y u)
      · exact b2 y (List.mem_append_right _ u)
    have F1c : F1 c = none := a1.fh.free nc
    have Bc : B c = none := r1.bh.free nc
    have cn : c ∉ (as1 ++ as2) ++ cs := fun z => by
      rcases List.mem_append.mp z with u | u
      · obtain ⟨_, o, h4, _⟩ := oall.at _ _ _ c u; rw [nc] at h4; cases h4
      · obtain ⟨_, o, h4, _⟩ := q2.at c u
        have := (kc c u).2
        rw [nc, h4] at this; cases this
    have nupd : ∀ y o, H1 y = some o → upd H1 c (.lst (vs1 ++ vs2)) y = some o := fun y o hy => by rw [upd_ne (hne y (by rw [hy]; simp))]; exact hy
    have up : Same H1 (upd H1 c (.lst (vs1 ++ vs2))) := .of nupd
    have p : PoS X.K (ecOf X.mg) W B F1 D (forP i1 i2 T (ss1 ++ ss2) (env.set i none)) := PoS.after p (a1.toS r.bh)
    generalize hH2 : upd H1 c (.lst (vs1 ++ vs2)) = H2 at *
    have H2c : H2 c = some (.lst (vs1 ++ vs2)) := by rw [← hH2]; exact upd_same
    have bh2 : BSame B H2 := r1.bh.trans up
    have fh2 : Same F1 H2 := a1.fh.trans up
    generalize vs1 ++ vs2 = vs at *
    generalize ss1 ++ ss2 = ss at *
    generalize as1 ++ as2 = rs0 at *
    have hlen := oall2.len
    let N : Nat → L2.St → Hp → Prop := fun k σ2 H3 => ∃ F2 env2 rs cs, AfterS B F1 F2 ∧ BSame B H3 ∧ Same F2 H3 ∧ OwEn X.K F2 H3 σ2 env2 cs ∧ OwAll X.K F2 H3 (vs.drop k) (ss.drop k) rs ∧ (rs ++ cs).Nodup ∧ (∀ b ∈ rs ++ cs, B b = none) ∧ H3 c = some (.lst vs) ∧ F2 c = none ∧ c ∉ rs ++ cs ∧ PoS X.K (ecOf X.mg) W B F2 D (forP i1 i2 T (ss.drop k) env2)
    refine ⟨fun k m σ2 H3 => m = ss.length - k ∧ k ≤ ss.length ∧ N k σ2 H3, ⟨ss.length, by simp, Nat.zero_le _, F1, env.set i none, rs0, cs, AfterS.refl, bh2, fh2, env2, oall2, ndall, bn, H2c, F1c, cn, p⟩, ?_⟩
    rintro k m σ2 H3 ⟨rfl, hk, F2, env3, rs, cs3, x2, bh3, fh3, en3, oa3, nd3, bn3, H3c, F3c, cn3, p3⟩
    by_cases hlt : k < ss.length
    · have hv : k < vs.length := by rw [hlen]; exact hlt
      refine .inr ⟨⟨vs, vs[k], .inl (.inl H3c), List.getElem?_eq_getElem hv⟩, N (k + 1), fun σ' H' h => ⟨ss.length - (k + 1), by omega, rfl, hlt, h⟩, fun v H' ⟨hH', hv'⟩ => ?_⟩
      subst hH'
      have ev := hv' vs (.inl (.inl H3c))
      rw [List.getElem?_eq_getElem hv] at ev
      injection ev with ev
      rw [List.drop_eq_getElem_cons hv, List.drop_eq_getElem_cons hlt] at oa3
      rw [List.drop_eq_getElem_cons hlt] at p3
      rw [ev] at oa3
      generalize ss[k] = s at oa3 p3
      cases oa3 with
      | @cons _ _ ak _ _ rs' ok orest =>
      cases s with
      | fr d => exact p3.elim
      | ow us => exact p3.elim
      | tu us =>
      match us, p3, ok with
      | [], p3, _ => exact p3.elim
      | [_], p3, _ => exact p3.elim
      | _ :: _ :: _ :: _, p3, _ => exact p3.elim
      | [s1, s2], p3, ok =>
      cases ok with
      | @tu t ws _ at_ ft ht ot =>
      cases ot with
      | @cons v1 _ a1' ws1 _ _ o1 ot =>
      cases ot with
      | @cons v2' _ a2' _ _ _ o2' ot =>
      cases ot
      rw [List.append_nil] at *
      refine ⟨t, [v1, v2'], rfl, .inl (.inl ht), rfl, v1, [v2'], rfl, v2', [], rfl, rfl, ?_⟩
      have nA := List.nodup_append.mp nd3
      have nB := List.nodup_append.mp nA.1
      have nC := (List.nodup_cons.mp nB.1)
      have nD := List.nodup_append.mp nC.2
      have inR : ∀ y ∈ a1', y ∈ (t :: (a1' ++ a2')) := fun y hy => List.mem_cons_of_mem _ (List.mem_append_left _ hy)
      have inR2 : ∀ y ∈ a2', y ∈ (t :: (a1' ++ a2')) := fun y hy => List.mem_cons_of_mem _ (List.mem_append_right _ hy)
      obtain ⟨c1, g1, g2, g3⟩ := OwEn.set (.v o1) i1 en3 nA.2.1 nD.1 fun y hy z => nA.2.2 y (List.mem_append_left _ (inR y hy)) y z rfl
      obtain ⟨c2, g4, g5, g6⟩ := OwEn.set (.v o2') i2 g1 g2 nD.2.1 fun y hy z => by
        rcases g3 y z with w | w
        · exact nA.2.2 y (List.mem_append_left _ (inR2 y hy)) y w rfl
        · exact nD.2.2 y w y hy rfl
      have c2in : ∀ y ∈ c2, y ∉ c :: rs' ∧ B y = none := fun y hy => by
        have key : (y ∈ cs3 ∨ y ∈ a1') ∨ y ∈ a2' := (g6 y hy).imp (g3 y) id
        have inAll : y ∈ ((t :: (a1' ++ a2')) ++ rs') ++ cs3 := by
          rcases key with (w | w) | w
          · exact List.mem_append_right _ w
          · exact List.mem_append_left _ (List.mem_append_left _ (inR y w))
          · exact List.mem_append_left _ (List.mem_append_left _ (inR2 y w))
        refine ⟨fun z => ?_, bn3 y inAll⟩
        rcases List.mem_cons.mp z with z | z
        · rw [z] at inAll; exact cn3 inAll
        · rcases key with (w | w) | w
          · exact nA.2.2 y (List.mem_append_right _ z) y w rfl
          · exact nB.2.2 y (inR y w) y z rfl
          · exact nB.2.2 y (inR2 y w) y z rfl
      have Bc' : ∀ y ∈ c :: rs', B y = none := fun y hy => by
        rcases List.mem_cons.mp hy with z | z
        · rw [z]; exact Bc
        · exact bn3 y (List.mem_append_left _ (List.mem_append_right _ z))
      have held : ∀ y ∈ c :: rs', F2 y = none ∧ ∃ o, H' y = some o ∧ noTb o = true := fun y hy => by
        rcases List.mem_cons.mp hy with z | z
        · rw [z]; exact ⟨F3c, _, H3c, rfl⟩
        · exact orest.at _ _ _ y z
      have rel : Rel X.K (plus B H' (c :: rs')) F2 H' ((env3.set i1 (some (.v s1))).set i2 (some (.v s2))) ((σ2.set i1 (some v1)).set i2 (some v2')) :=
        ⟨plus_bsame bh3 Bc', fh3, c2, g4, g5, fun y hy => by rw [plus_out (c2in y hy).1]; exact (c2in y hy).2⟩
      refine ⟨plus B H' (c :: rs'), F2, _, rel, ?_⟩
      have next : ∀ (e : En) (σ' : L2.St) (H4 F4 : Hp), PoS X.K (ecOf X.mg) W B F2 D (forP i1 i2 T (ss.drop (k + 1)) e) → AfterS (plus B H' (c :: rs')) F2 F4 → Rel X.K (plus B H' (c :: rs')) F4 H4 e σ' → N (k + 1) σ' H4 := fun e σ' H4 F4 pp af rl => by
        obtain ⟨cs4, w1, w2, w3⟩ := rl.sl
        have kept := plus_kept held af rl.bh.s
        have notin : ∀ y ∈ cs4, y ∉ c :: rs' := fun y hy z => by
          have := w3 y hy
          obtain ⟨_, o, h4, _⟩ := held y z
          rw [plus_in z, h4] at this; cases this
        have kr := fun y hy => kept y (List.mem_cons_of_mem _ hy)
        refine ⟨F4, e, rs', cs4, x2.trans (plus_after Bc' af), ⟨plus_down Bc' rl.bh.s, bh3.tg⟩, rl.fh, w1, OwAll.mono af.ff _ _ _ orest kr, List.nodup_append.mpr ⟨nB.2.1, w2, fun y hy z hz w => notin z hz (List.mem_cons_of_mem _ (w ▸ hy))⟩, fun y hy => ?_, (kept c List.mem_cons_self).2.trans H3c, (kept c List.mem_cons_self).1, fun z => ?_, PoS.after pp (plus_after Bc' af)⟩
        · rcases List.mem_append.mp hy with z | z
          · exact Bc' y (List.mem_cons_of_mem _ z)
          · have := w3 y z
            rw [plus_out (notin y z)] at this; exact this
        · rcases List.mem_append.mp z with w | w
          · exact cn3 (List.mem_append_left _ (List.mem_append_right _ w))
          · exact notin c w List.mem_cons_self
      simp only [forP] at p3
      cases e4 : T ((env3.set i1 (some (.v s1))).set i2 (some (.v s2))) with
      | no => rw [e4] at p3; exact p3.elim
      | nx e => rw [e4] at p3; exact fun σ' H4 F4 af rl => next e σ' H4 F4 p3 af rl
      | ct e => rw [e4] at p3; exact fun σ' H4 F4 af rl => next e σ' H4 F4 p3 af rl
      | bk e =>
        rw [e4] at p3
        exact fun σ' H4 F4 af rl => by
          obtain ⟨cs4, w1, w2, w3⟩ := rl.sl
          exact p3 σ' H4 F4 (plus_after Bc' af) ⟨⟨plus_down Bc' rl.bh.s, bh3.tg⟩, rl.fh, cs4, w1, w2, fun y hy => by
            have := w3 y hy
            by_cases z : y ∈ c :: rs'
            · exact Bc' y z
            · rw [plus_out z] at this; exact this⟩
      | er cc e =>
        rw [e4] at p3
        exact fun σ' H4 F4 af rl => by
          obtain ⟨cs4, w1, w2, w3⟩ := rl.sl
          exact p3 σ' H4 F4 (plus_after Bc' af) ⟨⟨plus_down Bc' rl.bh.s, bh3.tg⟩, rl.fh, cs4, w1, w2, fun y hy => by
            have := w3 y hy
            by_cases z : y ∈ c :: rs'
            · exact Bc' y z
            · rw [plus_out z] at this; exact this⟩
      | rt s =>
        rw [e4] at p3
        exact fun v H4 F4 bs af sb sf o n fr => p3 v H4 F4 bs (plus_after Bc' af) (plus_down Bc' sb) sf o n fun y hy => by
          have := fr y hy
          by_cases z : y ∈ c :: rs'
          · exact Bc' y z
          · rw [plus_out z] at this; exact this
    · have e7 : k = ss.length := by omega
      refine .inl ⟨⟨vs, .inl (.inl H3c), by rw [hlen]; omega⟩, ?_⟩
      rw [e7, List.drop_length] at p3 oa3
      exact p3 σ2 H3 F2 AfterS.refl ⟨bh3, fh3, cs3, en3, (List.nodup_append.mp nd3).2.1, fun y hy => bn3 y (List.mem_append_right _ hy)⟩
end
end DL
namespace LX
open PySem PySem.Spec PyProof.Rows L2 DL
def topS (i : Nat) : Stmt := PySem.Challenge.pw_latelaw_k05_products_of_works.main.body.getD i (.Pass ⟨0, 0, 0, 0⟩)
def sel_OutOfRange : Str → Option Bool := fun c => if c = ("LateError" : Str) then some false else if c = ("BadWork" : Str) then some false else if c = ("OutOfRange" : Str) then some true else none
theorem sel_OutOfRange_of {c : Str} (h : sel_OutOfRange c = some true) : c = ("OutOfRange" : Str) := by
  unfold sel_OutOfRange at h
  repeat' split at h
  all_goals first
    | (cases h; done)
    | exact by assumption
structure Gl (K : PySem.W.Frag) (mg : Str → Option Value) : Prop where
  b_int : mg "int" = none
  b_abs : mg "abs" = none
  b_range : mg "range" = none
  b_len : mg "len" = none
  b_zip : mg "zip" = none
  b_list : mg "list" = none
  b_isinstance : mg "isinstance" = none
  b_ValueError : mg "ValueError" = none
  b_repr : mg "repr" = none
  m_gcd : mg "gcd" = some (.builtin "math.gcd")
  e_OutOfRange : Er K mg "OutOfRange"
  e_LateError : Er K mg "LateError"
  e_BadWork : Er K mg "BadWork"
  s_LateError_OutOfRange : SubO K mg "LateError" "OutOfRange" false
  s_BadWork_OutOfRange : SubO K mg "BadWork" "OutOfRange" false
  s_OutOfRange_OutOfRange : SubO K mg "OutOfRange" "OutOfRange" true
  s_OutOfRange_BadWork : SubO K mg "OutOfRange" "BadWork" false
  s_BadWork_BadWork : SubO K mg "BadWork" "BadWork" true
  s_OutOfRange_ValueError : SubB K mg "OutOfRange" "ValueError" true
  s_OutOfRange_LateError : SubO K mg "OutOfRange" "LateError" true
  s_LateError_LateError : SubO K mg "LateError" "LateError" true
theorem cl_OutOfRange {X : Cx} (G : Gl X.K X.mg) (hn : Names X "OutOfRange" (ecOf X.mg "OutOfRange")) : Cl X "OutOfRange" (ecOf X.mg "OutOfRange") sel_OutOfRange := ⟨hn, fun c b h => by
  unfold sel_OutOfRange at h
  repeat' split at h
  all_goals first
    | (cases h; done)
    | (cases h; rename_i q; subst q; exact exm_sub G.e_OutOfRange G.s_LateError_OutOfRange)
    | (cases h; rename_i q; subst q; exact exm_sub G.e_OutOfRange G.s_BadWork_OutOfRange)
    | (cases h; rename_i q; subst q; exact exm_sub G.e_OutOfRange G.s_OutOfRange_OutOfRange)⟩
/-! _law_draws -/
abbrev s__law_draws : Stmt := topS 23
theorem sc__law_draws : FnScope ["cell", "limits", "found", "rest", "state", "free", "limit"] ["cell", "limits"] (defScope s__law_draws) := ⟨rfl, rfl, rfl, by decide +kernel, rfl, by decide +kernel, by decide +kernel⟩
noncomputable def T__law_draws : En → SR :=
  (sqS (asO 2 (lstR nilA))
  (sqS (asS 3 (cal (consA (cal (consA (vf 0) nilA) (one intD)) nilA) (one absD)))
  (sqS (asS 4 (b2 (cal (consA (vf 3) nilA) (one intD)) (cI 2147483647) modD))
  (sqS (asS 5 (orV (b2 (vf 0) (cI 0) ltD) (b2 (vf 0) (b2 (cI 10) (cI 18) powD) geD)))
  (sqS (fgS [6] (forS (seqR (vf 1)) (setN 6)
  (fnS [6] (ifS (andT (truR (vf 5)) (t2 (vf 3) (cI 1) gtD))
  (sqS (apS 2 (frR (b2 (cal (consA (vf 3) nilA) (one intD)) (vf 6) modD)))
  (asS 3 (b2 (vf 3) (vf 6) fdivD)))
  (sqS (asS 4 (b2 (cal (consA (b2 (b2 (vf 4) (cI 48271) mulD) (cI 11) addD) nilA) (one intD)) (cI 2147483647) modD))
  (sqS (asS 4 (b2 (cal (consA (b2 (b2 (vf 4) (cI 69621) mulD) (cI 7) addD) nilA) (one intD)) (cI 2147483647) modD))
  (apS 2 (frR (b2 (cal (consA (b2 (vf 4) (cI 13) fdivD) nilA) (one intD)) (vf 6) modD)))))))))
  (rtV 2))))))
noncomputable def g__law_draws : List D → R S := bodyR ["cell", "limits", "found", "rest", "state", "free", "limit"] 2 T__law_draws
theorem b__law_draws (d0 d1 : D) : g__law_draws [d0, d1] = endR (T__law_draws [some (.v (.fr d0)), some (.v (.fr d1)), none, none, none, none, none]) := rfl
theorem c__law_draws {P : Program} {w : World} {K : PySem.W.Frag} {mg : Str → Option Value} {base : Heap} (G : Gl K mg) (d : Fd K mg "_law_draws" s__law_draws ["cell", "limits"])  : Cal P w K mg base 1 "_law_draws" ["cell", "limits"] g__law_draws :=
  cal_mk d sc__law_draws fun f0 cdv A outer s H E cx =>
  (dss_cons (ds_setO 2 cx.nd (do_lst da_nil))
  (dss_cons (ds_set 3 cx.nd (de_callB bi_abs (by exact rfl) G.b_abs PyProof.Rows.boot_abs (da_cons (m := .h) (de_callT bi_int (by exact rfl) G.b_int PyProof.Rows.boot_int (da_cons (m := .h) (de_up (de_var 0)) da_nil)) da_nil)))
  (dss_cons (ds_set 4 cx.nd (de_mod (de_callT bi_int (by exact rfl) G.b_int PyProof.Rows.boot_int (da_cons (m := .h) (de_up (de_var 3)) da_nil)) de_int))
  (dss_cons (ds_set 5 cx.nd (de_or (de_cm cm_lt (de_up (de_var 0)) de_int) (de_one (de_cm cm_ge (de_up (de_var 0)) (de_pow de_int de_int)))))
  (dss_cons (ds_forget [6] (ds_for cx (di_seq (de_var 1)) (dg_name 6 cx.nd)
  (dss_fin [6] (dss_one (ds_if (dt_w (dw_and (dt_val (de_up (de_var 5))) (dw_and1 (dt_cm cm_gt (de_up (de_var 3)) de_int))))
  (dss_cons (ds_append 2 (do_f (de_mod (de_callT bi_int (by exact rfl) G.b_int PyProof.Rows.boot_int (da_cons (m := .h) (de_up (de_var 3)) da_nil)) (de_up (de_var 6)))))
  (dss_one (ds_set 3 cx.nd (de_fdiv (de_up (de_var 3)) (de_up (de_var 6))))))
  (dss_cons (ds_set 4 cx.nd (de_mod (de_callT bi_int (by exact rfl) G.b_int PyProof.Rows.boot_int (da_cons (m := .h) (de_up (de_add (de_mul (de_up (de_var 4)) de_int) de_int)) da_nil)) de_int))
  (dss_cons (ds_set 4 cx.nd (de_mod (de_callT bi_int (by exact rfl) G.b_int PyProof.Rows.boot_int (da_cons (m := .h) (de_up (de_add (de_mul (de_up (de_var 4)) de_int) de_int)) da_nil)) de_int))
  (dss_one (ds_append 2 (do_f (de_mod (de_callT bi_int (by exact rfl) G.b_int PyProof.Rows.boot_int (da_cons (m := .h) (de_fdiv (de_up (de_var 4)) de_int) da_nil)) (de_up (de_var 6)))))))))))))
  (dss_one (ds_retV 2)))))))
/-! _law_gcd -/
abbrev s__law_gcd : Stmt := topS 24
theorem sc__law_gcd : FnScope ["a", "b", "k", "rest"] ["a", "b"] (defScope s__law_gcd) := ⟨rfl, rfl, rfl, by decide +kernel, rfl, by decide +kernel, by decide +kernel⟩
noncomputable def T__law_gcd : En → SR :=
  (sqS (asS 0 (cal (consA (vf 0) nilA) (one absD)))
  (sqS (asS 1 (cal (consA (vf 1) nilA) (one absD)))
  (sqS (fgS [2, 3] (forS (cal (consA (b2 (b2 (bitR (vf 0)) (bitR (vf 1)) addD) (cI 4) addD) nilA) rng1) (setN 2)
  (fnS [2, 3] (sqS (ifS (t2 (vf 1) (cI 0) eqD)
  (rtS (vf 0))
  nxS)
  (sqS (asS 3 (b2 (cal (consA (vf 0) nilA) (one intD)) (vf 1) modD))
  (sqS (asS 0 (vf 1))
  (asS 1 (vf 3))))))))
  (rtS (vf 0)))))
noncomputable def g__law_gcd : List D → R S := bodyR ["a", "b", "k", "rest"] 2 T__law_gcd
theorem b__law_gcd (d0 d1 : D) : g__law_gcd [d0, d1] = endR (T__law_gcd [some (.v (.fr d0)), some (.v (.fr d1)), none, none]) := rfl
theorem c__law_gcd {P : Program} {w : World} {K : PySem.W.Frag} {mg : Str → Option Value} {base : Heap} (G : Gl K mg) (d : Fd K mg "_law_gcd" s__law_gcd ["a", "b"])  : Cal P w K mg base 1 "_law_gcd" ["a", "b"] g__law_gcd :=
  cal_mk d sc__law_gcd fun f0 cdv A outer s H E cx =>
  (dss_cons (ds_set 0 cx.nd (de_callB bi_abs (by exact rfl) G.b_abs PyProof.Rows.boot_abs (da_cons (m := .h) (de_up (de_var 0)) da_nil)))
  (dss_cons (ds_set 1 cx.nd (de_callB bi_abs (by exact rfl) G.b_abs PyProof.Rows.boot_abs (da_cons (m := .h) (de_up (de_var 1)) da_nil)))
  (dss_cons (ds_forget [2, 3] (ds_for cx (di_rng1 (st := true) (by exact rfl) G.b_range (da_cons (m := .h) (de_up (de_add (de_up (de_add (de_bits (de_up (de_var 0))) (de_bits (de_up (de_var 1))))) de_int)) da_nil)) (dg_name 2 cx.nd)
  (dss_fin [2, 3] (dss_cons (ds_if (dt_cm (cm_eq (room64 cx.rm)) (de_up (de_var 1)) de_int)
  (dss_one (ds_ret (de_var 0)))
  dss_nil)
  (dss_cons (ds_set 3 cx.nd (de_mod (de_callT bi_int (by exact rfl) G.b_int PyProof.Rows.boot_int (da_cons (m := .h) (de_up (de_var 0)) da_nil)) (de_up (de_var 1))))
  (dss_cons (ds_set 0 cx.nd (de_var 1))
  (dss_one (ds_set 1 cx.nd (de_var 3)))))))))
  (dss_one (ds_ret (de_var 0))))))
/-! _law_fraction -/
abbrev s__law_fraction : Stmt := topS 25
theorem sc__law_fraction : FnScope ["top", "low", "common"] ["top", "low"] (defScope s__law_fraction) := ⟨rfl, rfl, rfl, by decide +kernel, rfl, by decide +kernel, by decide +kernel⟩
noncomputable def T__law_fraction : En → SR :=
  (sqS (asS 2 (unO (cal (consA (vf 0) (consA (vf 1) nilA)) g__law_gcd)))
  (sqS (ifS (t2 (vf 1) (cI 0) ltD)
  (asS 2 (negR (vf 2)))
  nxS)
  (rtS (tupR (consA (b2 (vf 0) (vf 2) fdivD) (consA (b2 (vf 1) (vf 2) fdivD) nilA))))))
noncomputable def g__law_fraction : List D → R S := bodyR ["top", "low", "common"] 2 T__law_fraction
theorem b__law_fraction (d0 d1 : D) : g__law_fraction [d0, d1] = endR (T__law_fraction [some (.v (.fr d0)), some (.v (.fr d1)), none]) := rfl
theorem c__law_fraction {P : Program} {w : World} {K : PySem.W.Frag} {mg : Str → Option Value} {base : Heap} (G : Gl K mg) (d : Fd K mg "_law_fraction" s__law_fraction ["top", "low"]) (h__law_gcd : Cal P w K mg base 1 "_law_gcd" ["a", "b"] g__law_gcd) : Cal P w K mg base 2 "_law_fraction" ["top", "low"] g__law_fraction :=
  cal_mk d sc__law_fraction fun f0 cdv A outer s H E cx =>
  (dss_cons (ds_set 2 cx.nd (de_o (do_cal h__law_gcd cx (by decide) (da_cons (m := .f) (de_var 0) (da_cons (m := .f) (de_var 1) da_nil)) rfl (consA_len (consA_len nilA_len)))))
  (dss_cons (ds_if (dt_cm cm_lt (de_up (de_var 1)) de_int)
  (dss_one (ds_set 2 cx.nd (de_neg (de_up (de_var 2)))))
  dss_nil)
  (dss_one (ds_ret (de_tup (da_cons (m := .f) (de_fdiv (de_up (de_var 0)) (de_up (de_var 2))) (da_cons (m := .f) (de_fdiv (de_up (de_var 1)) (de_up (de_var 2))) da_nil)))))))
/-! _law_small -/
abbrev s__law_small : Stmt := topS 32
theorem sc__law_small : FnScope ["cell", "often", "draws"] ["cell", "often"] (defScope s__law_small) := ⟨rfl, rfl, rfl, by decide +kernel, rfl, by decide +kernel, by decide +kernel⟩
noncomputable def T__law_small : En → SR :=
  (sqS (asS 2 (unO (cal (consA (vf 0) (consA (unO (lstR (consA (cI 10) (consA (cI 15) (consA (cI 12) nilA))))) nilA)) g__law_draws)))
  (sqS (ifS (t2 (b2 (vf 2) (cI 0) ixD) (vf 1) ltD)
  (rtS cN)
  nxS)
  (sqS (ifS (t2 (b2 (vf 2) (cI 0) ixD) (cI 9) eqD)
  (rtO (cal (consA (b2 (b2 (vf 2) (cI 1) ixD) (cI 7) subD) (consA (b2 (cI 1) (b2 (vf 2) (cI 2) ixD) addD) nilA)) g__law_fraction))
  nxS)
  (rtS (tupR (consA (b2 (b2 (vf 2) (cI 1) ixD) (cI 7) subD) (consA (cI 1) nilA)))))))
noncomputable def g__law_small : List D → R S := bodyR ["cell", "often", "draws"] 2 T__law_small
theorem b__law_small (d0 d1 : D) : g__law_small [d0, d1] = endR (T__law_small [some (.v (.fr d0)), some (.v (.fr d1)), none]) := rfl
theorem c__law_small {P : Program} {w : World} {K : PySem.W.Frag} {mg : Str → Option Value} {base : Heap} (G : Gl K mg) (d : Fd K mg "_law_small" s__law_small ["cell", "often"]) (h__law_draws : Cal P w K mg base 1 "_law_draws" ["cell", "limits"] g__law_draws) (h__law_fraction : Cal P w K mg base 2 "_law_fraction" ["top", "low"] g__law_fraction) : Cal P w K mg base 3 "_law_small" ["cell", "often"] g__law_small :=
  cal_mk d sc__law_small fun f0 cdv A outer s H E cx =>
  (dss_cons (ds_set 2 cx.nd (de_o (do_cal h__law_draws cx (by decide) (da_cons (m := .f) (de_var 0) (da_cons (m := .f) (de_o (do_lst (da_cons (m := .f) de_int (da_cons (m := .f) de_int (da_cons (m := .f) de_int da_nil))))) da_nil)) rfl (consA_len (consA_len nilA_len)))))
  (dss_cons (ds_if (dt_cm cm_lt (de_up (de_ix (de_up (de_var 2)) de_int)) (de_up (de_var 1)))
  (dss_one (ds_ret de_non))
  dss_nil)
  (dss_cons (ds_if (dt_cm (cm_eq (room64 cx.rm)) (de_up (de_ix (de_up (de_var 2)) de_int)) de_int)
  (dss_one (ds_retO (do_cal h__law_fraction cx (by decide) (da_cons (m := .f) (de_sub (de_up (de_ix (de_up (de_var 2)) de_int)) de_int) (da_cons (m := .f) (de_add de_int (de_up (de_ix (de_up (de_var 2)) de_int))) da_nil)) rfl (consA_len (consA_len nilA_len)))))
  dss_nil)
  (dss_one (ds_ret (de_tup (da_cons (m := .f) (de_sub (de_up (de_ix (de_up (de_var 2)) de_int)) de_int) (da_cons (m := .f) de_int da_nil))))))))
/-! _law_times -/
abbrev s__law_times : Stmt := topS 27
theorem sc__law_times : FnScope ["first", "number"] ["first", "number"] (defScope s__law_times) := ⟨rfl, rfl, rfl, by decide +kernel, rfl, by decide +kernel, by decide +kernel⟩
noncomputable def T__law_times : En → SR :=
  (rtO (cal (consA (b2 (b2 (vf 0) (cI 0) ixD) (vf 1) mulD) (consA (b2 (vf 0) (cI 1) ixD) nilA)) g__law_fraction))
noncomputable def g__law_times : List D → R S := bodyR ["first", "number"] 2 T__law_times
theorem b__law_times (d0 d1 : D) : g__law_times [d0, d1] = endR (T__law_times [some (.v (.fr d0)), some (.v (.fr d1))]) := rfl
theorem c__law_times {P : Program} {w : World} {K : PySem.W.Frag} {mg : Str → Option Value} {base : Heap} (G : Gl K mg) (d : Fd K mg "_law_times" s__law_times ["first", "number"]) (h__law_fraction : Cal P w K mg base 2 "_law_fraction" ["top", "low"] g__law_fraction) : Cal P w K mg base 3 "_law_times" ["first", "number"] g__law_times :=
  cal_mk d sc__law_times fun f0 cdv A outer s H E cx =>
  (dss_one (ds_retO (do_cal h__law_fraction cx (by decide) (da_cons (m := .f) (de_mul (de_up (de_ix (de_up (de_var 0)) de_int)) (de_up (de_var 1))) (da_cons (m := .f) (de_ix (de_up (de_var 0)) de_int) da_nil)) rfl (consA_len (consA_len nilA_len)))))
/-! _law_work -/
abbrev s__law_work : Stmt := topS 33
theorem sc__law_work : FnScope ["cell", "cells", "most", "draws", "factor", "size", "often", "work", "i", "row", "j", "at", "number", "moment"] ["cell", "cells", "most"] (defScope s__law_work) := ⟨rfl, rfl, rfl, by decide +kernel, rfl, by decide +kernel, by decide +kernel⟩
noncomputable def T__law_work : En → SR :=
  (sqS (asS 3 (unO (cal (consA (vf 0) (consA (unO (lstR (consA (vf 2) (consA (cI 10) (consA (cI 4) (consA (cI 6) (consA (b2 (cI 10) (cI 9) powD) nilA))))))) nilA)) g__law_draws)))
  (sqS (asS 4 (b2 (unO (lstR (consA (cI 1) (consA (cI 1) (consA (cI 1) (consA (cI 1) (consA (b2 (cI 1) (b2 (cal (consA (b2 (vf 3) (cI 4) ixD) nilA) (one intD)) (cI 500) modD) addD) (consA (b2 (cI 1) (b2 (vf 3) (cI 4) ixD) addD) nilA)))))))) (b2 (vf 3) (cI 3) ixD) ixD))
  (sqS (asS 5 (b2 (cI 1) (b2 (vf 3) (cI 0) ixD) addD))
  (sqS (asS 6 (b2 (unO (lstR (consA (cI 0) (consA (cI 2) (consA (cI 4) (consA (cI 5) (consA (cI 6) (consA (cI 7) (consA (cI 7) (consA (cI 8) (consA (cI 5) (consA (cI 3) nilA)))))))))))) (b2 (vf 3) (cI 1) ixD) ixD))
  (sqS (asO 7 (lstR nilA))
  (sqS (fgS [8, 9, 10, 11, 12, 13] (forS (cal (consA (vf 5) nilA) rng1) (setN 8)
  (fnS [8, 9, 10, 11, 12, 13] (sqS (asO 9 (lstR nilA))
  (sqS (fgS [10, 11, 12, 13] (forS (cal (consA (vf 5) nilA) rng1) (setN 10)
  (fnS [10, 11, 12, 13] (sqS (asS 11 (b2 (b2 (vf 8) (vf 5) mulD) (vf 10) addD))
  (sqS (asS 12 (b2 (cI 31) (vf 11) mulD))
  (sqS (ifS (t2 (cal (consA (vf 1) nilA) (one lenD)) (cI 0) gtD)
  (asS 12 (b2 (cal (consA (b2 (vf 1) (b2 (vf 11) (cal (consA (vf 1) nilA) (one lenD)) modD) ixD) nilA) (one intD)) (b2 (b2 (cI 31) (b2 (vf 11) (cal (consA (vf 1) nilA) (one lenD)) fdivD) mulD) (cI 7) mulD) addD))
  nxS)
  (sqS (asS 13 (unO (cal (consA (vf 12) (consA (vf 6) nilA)) g__law_small)))
  (sqS (ifS (t2 (vf 13) cN isNotD)
  (asS 13 (unO (cal (consA (vf 13) (consA (vf 4) nilA)) g__law_times)))
  nxS)
  (apS 9 (frR (vf 13)))))))))))
  (apV 7 9))))))
  (sqS (ifS (t2 (b2 (vf 3) (cI 2) ixD) (cI 0) eqD)
  (fgS [8, 9, 10] (forS (cal (consA (vf 5) nilA) rng1) (setN 8)
  (fnS [8, 9, 10] (fgS [9, 10] (forS (cal (consA (vf 5) nilA) rng1) (setN 10)
  (fnS [9, 10] (ifS (t2 (vf 10) (vf 8) gtD)
  (sqS (alS 7 9 (rfX 7 (rfV 7) (vf 8)) (frR cN) (vf 10)) nxS)
  nxS)))))))
  nxS)
  (rtV 7))))))))
noncomputable def g__law_work : List D → R S := bodyR ["cell", "cells", "most", "draws", "factor", "size", "often", "work", "i", "row", "j", "at", "number", "moment"] 3 T__law_work
theorem b__law_work (d0 d1 d2 : D) : g__law_work [d0, d1, d2] = endR (T__law_work [some (.v (.fr d0)), some (.v (.fr d1)), some (.v (.fr d2)), none, none, none, none, none, none, none, none, none, none, none]) := rfl
theorem c__law_work {P : Program} {w : World} {K : PySem.W.Frag} {mg : Str → Option Value} {base : Heap} (G : Gl K mg) (d : Fd K mg "_law_work" s__law_work ["cell", "cells", "most"]) (h__law_draws : Cal P w K mg base 1 "_law_draws" ["cell", "limits"] g__law_draws) (h__law_small : Cal P w K mg base 3 "_law_small" ["cell", "often"] g__law_small) (h__law_times : Cal P w K mg base 3 "_law_times" ["first", "number"] g__law_times) : Cal P w K mg base 4 "_law_work" ["cell", "cells", "most"] g__law_work :=
  cal_mk d sc__law_work fun f0 cdv A outer s H E cx =>
  (dss_cons (ds_set 3 cx.nd (de_o (do_cal h__law_draws cx (by decide) (da_cons (m := .f) (de_var 0) (da_cons (m := .f) (de_o (do_lst (da_cons (m := .f) (de_var 2) (da_cons (m := .f) de_int (da_cons (m := .f) de_int (da_cons (m := .f) de_int (da_cons (m := .f) (de_pow de_int de_int) da_nil))))))) da_nil)) rfl (consA_len (consA_len nilA_len)))))
  (dss_cons (ds_set 4 cx.nd (de_ix (de_up (de_o (do_lst (da_cons (m := .f) de_int (da_cons (m := .f) de_int (da_cons (m := .f) de_int (da_cons (m := .f) de_int (da_cons (m := .f) (de_add de_int (de_mod (de_callT bi_int (by exact rfl) G.b_int PyProof.Rows.boot_int (da_cons (m := .h) (de_up (de_ix (de_up (de_var 3)) de_int)) da_nil)) de_int)) (da_cons (m := .f) (de_add de_int (de_up (de_ix (de_up (de_var 3)) de_int))) da_nil))))))))) (de_up (de_ix (de_up (de_var 3)) de_int))))
  (dss_cons (ds_set 5 cx.nd (de_add de_int (de_up (de_ix (de_up (de_var 3)) de_int))))
  (dss_cons (ds_set 6 cx.nd (de_ix (de_up (de_o (do_lst (da_cons (m := .f) de_int (da_cons (m := .f) de_int (da_cons (m := .f) de_int (da_cons (m := .f) de_int (da_cons (m := .f) de_int (da_cons (m := .f) de_int (da_cons (m := .f) de_int (da_cons (m := .f) de_int (da_cons (m := .f) de_int (da_cons (m := .f) de_int da_nil))))))))))))) (de_up (de_ix (de_up (de_var 3)) de_int))))
  (dss_cons (ds_setO 7 cx.nd (do_lst da_nil))
  (dss_cons (ds_forget [8, 9, 10, 11, 12, 13] (ds_for cx (di_rng1 (st := true) (by exact rfl) G.b_range (da_cons (m := .h) (de_up (de_var 5)) da_nil)) (dg_name 8 cx.nd)
  (dss_fin [8, 9, 10, 11, 12, 13] (dss_cons (ds_setO 9 cx.nd (do_lst da_nil))
  (dss_cons (ds_forget [10, 11, 12, 13] (ds_for cx (di_rng1 (st := true) (by exact rfl) G.b_range (da_cons (m := .h) (de_up (de_var 5)) da_nil)) (dg_name 10 cx.nd)
  (dss_fin [10, 11, 12, 13] (dss_cons (ds_set 11 cx.nd (de_add (de_mul (de_up (de_var 8)) (de_up (de_var 5))) (de_up (de_var 10))))
  (dss_cons (ds_set 12 cx.nd (de_mul de_int (de_up (de_var 11))))
  (dss_cons (ds_if (dt_cm cm_gt (de_callB bi_len (by exact rfl) G.b_len PySem.boot_len (da_cons (m := .h) (de_up (de_var 1)) da_nil)) de_int)
  (dss_one (ds_set 12 cx.nd (de_add (de_callT bi_int (by exact rfl) G.b_int PyProof.Rows.boot_int (da_cons (m := .h) (de_up (de_ix (de_up (de_var 1)) (de_mod (de_up (de_var 11)) (de_callB bi_len (by exact rfl) G.b_len PySem.boot_len (da_cons (m := .h) (de_up (de_var 1)) da_nil))))) da_nil)) (de_mul (de_mul de_int (de_fdiv (de_up (de_var 11)) (de_callB bi_len (by exact rfl) G.b_len PySem.boot_len (da_cons (m := .h) (de_up (de_var 1)) da_nil)))) de_int))))
  dss_nil)
  (dss_cons (ds_set 13 cx.nd (de_o (do_cal h__law_small cx (by decide) (da_cons (m := .f) (de_var 12) (da_cons (m := .f) (de_var 6) da_nil)) rfl (consA_len (consA_len nilA_len)))))
  (dss_cons (ds_if (dt_cm cm_isn (de_up (de_var 13)) de_non)
  (dss_one (ds_set 13 cx.nd (de_o (do_cal h__law_times cx (by decide) (da_cons (m := .f) (de_var 13) (da_cons (m := .f) (de_var 4) da_nil)) rfl (consA_len (consA_len nilA_len))))))
  dss_nil)
  (dss_one (ds_append 9 (do_f (de_var 13))))))))))))
  (dss_one (ds_appendV 7 9)))))))
  (dss_cons (ds_if (dt_cm (cm_eq (room64 cx.rm)) (de_up (de_ix (de_up (de_var 3)) de_int)) de_int)
  (dss_one (ds_forget [8, 9, 10] (ds_for cx (di_rng1 (st := true) (by exact rfl) G.b_range (da_cons (m := .h) (de_up (de_var 5)) da_nil)) (dg_name 8 cx.nd)
  (dss_fin [8, 9, 10] (dss_one (ds_forget [9, 10] (ds_for cx (di_rng1 (st := true) (by exact rfl) G.b_range (da_cons (m := .h) (de_up (de_var 5)) da_nil)) (dg_name 10 cx.nd)
  (dss_fin [9, 10] (dss_one (ds_if (dt_cm cm_gt (de_up (de_var 10)) (de_up (de_var 8)))
  (dss_alias 9 cx.nd (dr_ix (dr_var 7) (de_up (de_var 8))) (do_f de_non) (de_up (de_var 10)) (h2 := dss_nil))
  dss_nil))))))))))
  dss_nil)
  (dss_one (ds_retV 7)))))))))
/-! _law_idle -/
abbrev s__law_idle : Stmt := topS 36
theorem sc__law_idle : FnScope ["size", "i", "j"] ["size"] (defScope s__law_idle) := ⟨rfl, rfl, rfl, by decide +kernel, rfl, by decide +kernel, by decide +kernel⟩
noncomputable def T__law_idle : En → SR :=
  (rtO (compR [1] (cal (consA (vf 0) nilA) rng1) (setN 1) yesT (compR [2] (cal (consA (vf 0) nilA) rng1) (setN 2) yesT (frR (b2 (unO (lstR (consA cN (consA (tupR (consA (cI 0) (consA (cI 1) nilA))) nilA)))) (cal (consA (b2 (vf 1) (vf 2) eqD) nilA) (one intD)) ixD)))))
noncomputable def g__law_idle : List D → R S := bodyR ["size", "i", "j"] 1 T__law_idle
theorem b__law_idle (d0 : D) : g__law_idle [d0] = endR (T__law_idle [some (.v (.fr d0)), none, none]) := rfl
theorem c__law_idle {P : Program} {w : World} {K : PySem.W.Frag} {mg : Str → Option Value} {base : Heap} (G : Gl K mg) (d : Fd K mg "_law_idle" s__law_idle ["size"])  : Cal P w K mg base 1 "_law_idle" ["size"] g__law_idle :=
  cal_mk d sc__law_idle fun f0 cdv A outer s H E cx =>
  (dss_one (ds_retO (do_comp cx (di_rng1 (st := false) (by exact rfl) G.b_range (da_cons (m := .h) (de_up (de_var 0)) da_nil)) (blkOk_by (own := [(("i" : Str), 1)]) (by kernel_rfl)) (fun _ _ _ _ _ => (dg_name 1 cx.nd)) (fun _ _ _ _ _ => dts_nil) (fun s1 H1 C1 cl1 fp1 => (do_comp (cx.blk s1 H1 _ _ fp1) (di_rng1 (st := false) (by exact rfl) G.b_range (da_cons (m := .h) (de_up (de_var 0)) da_nil)) (blkOk_by (own := [(("j" : Str), 2)]) (by kernel_rfl)) (fun _ _ _ _ _ => (dg_name 2 cx.nd)) (fun _ _ _ _ _ => dts_nil) (fun s2 H2 C2 cl2 fp2 => (do_f (de_ix (de_up (de_o (do_lst (da_cons (m := .f) de_non (da_cons (m := .f) (de_tup (da_cons (m := .f) de_int (da_cons (m := .f) de_int da_nil))) da_nil))))) (de_callT bi_int (by exact rfl) G.b_int PyProof.Rows.boot_int (da_cons (m := .h) (de_cm (cm_eq (room64 cx.rm)) (de_up (de_var 1)) (de_up (de_var 2))) da_nil))))))))))
/-! _law_cell -/
abbrev s__law_cell : Stmt := topS 22
theorem sc__law_cell : FnScope ["script", "k"] ["script", "k"] (defScope s__law_cell) := ⟨rfl, rfl, rfl, by decide +kernel, rfl, by decide +kernel, by decide +kernel⟩
noncomputable def T__law_cell : En → SR :=
  (sqS (ifS (t2 (vf 1) (cal (consA (vf 0) nilA) (one lenD)) ltD)
  (rtS (cal (consA (b2 (vf 0) (vf 1) ixD) nilA) (one intD)))
  nxS)
  (rtS (cI 0)))
noncomputable def g__law_cell : List D → R S := bodyR ["script", "k"] 2 T__law_cell
theorem b__law_cell (d0 d1 : D) : g__law_cell [d0, d1] = endR (T__law_cell [some (.v (.fr d0)), some (.v (.fr d1))]) := rfl
theorem c__law_cell {P : Program} {w : World} {K : PySem.W.Frag} {mg : Str → Option Value} {base : Heap} (G : Gl K mg) (d : Fd K mg "_law_cell" s__law_cell ["script", "k"])  : Cal P w K mg base 1 "_law_cell" ["script", "k"] g__law_cell :=
  cal_mk d sc__law_cell fun f0 cdv A outer s H E cx =>
  (dss_cons (ds_if (dt_cm cm_lt (de_up (de_var 1)) (de_callB bi_len (by exact rfl) G.b_len PySem.boot_len (da_cons (m := .h) (de_up (de_var 0)) da_nil)))
  (dss_one (ds_ret (de_callT bi_int (by exact rfl) G.b_int PyProof.Rows.boot_int (da_cons (m := .h) (de_up (de_ix (de_up (de_var 0)) (de_up (de_var 1)))) da_nil))))
  dss_nil)
  (dss_one (ds_ret de_int)))
/-! _law_less -/
abbrev s__law_less : Stmt := topS 29
theorem sc__law_less : FnScope ["first", "second"] ["first", "second"] (defScope s__law_less) := ⟨rfl, rfl, rfl, by decide +kernel, rfl, by decide +kernel, by decide +kernel⟩
noncomputable def T__law_less : En → SR :=
  (sqS (ifS (t2 (vf 1) cN isD)
  (rtS (cB false))
  nxS)
  (rtS (orV (b2 (vf 0) cN isD) (b2 (b2 (b2 (vf 0) (cI 0) ixD) (b2 (vf 1) (cI 1) ixD) mulD) (b2 (b2 (vf 1) (cI 0) ixD) (b2 (vf 0) (cI 1) ixD) mulD) ltD))))
noncomputable def g__law_less : List D → R S := bodyR ["first", "second"] 2 T__law_less
theorem b__law_less (d0 d1 : D) : g__law_less [d0, d1] = endR (T__law_less [some (.v (.fr d0)), some (.v (.fr d1))]) := rfl
theorem c__law_less {P : Program} {w : World} {K : PySem.W.Frag} {mg : Str → Option Value} {base : Heap} (G : Gl K mg) (d : Fd K mg "_law_less" s__law_less ["first", "second"])  : Cal P w K mg base 1 "_law_less" ["first", "second"] g__law_less :=
  cal_mk d sc__law_less fun f0 cdv A outer s H E cx =>
  (dss_cons (ds_if (dt_cm cm_is (de_up (de_var 1)) de_non)
  (dss_one (ds_ret de_bl))
  dss_nil)
  (dss_one (ds_ret (de_or (de_cm cm_is (de_up (de_var 0)) de_non) (de_one (de_cm cm_lt (de_mul (de_up (de_ix (de_up (de_var 0)) de_int)) (de_up (de_ix (de_up (de_var 1)) de_int))) (de_mul (de_up (de_ix (de_up (de_var 1)) de_int)) (de_up (de_ix (de_up (de_var 0)) de_int)))))))))
/-! _law_latest -/
abbrev s__law_latest : Stmt := topS 30
theorem sc__law_latest : FnScope ["moments", "best", "moment"] ["moments"] (defScope s__law_latest) := ⟨rfl, rfl, rfl, by decide +kernel, rfl, by decide +kernel, by decide +kernel⟩
noncomputable def T__law_latest : En → SR :=
  (sqS (asS 1 cN)
  (sqS (fgS [2] (forS (seqR (vf 0)) (setN 2)
  (fnS [2] (ifS (truR (unO (cal (consA (vf 1) (consA (vf 2) nilA)) g__law_less)))
  (asS 1 (vf 2))
  nxS))))
  (rtS (vf 1))))
noncomputable def g__law_latest : List D → R S := bodyR ["moments", "best", "moment"] 1 T__law_latest
theorem b__law_latest (d0 : D) : g__law_latest [d0] = endR (T__law_latest [some (.v (.fr d0)), none, none]) := rfl
theorem c__law_latest {P : Program} {w : World} {K : PySem.W.Frag} {mg : Str → Option Value} {base : Heap} (G : Gl K mg) (d : Fd K mg "_law_latest" s__law_latest ["moments"]) (h__law_less : Cal P w K mg base 1 "_law_less" ["first", "second"] g__law_less) : Cal P w K mg base 2 "_law_latest" ["moments"] g__law_latest :=
  cal_mk d sc__law_latest fun f0 cdv A outer s H E cx =>
  (dss_cons (ds_set 1 cx.nd de_non)
  (dss_cons (ds_forget [2] (ds_for cx (di_seq (de_var 0)) (dg_name 2 cx.nd)
  (dss_fin [2] (dss_one (ds_if (dt_val (de_up (de_o (do_cal h__law_less cx (by decide) (da_cons (m := .f) (de_var 1) (da_cons (m := .f) (de_var 2) da_nil)) rfl (consA_len (consA_len nilA_len))))))
  (dss_one (ds_set 1 cx.nd (de_var 2)))
  dss_nil)))))
  (dss_one (ds_ret (de_var 1)))))
/-! _law_plus -/
abbrev s__law_plus : Stmt := topS 26
theorem sc__law_plus : FnScope ["first", "second"] ["first", "second"] (defScope s__law_plus) := ⟨rfl, rfl, rfl, by decide +kernel, rfl, by decide +kernel, by decide +kernel⟩
noncomputable def T__law_plus : En → SR :=
  (sqS (ifS (orT (t2 (vf 0) cN isD) (t2 (vf 1) cN isD))
  (rtS cN)
  nxS)
  (rtO (cal (consA (b2 (b2 (b2 (vf 0) (cI 0) ixD) (b2 (vf 1) (cI 1) ixD) mulD) (b2 (b2 (vf 1) (cI 0) ixD) (b2 (vf 0) (cI 1) ixD) mulD) addD) (consA (b2 (b2 (vf 0) (cI 1) ixD) (b2 (vf 1) (cI 1) ixD) mulD) nilA)) g__law_fraction)))
noncomputable def g__law_plus : List D → R S := bodyR ["first", "second"] 2 T__law_plus
theorem b__law_plus (d0 d1 : D) : g__law_plus [d0, d1] = endR (T__law_plus [some (.v (.fr d0)), some (.v (.fr d1))]) := rfl
theorem c__law_plus {P : Program} {w : World} {K : PySem.W.Frag} {mg : Str → Option Value} {base : Heap} (G : Gl K mg) (d : Fd K mg "_law_plus" s__law_plus ["first", "second"]) (h__law_fraction : Cal P w K mg base 2 "_law_fraction" ["top", "low"] g__law_fraction) : Cal P w K mg base 3 "_law_plus" ["first", "second"] g__law_plus :=
  cal_mk d sc__law_plus fun f0 cdv A outer s H E cx =>
  (dss_cons (ds_if (dt_w (dw_or (dt_cm cm_is (de_up (de_var 0)) de_non) (dw_or1 (dt_cm cm_is (de_up (de_var 1)) de_non))))
  (dss_one (ds_ret de_non))
  dss_nil)
  (dss_one (ds_retO (do_cal h__law_fraction cx (by decide) (da_cons (m := .f) (de_add (de_mul (de_up (de_ix (de_up (de_var 0)) de_int)) (de_up (de_ix (de_up (de_var 1)) de_int))) (de_mul (de_up (de_ix (de_up (de_var 1)) de_int)) (de_up (de_ix (de_up (de_var 0)) de_int)))) (da_cons (m := .f) (de_mul (de_up (de_ix (de_up (de_var 0)) de_int)) (de_up (de_ix (de_up (de_var 1)) de_int))) da_nil)) rfl (consA_len (consA_len nilA_len))))))
/-! _law_product -/
abbrev s__law_product : Stmt := topS 35
theorem sc__law_product : FnScope ["first", "second", "size", "found", "i", "j", "k"] ["first", "second"] (defScope s__law_product) := ⟨rfl, rfl, rfl, by decide +kernel, rfl, by decide +kernel, by decide +kernel⟩
noncomputable def T__law_product : En → SR :=
  (sqS (asS 2 (cal (consA (vf 0) nilA) (one lenD)))
  (sqS (asO 3 (lstR nilA))
  (sqS (fgS [4] (forS (cal (consA (vf 2) nilA) rng1) (setN 4)
  (fnS [4] (apS 3 (frR (unO (compR [5] (cal (consA (vf 2) nilA) rng1) (setN 5) yesT (cal (consA (unO (compR [6] (cal (consA (vf 2) nilA) rng1) (setN 6) yesT (cal (consA (b2 (b2 (vf 0) (vf 4) ixD) (vf 6) ixD) (consA (b2 (b2 (vf 1) (vf 6) ixD) (vf 5) ixD) nilA)) g__law_plus))) nilA) g__law_latest))))))))
  (rtV 3))))
noncomputable def g__law_product : List D → R S := bodyR ["first", "second", "size", "found", "i", "j", "k"] 2 T__law_product
theorem b__law_product (d0 d1 : D) : g__law_product [d0, d1] = endR (T__law_product [some (.v (.fr d0)), some (.v (.fr d1)), none, none, none, none, none]) := rfl
theorem c__law_product {P : Program} {w : World} {K : PySem.W.Frag} {mg : Str → Option Value} {base : Heap} (G : Gl K mg) (d : Fd K mg "_law_product" s__law_product ["first", "second"]) (h__law_latest : Cal P w K mg base 2 "_law_latest" ["moments"] g__law_latest) (h__law_plus : Cal P w K mg base 3 "_law_plus" ["first", "second"] g__law_plus) : Cal P w K mg base 4 "_law_product" ["first", "second"] g__law_product :=
  cal_mk d sc__law_product fun f0 cdv A outer s H E cx =>
  (dss_cons (ds_set 2 cx.nd (de_callB bi_len (by exact rfl) G.b_len PySem.boot_len (da_cons (m := .h) (de_up (de_var 0)) da_nil)))
  (dss_cons (ds_setO 3 cx.nd (do_lst da_nil))
  (dss_cons (ds_forget [4] (ds_for cx (di_rng1 (st := true) (by exact rfl) G.b_range (da_cons (m := .h) (de_up (de_var 2)) da_nil)) (dg_name 4 cx.nd)
  (dss_fin [4] (dss_one (ds_append 3 (do_f (de_o (do_comp cx (di_rng1 (st := false) (by exact rfl) G.b_range (da_cons (m := .h) (de_up (de_var 2)) da_nil)) (blkOk_by (own := [(("j" : Str), 5)]) (by kernel_rfl)) (fun _ _ _ _ _ => (dg_name 5 cx.nd)) (fun _ _ _ _ _ => dts_nil) (fun s1 H1 C1 cl1 fp1 => (do_cal h__law_latest (cx.blk s1 H1 _ _ fp1) (by decide) (da_cons (m := .f) (de_o (do_comp (cx.blk s1 H1 _ _ fp1) (di_rng1 (st := false) (by exact rfl) G.b_range (da_cons (m := .h) (de_up (de_var 2)) da_nil)) (blkOk_by (own := [(("k" : Str), 6)]) (by kernel_rfl)) (fun _ _ _ _ _ => (dg_name 6 cx.nd)) (fun _ _ _ _ _ => dts_nil) (fun s2 H2 C2 cl2 fp2 => (do_cal h__law_plus ((cx.blk s1 H1 _ _ fp1).blk s2 H2 _ _ fp2) (by decide) (da_cons (m := .f) (de_ix (de_up (de_ix (de_up (de_var 0)) (de_up (de_var 4)))) (de_up (de_var 6))) (da_cons (m := .f) (de_ix (de_up (de_ix (de_up (de_var 1)) (de_up (de_var 6)))) (de_up (de_var 5))) da_nil)) rfl (consA_len (consA_len nilA_len)))))) da_nil) rfl (consA_len nilA_len)))))))))))
  (dss_one (ds_retV 3)))))
/-! _check_same_size -/
abbrev s__check_same_size : Stmt := topS 17
theorem sc__check_same_size : FnScope ["first", "second"] ["first", "second"] (defScope s__check_same_size) := ⟨rfl, rfl, rfl, by decide +kernel, rfl, by decide +kernel, by decide +kernel⟩
noncomputable def T__check_same_size : En → SR :=
  (ifS (t2 (cal (consA (vf 0) nilA) (one lenD)) (cal (consA (vf 1) nilA) (one lenD)) neD)
  (erS ("OutOfRange" : Str))
  nxS)
noncomputable def g__check_same_size : List D → R S := bodyR ["first", "second"] 2 T__check_same_size
theorem b__check_same_size (d0 d1 : D) : g__check_same_size [d0, d1] = endR (T__check_same_size [some (.v (.fr d0)), some (.v (.fr d1))]) := rfl
theorem c__check_same_size {P : Program} {w : World} {K : PySem.W.Frag} {mg : Str → Option Value} {base : Heap} (G : Gl K mg) (d : Fd K mg "_check_same_size" s__check_same_size ["first", "second"])  : Cal P w K mg base 1 "_check_same_size" ["first", "second"] g__check_same_size :=
  cal_mk d sc__check_same_size fun f0 cdv A outer s H E cx =>
  (dss_one (ds_if (dt_cm (cm_ne (room64 cx.rm)) (de_callB bi_len (by exact rfl) G.b_len PySem.boot_len (da_cons (m := .h) (de_up (de_var 0)) da_nil)) (de_callB bi_len (by exact rfl) G.b_len PySem.boot_len (da_cons (m := .h) (de_up (de_var 1)) da_nil)))
  (dss_one (ds_rs cx G.e_OutOfRange))
  dss_nil))
/-! is_less -/
abbrev s_is_less : Stmt := topS 8
theorem sc_is_less : FnScope ["first", "second"] ["first", "second"] (defScope s_is_less) := ⟨rfl, rfl, rfl, by decide +kernel, rfl, by decide +kernel, by decide +kernel⟩
noncomputable def T_is_less : En → SR :=
  (sqS (ifS (t2 (vf 1) cN isD)
  (rtS (cB false))
  nxS)
  (sqS (ifS (t2 (vf 0) cN isD)
  (rtS (cB true))
  nxS)
  (rtS (b2 (b2 (b2 (vf 0) (cI 0) ixD) (b2 (vf 1) (cI 1) ixD) mulD) (b2 (b2 (vf 1) (cI 0) ixD) (b2 (vf 0) (cI 1) ixD) mulD) ltD))))
noncomputable def g_is_less : List D → R S := bodyR ["first", "second"] 2 T_is_less
theorem b_is_less (d0 d1 : D) : g_is_less [d0, d1] = endR (T_is_less [some (.v (.fr d0)), some (.v (.fr d1))]) := rfl
theorem c_is_less {P : Program} {w : World} {K : PySem.W.Frag} {mg : Str → Option Value} {base : Heap} (G : Gl K mg) (d : Fd K mg "is_less" s_is_less ["first", "second"])  : Cal P w K mg base 1 "is_less" ["first", "second"] g_is_less :=
  cal_mk d sc_is_less fun f0 cdv A outer s H E cx =>
  (dss_cons (ds_if (dt_cm cm_is (de_up (de_var 1)) de_non)
  (dss_one (ds_ret de_bl))
  dss_nil)
  (dss_cons (ds_if (dt_cm cm_is (de_up (de_var 0)) de_non)
  (dss_one (ds_ret de_bl))
  dss_nil)
  (dss_one (ds_ret (de_cm cm_lt (de_mul (de_up (de_ix (de_up (de_var 0)) de_int)) (de_up (de_ix (de_up (de_var 1)) de_int))) (de_mul (de_up (de_ix (de_up (de_var 1)) de_int)) (de_up (de_ix (de_up (de_var 0)) de_int))))))))
/-! later -/
abbrev s_later : Stmt := topS 9
theorem sc_later : FnScope ["first", "second"] ["first", "second"] (defScope s_later) := ⟨rfl, rfl, rfl, by decide +kernel, rfl, by decide +kernel, by decide +kernel⟩
noncomputable def T_later : En → SR :=
  (sqS (ifS (truR (unO (cal (consA (vf 0) (consA (vf 1) nilA)) g_is_less)))
  (rtS (vf 1))
  nxS)
  (rtS (vf 0)))
noncomputable def g_later : List D → R S := bodyR ["first", "second"] 2 T_later
theorem b_later (d0 d1 : D) : g_later [d0, d1] = endR (T_later [some (.v (.fr d0)), some (.v (.fr d1))]) := rfl
theorem c_later {P : Program} {w : World} {K : PySem.W.Frag} {mg : Str → Option Value} {base : Heap} (G : Gl K mg) (d : Fd K mg "later" s_later ["first", "second"]) (h_is_less : Cal P w K mg base 1 "is_less" ["first", "second"] g_is_less) : Cal P w K mg base 2 "later" ["first", "second"] g_later :=
  cal_mk d sc_later fun f0 cdv A outer s H E cx =>
  (dss_cons (ds_if (dt_val (de_up (de_o (do_cal h_is_less cx (by decide) (da_cons (m := .f) (de_var 0) (da_cons (m := .f) (de_var 1) da_nil)) rfl (consA_len (consA_len nilA_len))))))
  (dss_one (ds_ret (de_var 1)))
  dss_nil)
  (dss_one (ds_ret (de_var 0))))
/-! latest -/
abbrev s_latest : Stmt := topS 10
theorem sc_latest : FnScope ["moments", "found", "moment"] ["moments"] (defScope s_latest) := ⟨rfl, rfl, rfl, by decide +kernel, rfl, by decide +kernel, by decide +kernel⟩
noncomputable def T_latest : En → SR :=
  (sqS (asS 1 cN)
  (sqS (fgS [2] (forS (seqR (vf 0)) (setN 2)
  (fnS [2] (asS 1 (unO (cal (consA (vf 1) (consA (vf 2) nilA)) g_later))))))
  (rtS (vf 1))))
noncomputable def g_latest : List D → R S := bodyR ["moments", "found", "moment"] 1 T_latest
theorem b_latest (d0 : D) : g_latest [d0] = endR (T_latest [some (.v (.fr d0)), none, none]) := rfl
theorem c_latest {P : Program} {w : World} {K : PySem.W.Frag} {mg : Str → Option Value} {base : Heap} (G : Gl K mg) (d : Fd K mg "latest" s_latest ["moments"]) (h_later : Cal P w K mg base 2 "later" ["first", "second"] g_later) : Cal P w K mg base 3 "latest" ["moments"] g_latest :=
  cal_mk d sc_latest fun f0 cdv A outer s H E cx =>
  (dss_cons (ds_set 1 cx.nd de_non)
  (dss_cons (ds_forget [2] (ds_for cx (di_seq (de_var 0)) (dg_name 2 cx.nd)
  (dss_fin [2] (dss_one (ds_set 1 cx.nd (de_o (do_cal h_later cx (by decide) (da_cons (m := .f) (de_var 1) (da_cons (m := .f) (de_var 2) da_nil)) rfl (consA_len (consA_len nilA_len)))))))))
  (dss_one (ds_ret (de_var 1)))))
/-! fraction -/
abbrev s_fraction : Stmt := topS 6
theorem sc_fraction : FnScope ["top", "low", "divisor"] ["top", "low"] (defScope s_fraction) := ⟨rfl, rfl, rfl, by decide +kernel, rfl, by decide +kernel, by decide +kernel⟩
noncomputable def T_fraction : En → SR :=
  (sqS (ifS (t2 (vf 1) (cI 0) eqD)
  (erS ("OutOfRange" : Str))
  nxS)
  (sqS (asS 2 (cal (consA (vf 0) (consA (vf 1) nilA)) (two gcdD)))
  (sqS (ifS (t2 (vf 1) (cI 0) ltD)
  (asS 2 (negR (vf 2)))
  nxS)
  (rtS (tupR (consA (b2 (vf 0) (vf 2) fdivD) (consA (b2 (vf 1) (vf 2) fdivD) nilA)))))))
noncomputable def g_fraction : List D → R S := bodyR ["top", "low", "divisor"] 2 T_fraction
theorem b_fraction (d0 d1 : D) : g_fraction [d0, d1] = endR (T_fraction [some (.v (.fr d0)), some (.v (.fr d1)), none]) := rfl
theorem c_fraction {P : Program} {w : World} {K : PySem.W.Frag} {mg : Str → Option Value} {base : Heap} (G : Gl K mg) (d : Fd K mg "fraction" s_fraction ["top", "low"])  : Cal P w K mg base 1 "fraction" ["top", "low"] g_fraction :=
  cal_mk d sc_fraction fun f0 cdv A outer s H E cx =>
  (dss_cons (ds_if (dt_cm (cm_eq (room64 cx.rm)) (de_up (de_var 1)) de_int)
  (dss_one (ds_rs cx G.e_OutOfRange))
  dss_nil)
  (dss_cons (ds_set 2 cx.nd (de_callM bi_gcd (by exact rfl) G.m_gcd (da_cons (m := .h) (de_up (de_var 0)) (da_cons (m := .h) (de_up (de_var 1)) da_nil))))
  (dss_cons (ds_if (dt_cm cm_lt (de_up (de_var 1)) de_int)
  (dss_one (ds_set 2 cx.nd (de_neg (de_up (de_var 2)))))
  dss_nil)
  (dss_one (ds_ret (de_tup (da_cons (m := .f) (de_fdiv (de_up (de_var 0)) (de_up (de_var 2))) (da_cons (m := .f) (de_fdiv (de_up (de_var 1)) (de_up (de_var 2))) da_nil))))))))
/-! plus -/
abbrev s_plus : Stmt := topS 7
theorem sc_plus : FnScope ["first", "second"] ["first", "second"] (defScope s_plus) := ⟨rfl, rfl, rfl, by decide +kernel, rfl, by decide +kernel, by decide +kernel⟩
noncomputable def T_plus : En → SR :=
  (sqS (ifS (orT (t2 (vf 0) cN isD) (t2 (vf 1) cN isD))
  (rtS cN)
  nxS)
  (rtO (cal (consA (b2 (b2 (b2 (vf 0) (cI 0) ixD) (b2 (vf 1) (cI 1) ixD) mulD) (b2 (b2 (vf 1) (cI 0) ixD) (b2 (vf 0) (cI 1) ixD) mulD) addD) (consA (b2 (b2 (vf 0) (cI 1) ixD) (b2 (vf 1) (cI 1) ixD) mulD) nilA)) g_fraction)))
noncomputable def g_plus : List D → R S := bodyR ["first", "second"] 2 T_plus
theorem b_plus (d0 d1 : D) : g_plus [d0, d1] = endR (T_plus [some (.v (.fr d0)), some (.v (.fr d1))]) := rfl
theorem c_plus {P : Program} {w : World} {K : PySem.W.Frag} {mg : Str → Option Value} {base : Heap} (G : Gl K mg) (d : Fd K mg "plus" s_plus ["first", "second"]) (h_fraction : Cal P w K mg base 1 "fraction" ["top", "low"] g_fraction) : Cal P w K mg base 2 "plus" ["first", "second"] g_plus :=
  cal_mk d sc_plus fun f0 cdv A outer s H E cx =>
  (dss_cons (ds_if (dt_w (dw_or (dt_cm cm_is (de_up (de_var 0)) de_non) (dw_or1 (dt_cm cm_is (de_up (de_var 1)) de_non))))
  (dss_one (ds_ret de_non))
  dss_nil)
  (dss_one (ds_retO (do_cal h_fraction cx (by decide) (da_cons (m := .f) (de_add (de_mul (de_up (de_ix (de_up (de_var 0)) de_int)) (de_up (de_ix (de_up (de_var 1)) de_int))) (de_mul (de_up (de_ix (de_up (de_var 1)) de_int)) (de_up (de_ix (de_up (de_var 0)) de_int)))) (da_cons (m := .f) (de_mul (de_up (de_ix (de_up (de_var 0)) de_int)) (de_up (de_ix (de_up (de_var 1)) de_int))) da_nil)) rfl (consA_len (consA_len nilA_len))))))
/-! _latest_sum -/
abbrev s__latest_sum : Stmt := topS 14
theorem sc__latest_sum : FnScope ["firsts", "seconds", "first", "second"] ["firsts", "seconds"] (defScope s__latest_sum) := ⟨rfl, rfl, rfl, by decide +kernel, rfl, by decide +kernel, by decide +kernel⟩
noncomputable def T__latest_sum : En → SR :=
  (rtO (cal (consA (unO (compR [2, 3] (cal (consA (vf 0) (consA (vf 1) nilA)) zip2) (tupG 2 (consG (setN 2) (consG (setN 3) nilG))) yesT (cal (consA (vf 2) (consA (vf 3) nilA)) g_plus))) nilA) g_latest))
noncomputable def g__latest_sum : List D → R S := bodyR ["firsts", "seconds", "first", "second"] 2 T__latest_sum
theorem b__latest_sum (d0 d1 : D) : g__latest_sum [d0, d1] = endR (T__latest_sum [some (.v (.fr d0)), some (.v (.fr d1)), none, none]) := rfl
theorem c__latest_sum {P : Program} {w : World} {K : PySem.W.Frag} {mg : Str → Option Value} {base : Heap} (G : Gl K mg) (d : Fd K mg "_latest_sum" s__latest_sum ["firsts", "seconds"]) (h_latest : Cal P w K mg base 3 "latest" ["moments"] g_latest) (h_plus : Cal P w K mg base 2 "plus" ["first", "second"] g_plus) : Cal P w K mg base 4 "_latest_sum" ["firsts", "seconds"] g__latest_sum :=
  cal_mk d sc__latest_sum fun f0 cdv A outer s H E cx =>
  (dss_one (ds_retO (do_cal h_latest cx (by decide) (da_cons (m := .f) (de_o (do_comp cx (di_zip (by exact rfl) G.b_zip (da_cons (m := .f) (de_var 0) (da_cons (m := .f) (de_var 1) da_nil))) (blkOk_by (own := [(("first" : Str), 2), (("second" : Str), 3)]) (by kernel_rfl)) (fun _ _ _ _ _ => (dg_tup cx.calm (dg_cons (dg_name 2 cx.nd) (dg_cons (dg_name 3 cx.nd) dg_nil)))) (fun _ _ _ _ _ => dts_nil) (fun s1 H1 C1 cl1 fp1 => (do_cal h_plus (cx.blk s1 H1 _ _ fp1) (by decide) (da_cons (m := .f) (de_var 2) (da_cons (m := .f) (de_var 3) da_nil)) rfl (consA_len (consA_len nilA_len)))))) da_nil) rfl (consA_len nilA_len))))
/-! product -/
abbrev s_product : Stmt := topS 15
theorem sc_product : FnScope ["first", "second", "columns", "column", "row"] ["first", "second"] (defScope s_product) := ⟨rfl, rfl, rfl, by decide +kernel, rfl, by decide +kernel, by decide +kernel⟩
noncomputable def T_product : En → SR :=
  (sqS (exS (unO (cal (consA (vf 0) (consA (vf 1) nilA)) g__check_same_size)))
  (sqS (asS 2 (unO (compR [3] (zipSR (vf 1)) (setN 3) yesT (cal (consA (vf 3) nilA) (one listD)))))
  (rtO (compR [4] (seqR (vf 0)) (setN 4) yesT (compR [3] (seqR (vf 2)) (setN 3) yesT (cal (consA (vf 4) (consA (vf 3) nilA)) g__latest_sum))))))
noncomputable def g_product : List D → R S := bodyR ["first", "second", "columns", "column", "row"] 2 T_product
theorem b_product (d0 d1 : D) : g_product [d0, d1] = endR (T_product [some (.v (.fr d0)), some (.v (.fr d1)), none, none, none]) := rfl
theorem c_product {P : Program} {w : World} {K : PySem.W.Frag} {mg : Str → Option Value} {base : Heap} (G : Gl K mg) (d : Fd K mg "product" s_product ["first", "second"]) (h__check_same_size : Cal P w K mg base 1 "_check_same_size" ["first", "second"] g__check_same_size) (h__latest_sum : Cal P w K mg base 4 "_latest_sum" ["firsts", "seconds"] g__latest_sum) : Cal P w K mg base 5 "product" ["first", "second"] g_product :=
  cal_mk d sc_product fun f0 cdv A outer s H E cx =>
  (dss_cons (ds_expr (m := .f) (de_o (do_cal h__check_same_size cx (by decide) (da_cons (m := .f) (de_var 0) (da_cons (m := .f) (de_var 1) da_nil)) rfl (consA_len (consA_len nilA_len)))))
  (dss_cons (ds_set 2 cx.nd (de_o (do_comp cx (di_zipS (by exact rfl) G.b_zip (de_var 1)) (blkOk_by (own := [(("column" : Str), 3)]) (by kernel_rfl)) (fun _ _ _ _ _ => (dg_name 3 cx.nd)) (fun _ _ _ _ _ => dts_nil) (fun s1 H1 C1 cl1 fp1 => (do_callT bo_list rfl G.b_list (by decide +kernel) (da_cons (m := .q) (de_up (de_var 3)) da_nil))))))
  (dss_one (ds_retO (do_comp cx (di_seq (de_var 0)) (blkOk_by (own := [(("row" : Str), 4)]) (by kernel_rfl)) (fun _ _ _ _ _ => (dg_name 4 cx.nd)) (fun _ _ _ _ _ => dts_nil) (fun s2 H2 C2 cl2 fp2 => (do_comp (cx.blk s2 H2 _ _ fp2) (di_seq (de_var 2)) (blkOk_by (own := [(("column" : Str), 3)]) (by kernel_rfl)) (fun _ _ _ _ _ => (dg_name 3 cx.nd)) (fun _ _ _ _ _ => dts_nil) (fun s3 H3 C3 cl3 fp3 => (do_cal h__latest_sum ((cx.blk s2 H2 _ _ fp2).blk s3 H3 _ _ fp3) (by decide) (da_cons (m := .f) (de_var 4) (da_cons (m := .f) (de_var 3) da_nil)) rfl (consA_len (consA_len nilA_len)))))))))))
/-! _check_same_length -/
abbrev s__check_same_length : Stmt := topS 12
theorem sc__check_same_length : FnScope ["first", "second"] ["first", "second"] (defScope s__check_same_length) := ⟨rfl, rfl, rfl, by decide +kernel, rfl, by decide +kernel, by decide +kernel⟩
noncomputable def T__check_same_length : En → SR :=
  (ifS (t2 (cal (consA (vf 0) nilA) (one lenD)) (cal (consA (vf 1) nilA) (one lenD)) neD)
  (erS ("OutOfRange" : Str))
  nxS)
noncomputable def g__check_same_length : List D → R S := bodyR ["first", "second"] 2 T__check_same_length
theorem b__check_same_length (d0 d1 : D) : g__check_same_length [d0, d1] = endR (T__check_same_length [some (.v (.fr d0)), some (.v (.fr d1))]) := rfl
theorem c__check_same_length {P : Program} {w : World} {K : PySem.W.Frag} {mg : Str → Option Value} {base : Heap} (G : Gl K mg) (d : Fd K mg "_check_same_length" s__check_same_length ["first", "second"])  : Cal P w K mg base 1 "_check_same_length" ["first", "second"] g__check_same_length :=
  cal_mk d sc__check_same_length fun f0 cdv A outer s H E cx =>
  (dss_one (ds_if (dt_cm (cm_ne (room64 cx.rm)) (de_callB bi_len (by exact rfl) G.b_len PySem.boot_len (da_cons (m := .h) (de_up (de_var 0)) da_nil)) (de_callB bi_len (by exact rfl) G.b_len PySem.boot_len (da_cons (m := .h) (de_up (de_var 1)) da_nil)))
  (dss_one (ds_rs cx G.e_OutOfRange))
  dss_nil))
/-! later_vector -/
abbrev s_later_vector : Stmt := topS 11
theorem sc_later_vector : FnScope ["first", "second", "one", "other"] ["first", "second"] (defScope s_later_vector) := ⟨rfl, rfl, rfl, by decide +kernel, rfl, by decide +kernel, by decide +kernel⟩
noncomputable def T_later_vector : En → SR :=
  (sqS (exS (unO (cal (consA (vf 0) (consA (vf 1) nilA)) g__check_same_length)))
  (rtO (compR [2, 3] (cal (consA (vf 0) (consA (vf 1) nilA)) zip2) (tupG 2 (consG (setN 2) (consG (setN 3) nilG))) yesT (cal (consA (vf 2) (consA (vf 3) nilA)) g_later))))
noncomputable def g_later_vector : List D → R S := bodyR ["first", "second", "one", "other"] 2 T_later_vector
theorem b_later_vector (d0 d1 : D) : g_later_vector [d0, d1] = endR (T_later_vector [some (.v (.fr d0)), some (.v (.fr d1)), none, none]) := rfl
theorem c_later_vector {P : Program} {w : World} {K : PySem.W.Frag} {mg : Str → Option Value} {base : Heap} (G : Gl K mg) (d : Fd K mg "later_vector" s_later_vector ["first", "second"]) (h__check_same_length : Cal P w K mg base 1 "_check_same_length" ["first", "second"] g__check_same_length) (h_later : Cal P w K mg base 2 "later" ["first", "second"] g_later) : Cal P w K mg base 3 "later_vector" ["first", "second"] g_later_vector :=
  cal_mk d sc_later_vector fun f0 cdv A outer s H E cx =>
  (dss_cons (ds_expr (m := .f) (de_o (do_cal h__check_same_length cx (by decide) (da_cons (m := .f) (de_var 0) (da_cons (m := .f) (de_var 1) da_nil)) rfl (consA_len (consA_len nilA_len)))))
  (dss_one (ds_retO (do_comp cx (di_zip (by exact rfl) G.b_zip (da_cons (m := .f) (de_var 0) (da_cons (m := .f) (de_var 1) da_nil))) (blkOk_by (own := [(("one" : Str), 2), (("other" : Str), 3)]) (by kernel_rfl)) (fun _ _ _ _ _ => (dg_tup cx.calm (dg_cons (dg_name 2 cx.nd) (dg_cons (dg_name 3 cx.nd) dg_nil)))) (fun _ _ _ _ _ => dts_nil) (fun s1 H1 C1 cl1 fp1 => (do_cal h_later (cx.blk s1 H1 _ _ fp1) (by decide) (da_cons (m := .f) (de_var 2) (da_cons (m := .f) (de_var 3) da_nil)) rfl (consA_len (consA_len nilA_len))))))))
/-! later_work -/
abbrev s_later_work : Stmt := topS 16
theorem sc_later_work : FnScope ["first", "second", "one", "other"] ["first", "second"] (defScope s_later_work) := ⟨rfl, rfl, rfl, by decide +kernel, rfl, by decide +kernel, by decide +kernel⟩
noncomputable def T_later_work : En → SR :=
  (sqS (exS (unO (cal (consA (vf 0) (consA (vf 1) nilA)) g__check_same_size)))
  (rtO (compR [2, 3] (cal (consA (vf 0) (consA (vf 1) nilA)) zip2) (tupG 2 (consG (setN 2) (consG (setN 3) nilG))) yesT (cal (consA (vf 2) (consA (vf 3) nilA)) g_later_vector))))
noncomputable def g_later_work : List D → R S := bodyR ["first", "second", "one", "other"] 2 T_later_work
theorem b_later_work (d0 d1 : D) : g_later_work [d0, d1] = endR (T_later_work [some (.v (.fr d0)), some (.v (.fr d1)), none, none]) := rfl
theorem c_later_work {P : Program} {w : World} {K : PySem.W.Frag} {mg : Str → Option Value} {base : Heap} (G : Gl K mg) (d : Fd K mg "later_work" s_later_work ["first", "second"]) (h__check_same_size : Cal P w K mg base 1 "_check_same_size" ["first", "second"] g__check_same_size) (h_later_vector : Cal P w K mg base 3 "later_vector" ["first", "second"] g_later_vector) : Cal P w K mg base 4 "later_work" ["first", "second"] g_later_work :=
  cal_mk d sc_later_work fun f0 cdv A outer s H E cx =>
  (dss_cons (ds_expr (m := .f) (de_o (do_cal h__check_same_size cx (by decide) (da_cons (m := .f) (de_var 0) (da_cons (m := .f) (de_var 1) da_nil)) rfl (consA_len (consA_len nilA_len)))))
  (dss_one (ds_retO (do_comp cx (di_zip (by exact rfl) G.b_zip (da_cons (m := .f) (de_var 0) (da_cons (m := .f) (de_var 1) da_nil))) (blkOk_by (own := [(("one" : Str), 2), (("other" : Str), 3)]) (by kernel_rfl)) (fun _ _ _ _ _ => (dg_tup cx.calm (dg_cons (dg_name 2 cx.nd) (dg_cons (dg_name 3 cx.nd) dg_nil)))) (fun _ _ _ _ _ => dts_nil) (fun s1 H1 C1 cl1 fp1 => (do_cal h_later_vector (cx.blk s1 H1 _ _ fp1) (by decide) (da_cons (m := .f) (de_var 2) (da_cons (m := .f) (de_var 3) da_nil)) rfl (consA_len (consA_len nilA_len))))))))
/-! _idle_moment -/
abbrev s__idle_moment : Stmt := topS 19
theorem sc__idle_moment : FnScope ["i", "j"] ["i", "j"] (defScope s__idle_moment) := ⟨rfl, rfl, rfl, by decide +kernel, rfl, by decide +kernel, by decide +kernel⟩
noncomputable def T__idle_moment : En → SR :=
  (sqS (ifS (t2 (vf 0) (vf 1) eqD)
  (rtS (tupR (consA (cI 0) (consA (cI 1) nilA))))
  nxS)
  (rtS cN))
noncomputable def g__idle_moment : List D → R S := bodyR ["i", "j"] 2 T__idle_moment
theorem b__idle_moment (d0 d1 : D) : g__idle_moment [d0, d1] = endR (T__idle_moment [some (.v (.fr d0)), some (.v (.fr d1))]) := rfl
theorem c__idle_moment {P : Program} {w : World} {K : PySem.W.Frag} {mg : Str → Option Value} {base : Heap} (G : Gl K mg) (d : Fd K mg "_idle_moment" s__idle_moment ["i", "j"])  : Cal P w K mg base 1 "_idle_moment" ["i", "j"] g__idle_moment :=
  cal_mk d sc__idle_moment fun f0 cdv A outer s H E cx =>
  (dss_cons (ds_if (dt_cm (cm_eq (room64 cx.rm)) (de_up (de_var 0)) (de_up (de_var 1)))
  (dss_one (ds_ret (de_tup (da_cons (m := .f) de_int (da_cons (m := .f) de_int da_nil)))))
  dss_nil)
  (dss_one (ds_ret de_non)))
/-! idle -/
abbrev s_idle : Stmt := topS 18
theorem sc_idle : FnScope ["size", "i", "j"] ["size"] (defScope s_idle) := ⟨rfl, rfl, rfl, by decide +kernel, rfl, by decide +kernel, by decide +kernel⟩
noncomputable def T_idle : En → SR :=
  (sqS (ifS (t2 (vf 0) (cI 1) ltD)
  (erS ("OutOfRange" : Str))
  nxS)
  (rtO (compR [1] (cal (consA (vf 0) nilA) rng1) (setN 1) yesT (compR [2] (cal (consA (vf 0) nilA) rng1) (setN 2) yesT (cal (consA (vf 1) (consA (vf 2) nilA)) g__idle_moment)))))
noncomputable def g_idle : List D → R S := bodyR ["size", "i", "j"] 1 T_idle
theorem b_idle (d0 : D) : g_idle [d0] = endR (T_idle [some (.v (.fr d0)), none, none]) := rfl
theorem c_idle {P : Program} {w : World} {K : PySem.W.Frag} {mg : Str → Option Value} {base : Heap} (G : Gl K mg) (d : Fd K mg "idle" s_idle ["size"]) (h__idle_moment : Cal P w K mg base 1 "_idle_moment" ["i", "j"] g__idle_moment) : Cal P w K mg base 2 "idle" ["size"] g_idle :=
  cal_mk d sc_idle fun f0 cdv A outer s H E cx =>
  (dss_cons (ds_if (dt_cm cm_lt (de_up (de_var 0)) de_int)
  (dss_one (ds_rs cx G.e_OutOfRange))
  dss_nil)
  (dss_one (ds_retO (do_comp cx (di_rng1 (st := false) (by exact rfl) G.b_range (da_cons (m := .h) (de_up (de_var 0)) da_nil)) (blkOk_by (own := [(("i" : Str), 1)]) (by kernel_rfl)) (fun _ _ _ _ _ => (dg_name 1 cx.nd)) (fun _ _ _ _ _ => dts_nil) (fun s1 H1 C1 cl1 fp1 => (do_comp (cx.blk s1 H1 _ _ fp1) (di_rng1 (st := false) (by exact rfl) G.b_range (da_cons (m := .h) (de_up (de_var 0)) da_nil)) (blkOk_by (own := [(("j" : Str), 2)]) (by kernel_rfl)) (fun _ _ _ _ _ => (dg_name 2 cx.nd)) (fun _ _ _ _ _ => dts_nil) (fun s2 H2 C2 cl2 fp2 => (do_cal h__idle_moment ((cx.blk s1 H1 _ _ fp1).blk s2 H2 _ _ fp2) (by decide) (da_cons (m := .f) (de_var 1) (da_cons (m := .f) (de_var 2) da_nil)) rfl (consA_len (consA_len nilA_len))))))))))
/-! power -/
abbrev s_power : Stmt := topS 20
theorem sc_power : FnScope ["work", "exponent", "reached", "factor", "left"] ["work", "exponent"] (defScope s_power) := ⟨rfl, rfl, rfl, by decide +kernel, rfl, by decide +kernel, by decide +kernel⟩
noncomputable def T_power : En → SR :=
  (sqS (ifS (t2 (vf 1) (cI 0) ltD)
  (erS ("OutOfRange" : Str))
  nxS)
  (sqS (asO 2 (cal (consA (cal (consA (vf 0) nilA) (one lenD)) nilA) g_idle))
  (sqS (asS 3 (vf 0))
  (sqS (asS 4 (vf 1))
  (sqS (fgS [] (whileS fuel0 (t2 (vf 4) (cI 0) gtD)
  (fnS [] (sqS (ifS (t2 (b2 (vf 4) (cI 1) andD) (cI 1) eqD)
  (fzS 2 (asO 2 (cal (consA (vf 2) (consA (vf 3) nilA)) g_product)))
  nxS)
  (sqS (asS 4 (b2 (vf 4) (cI 1) shrD))
  (ifS (t2 (vf 4) (cI 0) gtD)
  (asS 3 (unO (cal (consA (vf 3) (consA (vf 3) nilA)) g_product)))
  nxS))))))
  (rtV 2))))))
noncomputable def g_power : List D → R S := bodyR ["work", "exponent", "reached", "factor", "left"] 2 T_power
theorem b_power (d0 d1 : D) : g_power [d0, d1] = endR (T_power [some (.v (.fr d0)), some (.v (.fr d1)), none, none, none]) := rfl
theorem c_power {P : Program} {w : World} {K : PySem.W.Frag} {mg : Str → Option Value} {base : Heap} (G : Gl K mg) (d : Fd K mg "power" s_power ["work", "exponent"]) (h_idle : Cal P w K mg base 2 "idle" ["size"] g_idle) (h_product : Cal P w K mg base 5 "product" ["first", "second"] g_product) : Cal P w K mg base 6 "power" ["work", "exponent"] g_power :=
  cal_mk d sc_power fun f0 cdv A outer s H E cx =>
  (dss_cons (ds_if (dt_cm cm_lt (de_up (de_var 1)) de_int)
  (dss_one (ds_rs cx G.e_OutOfRange))
  dss_nil)
  (dss_cons (ds_setO 2 cx.nd (do_cal h_idle cx (by decide) (da_cons (m := .f) (de_callB bi_len (by exact rfl) G.b_len PySem.boot_len (da_cons (m := .h) (de_up (de_var 0)) da_nil)) da_nil) rfl (consA_len nilA_len)))
  (dss_cons (ds_set 3 cx.nd (de_var 0))
  (dss_cons (ds_set 4 cx.nd (de_var 1))
  (dss_cons (ds_forget [] (ds_while fuel0 cx (dt_cm cm_gt (de_up (de_var 4)) de_int)
  (dss_fin [] (dss_cons (ds_if (dt_cm (cm_eq (room64 cx.rm)) (de_band (de_up (de_var 4)) de_int) de_int)
  (dss_one (ds_share 2 (ds_setO 2 cx.nd (do_cal h_product cx (by decide) (da_cons (m := .f) (de_var 2) (da_cons (m := .f) (de_var 3) da_nil)) rfl (consA_len (consA_len nilA_len))))))
  dss_nil)
  (dss_cons (ds_set 4 cx.nd (de_shr (de_up (de_var 4)) de_int))
  (dss_one (ds_if (dt_cm cm_gt (de_up (de_var 4)) de_int)
  (dss_one (ds_set 3 cx.nd (de_o (do_cal h_product cx (by decide) (da_cons (m := .f) (de_var 3) (da_cons (m := .f) (de_var 3) da_nil)) rfl (consA_len (consA_len nilA_len))))))
  dss_nil)))))))
  (dss_one (ds_retV 2)))))))
/-! _law_refused -/
abbrev s__law_refused : Stmt := topS 39
theorem sc__law_refused : FnScope ["way", "first", "second", "e"] ["way", "first", "second"] (defScope s__law_refused) := ⟨rfl, rfl, rfl, by decide +kernel, rfl, by decide +kernel, by decide +kernel⟩
noncomputable def T__law_refused : En → SR :=
  (sqS (tryS 3 sel_OutOfRange (sqS (ifS (t2 (vf 0) (cI 0) eqD)
  (exS (unO (cal (consA (vf 1) (consA (vf 2) nilA)) g_product)))
  nxS)
  (sqS (ifS (t2 (vf 0) (cI 1) eqD)
  (exS (unO (cal (consA (vf 1) (consA (vf 2) nilA)) g_later_work)))
  nxS)
  (sqS (ifS (t2 (vf 0) (cI 2) eqD)
  (exS (unO (cal (consA (vf 2) nilA) g_idle)))
  nxS)
  (ifS (t2 (vf 0) (cI 3) eqD)
  (exS (unO (cal (consA (vf 1) (consA (vf 2) nilA)) g_power)))
  nxS)))) (fun c a env => if c = ("OutOfRange" : Str) then (rtS (andV (isiS 3 a true) (andV (isiS 3 a true) (notV (isiS 3 a false))))) env else .no))
  (rtS (cB false)))
noncomputable def g__law_refused : List D → R S := bodyR ["way", "first", "second", "e"] 3 T__law_refused
theorem b__law_refused (d0 d1 d2 : D) : g__law_refused [d0, d1, d2] = endR (T__law_refused [some (.v (.fr d0)), some (.v (.fr d1)), some (.v (.fr d2)), none]) := rfl
theorem c__law_refused {P : Program} {w : World} {K : PySem.W.Frag} {mg : Str → Option Value} {base : Heap} (G : Gl K mg) (d : Fd K mg "_law_refused" s__law_refused ["way", "first", "second"]) (h_product : Cal P w K mg base 5 "product" ["first", "second"] g_product) (h_later_work : Cal P w K mg base 4 "later_work" ["first", "second"] g_later_work) (h_idle : Cal P w K mg base 2 "idle" ["size"] g_idle) (h_power : Cal P w K mg base 6 "power" ["work", "exponent"] g_power) : Cal P w K mg base 7 "_law_refused" ["way", "first", "second"] g__law_refused :=
  cal_mk d sc__law_refused fun f0 cdv A outer s H E cx =>
  (dss_cons (ds_tryS 3 cx (cl_OutOfRange G (names_own G.e_OutOfRange)) (fun W2 pn xe cx1 => (dss_cons (ds_if (dt_cm (cm_eq (room64 cx1.rm)) (de_up (de_var 0)) de_int)
  (dss_one (ds_expr (m := .f) (de_o (do_cal h_product cx1 (by decide) (da_cons (m := .f) (de_var 1) (da_cons (m := .f) (de_var 2) da_nil)) rfl (consA_len (consA_len nilA_len))))))
  dss_nil)
  (dss_cons (ds_if (dt_cm (cm_eq (room64 cx1.rm)) (de_up (de_var 0)) de_int)
  (dss_one (ds_expr (m := .f) (de_o (do_cal h_later_work cx1 (by decide) (da_cons (m := .f) (de_var 1) (da_cons (m := .f) (de_var 2) da_nil)) rfl (consA_len (consA_len nilA_len))))))
  dss_nil)
  (dss_cons (ds_if (dt_cm (cm_eq (room64 cx1.rm)) (de_up (de_var 0)) de_int)
  (dss_one (ds_expr (m := .f) (de_o (do_cal h_idle cx1 (by decide) (da_cons (m := .f) (de_var 2) da_nil) rfl (consA_len nilA_len)))))
  dss_nil)
  (dss_one (ds_if (dt_cm (cm_eq (room64 cx1.rm)) (de_up (de_var 0)) de_int)
  (dss_one (ds_expr (m := .f) (de_o (do_cal h_power cx1 (by decide) (da_cons (m := .f) (de_var 1) (da_cons (m := .f) (de_var 2) da_nil)) rfl (consA_len (consA_len nilA_len))))))
  dss_nil)))))) (fun c a oe pn hsel hz hf => by
    rcases sel_OutOfRange_of hsel with rfl
    · exact dss_eq ((dss_one (ds_ret (de_and (de_isO 3 G.e_OutOfRange hz hf (by rfl) (by first | exact Or.inl rfl | exact Or.inr (Or.inl rfl)) (by decide) (by decide) (kit_own G.e_LateError G.s_OutOfRange_LateError G.s_LateError_LateError) (names_own G.e_LateError) G.e_LateError (by rfl) G.b_isinstance (by rfl) (by rfl) (by rfl)) (de_and (de_isB 3 G.e_OutOfRange hz hf (by rfl) (by first | exact Or.inl rfl | exact Or.inr (Or.inl rfl)) (by decide) (by decide) (G.s_OutOfRange_ValueError) G.b_ValueError (by decide +kernel) (by rfl) G.b_isinstance (by rfl) (by rfl) (by rfl)) (de_one (de_not (de_isO 3 G.e_OutOfRange hz hf (by rfl) (by first | exact Or.inl rfl | exact Or.inr (Or.inl rfl)) (by decide) (by decide) (kit_own G.e_BadWork G.s_OutOfRange_BadWork G.s_BadWork_BadWork) (names_own G.e_BadWork) G.e_BadWork (by rfl) G.b_isinstance (by rfl) (by rfl) (by rfl))))))))) (fun env => (if_pos rfl).symm)
    ))
  (dss_one (ds_ret de_bl)))
/-! _law_new -/
abbrev s__law_new : Stmt := topS 40
theorem sc__law_new : FnScope ["actual", "due", "k"] ["actual", "due"] (defScope s__law_new) := ⟨rfl, rfl, rfl, by decide +kernel, rfl, by decide +kernel, by decide +kernel⟩
noncomputable def T__law_new : En → SR :=
  (sqS (ifS (orT (notT (truR (isiR "list" (vh 0)))) (orT (t2 (vh 0) (vf 1) neD) (t2 (cal (consA (vh 0) nilA) (one reprD)) (cal (consA (vf 1) nilA) (one reprD)) neD)))
  (rtS (cB false))
  nxS)
  (sqS (fgS [] (forS (cal (consA (cal (consA (vh 0) nilA) (one lenD)) nilA) rng1) (setN 2)
  (fnS [] (apP 0 (rfX 0 (rfV 0) (vf 2)) (frR (vf 2))))))
  (rtS (b2 (vh 0) (unO (compR [2] (cal (consA (cal (consA (vf 1) nilA) (one lenD)) nilA) rng1) (setN 2) yesT (frR (b2 (b2 (vf 1) (vf 2) ixD) (unO (lstR (consA (vf 2) nilA))) addD)))) eqD))))
noncomputable def g__law_new : S → List D → R S := bodyO ["actual", "due", "k"] 2 T__law_new
theorem b__law_new (s0 : S) (d1 : D) : g__law_new s0 [d1] = endR (T__law_new [some (.v s0), some (.v (.fr d1)), none]) := rfl
theorem c__law_new {P : Program} {w : World} {K : PySem.W.Frag} {mg : Str → Option Value} {base : Heap} (G : Gl K mg) (d : Fd K mg "_law_new" s__law_new ["actual", "due"])  : CalO P w K mg base 1 "_law_new" ["actual", "due"] g__law_new :=
  calO_mk d sc__law_new rfl fun f0 cdv A outer s H E cx =>
  (dss_cons (ds_if (dt_w (dw_or (dt_not (dt_val (de_isi (Ts := "list") (de_varh 0) (hm := G.b_isinstance) (hm2 := G.b_list) (hb := by decide +kernel)))) (dw_or (dt_cm (cm_ne (room64 cx.rm)) (de_varh 0) (de_up (de_var 1))) (dw_or1 (dt_cm (cm_ne (room64 cx.rm)) (de_callB (bi_repr cx) (by exact rfl) G.b_repr PyProof.Rows.boot_repr (da_cons (m := .h) (de_varh 0) da_nil)) (de_callB (bi_repr cx) (by exact rfl) G.b_repr PyProof.Rows.boot_repr (da_cons (m := .h) (de_up (de_var 1)) da_nil)))))))
  (dss_one (ds_ret de_bl))
  dss_nil)
  (dss_cons (ds_forget [] (ds_for cx (di_rng1 (st := true) (by exact rfl) G.b_range (da_cons (m := .h) (de_callB bi_len (by exact rfl) G.b_len PySem.boot_len (da_cons (m := .h) (de_varh 0) da_nil)) da_nil)) (dg_name 2 cx.nd)
  (dss_fin [] (dss_one (ds_appendP (dr_ix (dr_var 0) (de_up (de_var 2))) (do_f (de_var 2)))))))
  (dss_one (ds_ret (de_cm (cm_eq (room64 cx.rm)) (de_varh 0) (de_up (de_o (do_comp cx (di_rng1 (st := false) (by exact rfl) G.b_range (da_cons (m := .h) (de_callB bi_len (by exact rfl) G.b_len PySem.boot_len (da_cons (m := .h) (de_up (de_var 1)) da_nil)) da_nil)) (blkOk_by (own := [(("k" : Str), 2)]) (by kernel_rfl)) (fun _ _ _ _ _ => (dg_name 2 cx.nd)) (fun _ _ _ _ _ => dts_nil) (fun s1 H1 C1 cl1 fp1 => (do_f (de_add (de_up (de_ix (de_up (de_var 1)) (de_up (de_var 2)))) (de_up (de_o (do_lst (da_cons (m := .f) (de_var 2) da_nil)))))))))))))))
/-! law -/
abbrev s_law : Stmt := topS 41
theorem sc_law : FnScope ["script", "first", "size", "second", "i", "kept", "due", "exponent", "k", "pairs", "one", "two", "same", "far", "large", "more", "other", "way", "wide", "pair", "j"] ["script"] (defScope s_law) := ⟨rfl, rfl, rfl, by decide +kernel, rfl, by decide +kernel, by decide +kernel⟩
noncomputable def T_law : En → SR :=
  (sqS (asS 1 (unO (cal (consA (unO (cal (consA (vf 0) (consA (cI 0) nilA)) g__law_cell)) (consA (unO (slR (vf 0) (someO (cI 2)) (someO (cI 27)) slcD)) (consA (cI 5) nilA))) g__law_work)))
  (sqS (asS 2 (cal (consA (vf 1) nilA) (one lenD)))
  (sqS (asO 3 (lstR nilA))
  (sqS (fgS [] (forS (cal (consA (vf 2) nilA) rng1) (setN 4)
  (fnS [] (apS 3 (frR (unO (compR [20] (cal (consA (vf 2) nilA) rng1) (setN 20) yesT (cal (consA (b2 (unO (cal (consA (vf 0) (consA (b2 (b2 (cI 27) (b2 (vf 4) (vf 2) mulD) addD) (vf 20) addD) nilA)) g__law_cell)) (b2 (cI 13) (vf 20) mulD) addD) (consA (b2 (cal (consA (unO (cal (consA (vf 0) (consA (cI 1) nilA)) g__law_cell)) nilA) (one intD)) (cI 9) modD) nilA)) g__law_small))))))))
  (sqS (fzS 3 (asS 5 (cal (consA (unO (lstR (consA (vf 1) (consA (vf 3) nilA)))) nilA) (one reprD))))
  (sqS (ifS (lnT 3 (orT (notT (truR (unO (calO (cal (consA (vf 1) (consA (vf 3) nilA)) g_product) (consA (unO (cal (consA (vf 1) (consA (vf 3) nilA)) g__law_product)) nilA) g__law_new)))) (notT (truR (unO (calO (cal (consA (vf 1) (consA (vf 1) nilA)) g_product) (consA (unO (cal (consA (vf 1) (consA (vf 1) nilA)) g__law_product)) nilA) g__law_new))))))
  (rtS (cB false))
  nxS)
  (sqS (asS 6 (unO (compR [4] (cal (consA (vf 2) nilA) rng1) (setN 4) yesT (frR (unO (compR [20] (cal (consA (vf 2) nilA) rng1) (setN 20) yesT (cal (consA (unO (lstR (consA (b2 (b2 (vf 1) (vf 4) ixD) (vf 20) ixD) (consA (b2 (b2 (vq 3) (vf 4) ixD) (vf 20) ixD) nilA)))) nilA) g__law_latest)))))))
  (sqS (ifS (lnT 3 (orT (notT (truR (unO (calO (cal (consA (vf 1) (consA (vf 3) nilA)) g_later_work) (consA (vf 6) nilA) g__law_new)))) (notT (truR (unO (calO (cal (consA (vf 1) (consA (vf 1) nilA)) g_later_work) (consA (vf 1) nilA) g__law_new))))))
  (rtS (cB false))
  nxS)
  (sqS (asS 6 (unO (cal (consA (vf 2) nilA) g__law_idle)))
  (sqS (asS 7 (b2 (b2 (cal (consA (unO (cal (consA (vf 0) (consA (cI 1) nilA)) g__law_cell)) nilA) (one intD)) (cI 9) fdivD) (cI 10) modD))
  (sqS (ifS (orT (notT (truR (unO (calO (cal (consA (vf 2) nilA) g_idle) (consA (vf 6) nilA) g__law_new)))) (orT (notT (truR (unO (calO (cal (consA (vf 1) (consA (cI 0) nilA)) g_power) (consA (vf 6) nilA) g__law_new)))) (notT (truR (unO (calO (cal (consA (vf 1) (consA (cI 1) nilA)) g_power) (consA (vf 1) nilA) g__law_new))))))
  (rtS (cB false))
  nxS)
  (sqS (fgS [8] (forS (cal (consA (vf 7) nilA) rng1) (setN 8)
  (fnS [8] (asS 6 (unO (cal (consA (vf 6) (consA (vf 1) nilA)) g__law_product))))))
  (sqS (ifS (lnT 3 (orT (notT (truR (unO (calO (cal (consA (vf 1) (consA (vf 7) nilA)) g_power) (consA (vf 6) nilA) g__law_new)))) (t2 (cal (consA (unO (lstR (consA (vf 1) (consA (vf 3) nilA)))) nilA) (one reprD)) (vf 5) neD)))
  (rtS (cB false))
  nxS)
  (sqS (fzS 3 (asO 9 (lstO (consO (tupO (consO (cal (consA (vf 1) (consA (vf 3) nilA)) g_product) (consO (cal (consA (vf 1) (consA (vf 3) nilA)) g_product) nilO))) (consO (tupO (consO (cal (consA (vf 1) (consA (vf 3) nilA)) g_later_work) (consO (cal (consA (vf 1) (consA (vf 3) nilA)) g_later_work) nilO))) nilO)))))
  (sqS (fgS [10, 11, 12] (forMv 9 10 11 (lstO (consO (tupO (consO (cal (consA (vf 2) nilA) g_idle) (consO (cal (consA (vf 2) nilA) g_idle) nilO))) (consO (tupO (consO (cal (consA (vf 1) (consA (vf 7) nilA)) g_power) (consO (cal (consA (vf 1) (consA (vf 7) nilA)) g_power) nilO))) nilO)))
  (fnS [10, 11, 12] (sqS (asS 12 (cal (consA (vh 11) nilA) (one reprD)))
  (sqS (apP 10 (rfX 10 (rfV 10) (cI 0)) (frR cN))
  (sqS (apS 10 (frR cN))
  (ifS (lnT 11 (t2 (cal (consA (vf 11) nilA) (one reprD)) (vf 12) neD))
  (rtS (cB false))
  nxS)))))))
  (sqS (asS 13 (b2 (cal (consA (unO (cal (consA (vf 0) (consA (cI 1) nilA)) g__law_cell)) nilA) (one intD)) (cI 1000) modD))
  (sqS (asS 14 (unO (cal (consA (b2 (vf 2) (cI 1) addD) nilA) g__law_idle)))
  (sqS (asS 15 (unO (cal (consA (b2 (b2 (vf 2) (cI 2) addD) (b2 (cal (consA (vf 13) nilA) (one intD)) (cI 4) modD) addD) nilA) g__law_idle)))
  (sqS (fgS [16, 17] (forS (seqR (unO (lstR (consA (vf 14) (consA (vf 15) nilA))))) (setN 16)
  (fnS [16, 17] (fgS [17] (forS (cal (consA (cI 2) nilA) rng1) (setN 17)
  (fnS [17] (ifS (orT (notT (truR (unO (cal (consA (vf 17) (consA (vf 16) (consA (vf 1) nilA))) g__law_refused)))) (notT (truR (unO (cal (consA (vf 17) (consA (vf 1) (consA (vf 16) nilA))) g__law_refused)))))
  (rtS (cB false))
  nxS)))))))
  (sqS (ifS (t2 (b2 (cal (consA (vf 13) nilA) (one intD)) (cI 4) modD) (cI 1) eqD)
  (sqS (asS 18 (unO (compR [4] (cal (consA (b2 (cI 6) (vf 2) addD) nilA) rng1) (setN 4) yesT (frR (unO (compR [20] (cal (consA (b2 (cI 6) (vf 2) addD) nilA) rng1) (setN 20) yesT (cal (consA (b2 (b2 (cal (consA (unO (cal (consA (vf 0) (consA (cI 2) nilA)) g__law_cell)) nilA) (one intD)) (b2 (cI 37) (vf 4) mulD) addD) (b2 (cI 101) (vf 20) mulD) addD) (consA (cI 6) nilA)) g__law_small)))))))
  (ifS (orT (t2 (unO (cal (consA (vf 18) (consA (vf 18) nilA)) g_product)) (unO (cal (consA (vf 18) (consA (vf 18) nilA)) g__law_product)) neD) (t2 (unO (cal (consA (vf 18) (consA (unO (cal (consA (b2 (cI 6) (vf 2) addD) nilA) g__law_idle)) nilA)) g_product)) (vf 18) neD))
  (rtS (cB false))
  nxS))
  nxS)
  (sqS (fgS [19] (forS (seqR (unO (lstR (consA (tupR (consA (cI 0) (consA (vf 14) nilA))) (consA (tupR (consA (cI 1) (consA (vf 14) nilA))) (consA (tupR (consA (cI 2) (consA (negR (vf 13)) nilA))) (consA (tupR (consA (cI 3) (consA (b2 (negR (cI 1)) (vf 13) subD) nilA))) nilA))))))) (setN 19)
  (fnS [19] (ifS (notT (truR (unO (cal (consA (b2 (vf 19) (cI 0) ixD) (consA (vf 1) (consA (b2 (vf 19) (cI 1) ixD) nilA))) g__law_refused))))
  (rtS (cB false))
  nxS))))
  (fzS 3 (rtS (andV (unO (cal (consA (cI 0) (consA (vf 14) (consA (vf 1) nilA))) g__law_refused)) (andV (b2 (unO (cal (consA (cI 12) nilA) g_idle)) (unO (cal (consA (cI 12) nilA) g__law_idle)) eqD) (andV (b2 (unO (cal (consA (b2 (cI 13) (b2 (cal (consA (vf 13) nilA) (one intD)) (cI 9) modD) addD) nilA) g_idle)) (unO (cal (consA (b2 (cI 13) (b2 (cal (consA (vf 13) nilA) (one intD)) (cI 9) modD) addD) nilA) g__law_idle)) eqD) (b2 (cal (consA (unO (lstR (consA (vf 1) (consA (vf 3) nilA)))) nilA) (one reprD)) (vf 5) eqD)))))))))))))))))))))))))))
noncomputable def g_law : List D → R S := bodyR ["script", "first", "size", "second", "i", "kept", "due", "exponent", "k", "pairs", "one", "two", "same", "far", "large", "more", "other", "way", "wide", "pair", "j"] 1 T_law
theorem b_law (d0 : D) : g_law [d0] = endR (T_law [some (.v (.fr d0)), none, none, none, none, none, none, none, none, none, none, none, none, none, none, none, none, none, none, none, none]) := rfl
theorem c_law {P : Program} {w : World} {K : PySem.W.Frag} {mg : Str → Option Value} {base : Heap} (G : Gl K mg) (d : Fd K mg "law" s_law ["script"]) (h__law_work : Cal P w K mg base 4 "_law_work" ["cell", "cells", "most"] g__law_work) (h__law_idle : Cal P w K mg base 1 "_law_idle" ["size"] g__law_idle) (h__law_cell : Cal P w K mg base 1 "_law_cell" ["script", "k"] g__law_cell) (h__law_product : Cal P w K mg base 4 "_law_product" ["first", "second"] g__law_product) (h__law_refused : Cal P w K mg base 7 "_law_refused" ["way", "first", "second"] g__law_refused) (h__law_new : CalO P w K mg base 1 "_law_new" ["actual", "due"] g__law_new) (h__law_latest : Cal P w K mg base 2 "_law_latest" ["moments"] g__law_latest) (h_product : Cal P w K mg base 5 "product" ["first", "second"] g_product) (h_later_work : Cal P w K mg base 4 "later_work" ["first", "second"] g_later_work) (h_idle : Cal P w K mg base 2 "idle" ["size"] g_idle) (h__law_small : Cal P w K mg base 3 "_law_small" ["cell", "often"] g__law_small) (h_power : Cal P w K mg base 6 "power" ["work", "exponent"] g_power) : Cal P w K mg base 8 "law" ["script"] g_law :=
  cal_mk d sc_law fun f0 cdv A outer s H E cx =>
  (dss_cons (ds_set 1 cx.nd (de_o (do_cal h__law_work cx (by decide) (da_cons (m := .f) (de_o (do_cal h__law_cell cx (by decide) (da_cons (m := .f) (de_var 0) (da_cons (m := .f) de_int da_nil)) rfl (consA_len (consA_len nilA_len)))) (da_cons (m := .f) (de_o (do_slice (de_up (de_var 0)) (.some de_int) (.some de_int))) (da_cons (m := .f) de_int da_nil))) rfl (consA_len (consA_len (consA_len nilA_len))))))
  (dss_cons (ds_set 2 cx.nd (de_callB bi_len (by exact rfl) G.b_len PySem.boot_len (da_cons (m := .h) (de_up (de_var 1)) da_nil)))
  (dss_cons (ds_setO 3 cx.nd (do_lst da_nil))
  (dss_cons (ds_forget [] (ds_for cx (di_rng1 (st := true) (by exact rfl) G.b_range (da_cons (m := .h) (de_up (de_var 2)) da_nil)) (dg_name 4 cx.nd)
  (dss_fin [] (dss_one (ds_append 3 (do_f (de_o (do_comp cx (di_rng1 (st := false) (by exact rfl) G.b_range (da_cons (m := .h) (de_up (de_var 2)) da_nil)) (blkOk_by (own := [(("j" : Str), 20)]) (by kernel_rfl)) (fun _ _ _ _ _ => (dg_name 20 cx.nd)) (fun _ _ _ _ _ => dts_nil) (fun s1 H1 C1 cl1 fp1 => (do_cal h__law_small (cx.blk s1 H1 _ _ fp1) (by decide) (da_cons (m := .f) (de_add (de_up (de_o (do_cal h__law_cell (cx.blk s1 H1 _ _ fp1) (by decide) (da_cons (m := .f) (de_var 0) (da_cons (m := .f) (de_add (de_up (de_add de_int (de_mul (de_up (de_var 4)) (de_up (de_var 2))))) (de_up (de_var 20))) da_nil)) rfl (consA_len (consA_len nilA_len))))) (de_mul de_int (de_up (de_var 20)))) (da_cons (m := .f) (de_mod (de_callT bi_int (by exact rfl) G.b_int PyProof.Rows.boot_int (da_cons (m := .h) (de_up (de_o (do_cal h__law_cell (cx.blk s1 H1 _ _ fp1) (by decide) (da_cons (m := .f) (de_var 0) (da_cons (m := .f) de_int da_nil)) rfl (consA_len (consA_len nilA_len))))) da_nil)) de_int) da_nil)) rfl (consA_len (consA_len nilA_len))))))))))))
  (dss_cons (ds_share 3 (ds_set 5 cx.nd (de_callB (bi_repr cx) (by exact rfl) G.b_repr PyProof.Rows.boot_repr (da_cons (m := .h) (de_up (de_o (do_lst (da_cons (m := .f) (de_var 1) (da_cons (m := .f) (de_var 3) da_nil))))) da_nil))))
  (dss_cons (ds_if (dt_lend 3 (dt_w (dw_or (dt_not (dt_val (de_up (de_o (do_calO h__law_new cx (by decide) (do_cal h_product cx (by decide) (da_cons (m := .f) (de_var 1) (da_cons (m := .f) (de_var 3) da_nil)) rfl (consA_len (consA_len nilA_len))) (da_cons (m := .f) (de_o (do_cal h__law_product cx (by decide) (da_cons (m := .f) (de_var 1) (da_cons (m := .f) (de_var 3) da_nil)) rfl (consA_len (consA_len nilA_len)))) da_nil) rfl (fun ds env e => congrArg (· + 1) ((consA_len nilA_len) ds env e))))))) (dw_or1 (dt_not (dt_val (de_up (de_o (do_calO h__law_new cx (by decide) (do_cal h_product cx (by decide) (da_cons (m := .f) (de_var 1) (da_cons (m := .f) (de_var 1) da_nil)) rfl (consA_len (consA_len nilA_len))) (da_cons (m := .f) (de_o (do_cal h__law_product cx (by decide) (da_cons (m := .f) (de_var 1) (da_cons (m := .f) (de_var 1) da_nil)) rfl (consA_len (consA_len nilA_len)))) da_nil) rfl (fun ds env e => congrArg (· + 1) ((consA_len nilA_len) ds env e)))))))))))
  (dss_one (ds_ret de_bl))
  dss_nil)
  (dss_cons (ds_setCF 6 cx (di_rng1 (st := false) (by exact rfl) G.b_range (da_cons (m := .h) (de_up (de_var 2)) da_nil)) (blkOk_by (own := [(("i" : Str), 4)]) (by kernel_rfl)) (fun _ _ _ _ _ => (dg_name 4 cx.nd)) (fun _ _ _ _ _ => dts_nil) (fun s2 H2 C2 cl2 fp2 => (do_f (de_o (do_comp (cx.blk s2 H2 _ _ fp2) (di_rng1 (st := false) (by exact rfl) G.b_range (da_cons (m := .h) (de_up (de_var 2)) da_nil)) (blkOk_by (own := [(("j" : Str), 20)]) (by kernel_rfl)) (fun _ _ _ _ _ => (dg_name 20 cx.nd)) (fun _ _ _ _ _ => dts_nil) (fun s3 H3 C3 cl3 fp3 => (do_cal h__law_latest ((cx.blk s2 H2 _ _ fp2).blk s3 H3 _ _ fp3) (by decide) (da_cons (m := .f) (de_o (do_lst (da_cons (m := .f) (de_ix (de_up (de_ix (de_up (de_var 1)) (de_up (de_var 4)))) (de_up (de_var 20))) (da_cons (m := .f) (de_ix (de_up (de_ix (de_varq 3) (de_up (de_var 4)))) (de_up (de_var 20))) da_nil)))) da_nil) rfl (consA_len nilA_len))))))))
  (dss_cons (ds_if (dt_lend 3 (dt_w (dw_or (dt_not (dt_val (de_up (de_o (do_calO h__law_new cx (by decide) (do_cal h_later_work cx (by decide) (da_cons (m := .f) (de_var 1) (da_cons (m := .f) (de_var 3) da_nil)) rfl (consA_len (consA_len nilA_len))) (da_cons (m := .f) (de_var 6) da_nil) rfl (fun ds env e => congrArg (· + 1) ((consA_len nilA_len) ds env e))))))) (dw_or1 (dt_not (dt_val (de_up (de_o (do_calO h__law_new cx (by decide) (do_cal h_later_work cx (by decide) (da_cons (m := .f) (de_var 1) (da_cons (m := .f) (de_var 1) da_nil)) rfl (consA_len (consA_len nilA_len))) (da_cons (m := .f) (de_var 1) da_nil) rfl (fun ds env e => congrArg (· + 1) ((consA_len nilA_len) ds env e)))))))))))
  (dss_one (ds_ret de_bl))
  dss_nil)
  (dss_cons (ds_set 6 cx.nd (de_o (do_cal h__law_idle cx (by decide) (da_cons (m := .f) (de_var 2) da_nil) rfl (consA_len nilA_len))))
  (dss_cons (ds_set 7 cx.nd (de_mod (de_fdiv (de_callT bi_int (by exact rfl) G.b_int PyProof.Rows.boot_int (da_cons (m := .h) (de_up (de_o (do_cal h__law_cell cx (by decide) (da_cons (m := .f) (de_var 0) (da_cons (m := .f) de_int da_nil)) rfl (consA_len (consA_len nilA_len))))) da_nil)) de_int) de_int))
  (dss_cons (ds_if (dt_w (dw_or (dt_not (dt_val (de_up (de_o (do_calO h__law_new cx (by decide) (do_cal h_idle cx (by decide) (da_cons (m := .f) (de_var 2) da_nil) rfl (consA_len nilA_len)) (da_cons (m := .f) (de_var 6) da_nil) rfl (fun ds env e => congrArg (· + 1) ((consA_len nilA_len) ds env e))))))) (dw_or (dt_not (dt_val (de_up (de_o (do_calO h__law_new cx (by decide) (do_cal h_power cx (by decide) (da_cons (m := .f) (de_var 1) (da_cons (m := .f) de_int da_nil)) rfl (consA_len (consA_len nilA_len))) (da_cons (m := .f) (de_var 6) da_nil) rfl (fun ds env e => congrArg (· + 1) ((consA_len nilA_len) ds env e))))))) (dw_or1 (dt_not (dt_val (de_up (de_o (do_calO h__law_new cx (by decide) (do_cal h_power cx (by decide) (da_cons (m := .f) (de_var 1) (da_cons (m := .f) de_int da_nil)) rfl (consA_len (consA_len nilA_len))) (da_cons (m := .f) (de_var 1) da_nil) rfl (fun ds env e => congrArg (· + 1) ((consA_len nilA_len) ds env e)))))))))))
  (dss_one (ds_ret de_bl))
  dss_nil)
  (dss_cons (ds_forget [8] (ds_for cx (di_rng1 (st := true) (by exact rfl) G.b_range (da_cons (m := .h) (de_up (de_var 7)) da_nil)) (dg_name 8 cx.nd)
  (dss_fin [8] (dss_one (ds_set 6 cx.nd (de_o (do_cal h__law_product cx (by decide) (da_cons (m := .f) (de_var 6) (da_cons (m := .f) (de_var 1) da_nil)) rfl (consA_len (consA_len nilA_len)))))))))
  (dss_cons (ds_if (dt_lend 3 (dt_w (dw_or (dt_not (dt_val (de_up (de_o (do_calO h__law_new cx (by decide) (do_cal h_power cx (by decide) (da_cons (m := .f) (de_var 1) (da_cons (m := .f) (de_var 7) da_nil)) rfl (consA_len (consA_len nilA_len))) (da_cons (m := .f) (de_var 6) da_nil) rfl (fun ds env e => congrArg (· + 1) ((consA_len nilA_len) ds env e))))))) (dw_or1 (dt_cm (cm_ne (room64 cx.rm)) (de_callB (bi_repr cx) (by exact rfl) G.b_repr PyProof.Rows.boot_repr (da_cons (m := .h) (de_up (de_o (do_lst (da_cons (m := .f) (de_var 1) (da_cons (m := .f) (de_var 3) da_nil))))) da_nil)) (de_up (de_var 5)))))))
  (dss_one (ds_ret de_bl))
  dss_nil)
  (dss_cons (ds_share 3 (ds_setO 9 cx.nd (do_lstO (dso_cons (do_tupO (dso_cons (do_cal h_product cx (by decide) (da_cons (m := .f) (de_var 1) (da_cons (m := .f) (de_var 3) da_nil)) rfl (consA_len (consA_len nilA_len))) (dso_cons (do_cal h_product cx (by decide) (da_cons (m := .f) (de_var 1) (da_cons (m := .f) (de_var 3) da_nil)) rfl (consA_len (consA_len nilA_len))) dso_nil))) (dso_cons (do_tupO (dso_cons (do_cal h_later_work cx (by decide) (da_cons (m := .f) (de_var 1) (da_cons (m := .f) (de_var 3) da_nil)) rfl (consA_len (consA_len nilA_len))) (dso_cons (do_cal h_later_work cx (by decide) (da_cons (m := .f) (de_var 1) (da_cons (m := .f) (de_var 3) da_nil)) rfl (consA_len (consA_len nilA_len))) dso_nil))) dso_nil)))))
  (dss_cons (ds_forget [10, 11, 12] (ds_forMv 9 10 11 cx (do_lstO (dso_cons (do_tupO (dso_cons (do_cal h_idle cx (by decide) (da_cons (m := .f) (de_var 2) da_nil) rfl (consA_len nilA_len)) (dso_cons (do_cal h_idle cx (by decide) (da_cons (m := .f) (de_var 2) da_nil) rfl (consA_len nilA_len)) dso_nil))) (dso_cons (do_tupO (dso_cons (do_cal h_power cx (by decide) (da_cons (m := .f) (de_var 1) (da_cons (m := .f) (de_var 7) da_nil)) rfl (consA_len (consA_len nilA_len))) (dso_cons (do_cal h_power cx (by decide) (da_cons (m := .f) (de_var 1) (da_cons (m := .f) (de_var 7) da_nil)) rfl (consA_len (consA_len nilA_len))) dso_nil))) dso_nil)))
  (dss_fin [10, 11, 12] (dss_cons (ds_set 12 cx.nd (de_callB (bi_repr cx) (by exact rfl) G.b_repr PyProof.Rows.boot_repr (da_cons (m := .h) (de_varh 11) da_nil)))
  (dss_cons (ds_appendP (dr_ix (dr_var 10) de_int) (do_f de_non))
  (dss_cons (ds_append 10 (do_f de_non))
  (dss_one (ds_if (dt_lend 11 (dt_cm (cm_ne (room64 cx.rm)) (de_callB (bi_repr cx) (by exact rfl) G.b_repr PyProof.Rows.boot_repr (da_cons (m := .h) (de_up (de_var 11)) da_nil)) (de_up (de_var 12))))
  (dss_one (ds_ret de_bl))
  dss_nil))))))))
  (dss_cons (ds_set 13 cx.nd (de_mod (de_callT bi_int (by exact rfl) G.b_int PyProof.Rows.boot_int (da_cons (m := .h) (de_up (de_o (do_cal h__law_cell cx (by decide) (da_cons (m := .f) (de_var 0) (da_cons (m := .f) de_int da_nil)) rfl (consA_len (consA_len nilA_len))))) da_nil)) de_int))
  (dss_cons (ds_set 14 cx.nd (de_o (do_cal h__law_idle cx (by decide) (da_cons (m := .f) (de_add (de_up (de_var 2)) de_int) da_nil) rfl (consA_len nilA_len))))
  (dss_cons (ds_set 15 cx.nd (de_o (do_cal h__law_idle cx (by decide) (da_cons (m := .f) (de_add (de_up (de_add (de_up (de_var 2)) de_int)) (de_mod (de_callT bi_int (by exact rfl) G.b_int PyProof.Rows.boot_int (da_cons (m := .h) (de_up (de_var 13)) da_nil)) de_int)) da_nil) rfl (consA_len nilA_len))))
  (dss_cons (ds_forget [16, 17] (ds_for cx (di_seq (de_o (do_lst (da_cons (m := .f) (de_var 14) (da_cons (m := .f) (de_var 15) da_nil))))) (dg_name 16 cx.nd)
  (dss_fin [16, 17] (dss_one (ds_forget [17] (ds_for cx (di_rng1 (st := true) (by exact rfl) G.b_range (da_cons (m := .h) de_int da_nil)) (dg_name 17 cx.nd)
  (dss_fin [17] (dss_one (ds_if (dt_w (dw_or (dt_not (dt_val (de_up (de_o (do_cal h__law_refused cx (by decide) (da_cons (m := .f) (de_var 17) (da_cons (m := .f) (de_var 16) (da_cons (m := .f) (de_var 1) da_nil))) rfl (consA_len (consA_len (consA_len nilA_len)))))))) (dw_or1 (dt_not (dt_val (de_up (de_o (do_cal h__law_refused cx (by decide) (da_cons (m := .f) (de_var 17) (da_cons (m := .f) (de_var 1) (da_cons (m := .f) (de_var 16) da_nil))) rfl (consA_len (consA_len (consA_len nilA_len)))))))))))
  (dss_one (ds_ret de_bl))
  dss_nil)))))))))
  (dss_cons (ds_if (dt_cm (cm_eq (room64 cx.rm)) (de_mod (de_callT bi_int (by exact rfl) G.b_int PyProof.Rows.boot_int (da_cons (m := .h) (de_up (de_var 13)) da_nil)) de_int) de_int)
  (dss_cons (ds_setCF 18 cx (di_rng1 (st := false) (by exact rfl) G.b_range (da_cons (m := .h) (de_up (de_add de_int (de_up (de_var 2)))) da_nil)) (blkOk_by (own := [(("i" : Str), 4)]) (by kernel_rfl)) (fun _ _ _ _ _ => (dg_name 4 cx.nd)) (fun _ _ _ _ _ => dts_nil) (fun s4 H4 C4 cl4 fp4 => (do_f (de_o (do_comp (cx.blk s4 H4 _ _ fp4) (di_rng1 (st := false) (by exact rfl) G.b_range (da_cons (m := .h) (de_up (de_add de_int (de_up (de_var 2)))) da_nil)) (blkOk_by (own := [(("j" : Str), 20)]) (by kernel_rfl)) (fun _ _ _ _ _ => (dg_name 20 cx.nd)) (fun _ _ _ _ _ => dts_nil) (fun s5 H5 C5 cl5 fp5 => (do_cal h__law_small ((cx.blk s4 H4 _ _ fp4).blk s5 H5 _ _ fp5) (by decide) (da_cons (m := .f) (de_add (de_up (de_add (de_callT bi_int (by exact rfl) G.b_int PyProof.Rows.boot_int (da_cons (m := .h) (de_up (de_o (do_cal h__law_cell ((cx.blk s4 H4 _ _ fp4).blk s5 H5 _ _ fp5) (by decide) (da_cons (m := .f) (de_var 0) (da_cons (m := .f) de_int da_nil)) rfl (consA_len (consA_len nilA_len))))) da_nil)) (de_mul de_int (de_up (de_var 4))))) (de_mul de_int (de_up (de_var 20)))) (da_cons (m := .f) de_int da_nil)) rfl (consA_len (consA_len nilA_len)))))))))
  (dss_one (ds_if (dt_w (dw_or (dt_cm (cm_ne (room64 cx.rm)) (de_up (de_o (do_cal h_product cx (by decide) (da_cons (m := .f) (de_var 18) (da_cons (m := .f) (de_var 18) da_nil)) rfl (consA_len (consA_len nilA_len))))) (de_up (de_o (do_cal h__law_product cx (by decide) (da_cons (m := .f) (de_var 18) (da_cons (m := .f) (de_var 18) da_nil)) rfl (consA_len (consA_len nilA_len)))))) (dw_or1 (dt_cm (cm_ne (room64 cx.rm)) (de_up (de_o (do_cal h_product cx (by decide) (da_cons (m := .f) (de_var 18) (da_cons (m := .f) (de_o (do_cal h__law_idle cx (by decide) (da_cons (m := .f) (de_add de_int (de_up (de_var 2))) da_nil) rfl (consA_len nilA_len))) da_nil)) rfl (consA_len (consA_len nilA_len))))) (de_up (de_var 18))))))
  (dss_one (ds_ret de_bl))
  dss_nil)))
  dss_nil)
  (dss_cons (ds_forget [19] (ds_for cx (di_seq (de_o (do_lst (da_cons (m := .f) (de_tup (da_cons (m := .f) de_int (da_cons (m := .f) (de_var 14) da_nil))) (da_cons (m := .f) (de_tup (da_cons (m := .f) de_int (da_cons (m := .f) (de_var 14) da_nil))) (da_cons (m := .f) (de_tup (da_cons (m := .f) de_int (da_cons (m := .f) (de_neg (de_up (de_var 13))) da_nil))) (da_cons (m := .f) (de_tup (da_cons (m := .f) de_int (da_cons (m := .f) (de_sub (de_neg de_int) (de_up (de_var 13))) da_nil))) da_nil))))))) (dg_name 19 cx.nd)
  (dss_fin [19] (dss_one (ds_if (dt_not (dt_val (de_up (de_o (do_cal h__law_refused cx (by decide) (da_cons (m := .f) (de_ix (de_up (de_var 19)) de_int) (da_cons (m := .f) (de_var 1) (da_cons (m := .f) (de_ix (de_up (de_var 19)) de_int) da_nil))) rfl (consA_len (consA_len (consA_len nilA_len))))))))
  (dss_one (ds_ret de_bl))
  dss_nil)))))
  (dss_one (ds_share 3 (ds_ret (de_and (de_up (de_o (do_cal h__law_refused cx (by decide) (da_cons (m := .f) de_int (da_cons (m := .f) (de_var 14) (da_cons (m := .f) (de_var 1) da_nil))) rfl (consA_len (consA_len (consA_len nilA_len)))))) (de_and (de_cm (cm_eq (room64 cx.rm)) (de_up (de_o (do_cal h_idle cx (by decide) (da_cons (m := .f) de_int da_nil) rfl (consA_len nilA_len)))) (de_up (de_o (do_cal h__law_idle cx (by decide) (da_cons (m := .f) de_int da_nil) rfl (consA_len nilA_len))))) (de_and (de_cm (cm_eq (room64 cx.rm)) (de_up (de_o (do_cal h_idle cx (by decide) (da_cons (m := .f) (de_add de_int (de_mod (de_callT bi_int (by exact rfl) G.b_int PyProof.Rows.boot_int (da_cons (m := .h) (de_up (de_var 13)) da_nil)) de_int)) da_nil) rfl (consA_len nilA_len)))) (de_up (de_o (do_cal h__law_idle cx (by decide) (da_cons (m := .f) (de_add de_int (de_mod (de_callT bi_int (by exact rfl) G.b_int PyProof.Rows.boot_int (da_cons (m := .h) (de_up (de_var 13)) da_nil)) de_int)) da_nil) rfl (consA_len nilA_len))))) (de_one (de_cm (cm_eq (room64 cx.rm)) (de_callB (bi_repr cx) (by exact rfl) G.b_repr PyProof.Rows.boot_repr (da_cons (m := .h) (de_up (de_o (do_lst (da_cons (m := .f) (de_var 1) (da_cons (m := .f) (de_var 3) da_nil))))) da_nil)) (de_up (de_var 5)))))))))))))))))))))))))))))))
end LX
namespace LX
open PySem PySem.Spec PyProof.Rows L2 DL
open Builtin.Int (intBits)
/-! moments as fractions of Lean, None as none -/
abbrev Q := Option Rat
def qD (q : Rat) : D := .tuple [.int q.num, .int (q.den : Int)]
def mD : Q → D
  | none => .none
  | some q => qD q
def madd : Q → Q → Q
  | some a, some b => some (a + b)
  | _, _ => none
def mlt : Q → Q → Bool
  | _, none => false
  | none, some _ => true
  | some a, some b => decide (a < b)
def mmax (a b : Q) : Q := if mlt a b then b else a
def msup (xs : List Q) : Q := xs.foldl mmax none
theorem mmax_none_l (a : Q) : mmax none a = a := by cases a <;> rfl
theorem mmax_none_r (a : Q) : mmax a none = a := by cases a <;> rfl
theorem mmax_some (a b : Rat) : mmax (some a) (some b) = some (if a < b then b else a) := by
  unfold mmax mlt
  by_cases h : a < b <;> simp [h]
theorem mmax_comm (a b : Q) : mmax a b = mmax b a := by
  cases a with
  | none => rw [mmax_none_l, mmax_none_r]
  | some a =>
    cases b with
    | none => rw [mmax_none_l, mmax_none_r]
    | some b => rw [mmax_some, mmax_some]; congr 1; grind
theorem mmax_assoc (a b c : Q) : mmax (mmax a b) c = mmax a (mmax b c) := by
  cases a with
  | none => rw [mmax_none_l, mmax_none_l]
  | some a =>
    cases b with
    | none => rw [mmax_none_l, mmax_none_r]
    | some b =>
      cases c with
      | none => rw [mmax_none_r, mmax_none_r]
      | some c => simp only [mmax_some]; congr 1; grind
theorem mmax_self (a : Q) : mmax a a = a := by
  cases a with
  | none => rfl
  | some a => rw [mmax_some]; congr 1; grind
theorem madd_comm (a b : Q) : madd a b = madd b a := by
  cases a <;> cases b <;> simp [madd, Rat.add_comm]
theorem madd_assoc (a b c : Q) : madd (madd a b) c = madd a (madd b c) := by
  cases a <;> cases b <;> cases c <;> simp [madd, Rat.add_assoc]
theorem madd_none_l (a : Q) : madd none a = none := by cases a <;> rfl
theorem madd_none_r (a : Q) : madd a none = none := by cases a <;> rfl
theorem madd_zero_l (a : Q) : madd (some 0) a = a := by cases a <;> simp [madd, Rat.zero_add]
theorem madd_zero_r (a : Q) : madd a (some 0) = a := by rw [madd_comm, madd_zero_l]
theorem madd_mmax (a b c : Q) : madd a (mmax b c) = mmax (madd a b) (madd a c) := by
  cases a with
  | none => simp [madd_none_l, mmax_none_l]
  | some a =>
    cases b with
    | none => simp [madd_none_r, mmax_none_l]
    | some b =>
      cases c with
      | none => simp [madd_none_r, mmax_none_r]
      | some c => simp only [madd, mmax_some]; congr 1; grind
theorem mmax_madd (a b c : Q) : madd (mmax b c) a = mmax (madd b a) (madd c a) := by
  rw [madd_comm, madd_mmax, madd_comm a b, madd_comm a c]
theorem foldl_mmax (xs : List Q) (a : Q) : xs.foldl mmax a = mmax a (msup xs) := by
  induction xs generalizing a with
  | nil => exact (mmax_none_r a).symm
  | cons x xs ih =>
    have e : msup (x :: xs) = mmax x (msup xs) := by
      show xs.foldl mmax (mmax none x) = _
      rw [ih, mmax_none_l]
    rw [List.foldl_cons, ih, e, mmax_assoc]
theorem msup_cons (x : Q) (xs : List Q) : msup (x :: xs) = mmax x (msup xs) := by
  rw [msup, List.foldl_cons, foldl_mmax, mmax_none_l]
theorem msup_nil : msup [] = none := rfl
theorem msup_append (xs ys : List Q) : msup (xs ++ ys) = mmax (msup xs) (msup ys) := by
  induction xs with
  | nil => rw [List.nil_append, msup_nil, mmax_none_l]
  | cons x xs ih => rw [List.cons_append, msup_cons, msup_cons, ih, mmax_assoc]
theorem madd_msup (a : Q) (xs : List Q) : madd a (msup xs) = msup (xs.map (madd a)) := by
  induction xs with
  | nil => exact madd_none_r a
  | cons x xs ih => rw [msup_cons, madd_mmax, ih, List.map_cons, msup_cons]
theorem msup_madd (a : Q) (xs : List Q) : madd (msup xs) a = msup (xs.map fun x => madd x a) := by
  rw [madd_comm, madd_msup]
  congr 1
  exact List.map_congr_left fun x _ => madd_comm a x
theorem msup_mmax {α : Type} (f g : α → Q) (xs : List α) : msup (xs.map fun x => mmax (f x) (g x)) = mmax (msup (xs.map f)) (msup (xs.map g)) := by
  induction xs with
  | nil => rfl
  | cons x xs ih =>
    simp only [List.map_cons, msup_cons, ih]
    rw [mmax_assoc, mmax_assoc, ← mmax_assoc (g x), mmax_comm (g x), mmax_assoc]
theorem msup_none {α : Type} (xs : List α) : msup (xs.map fun _ => none) = none := by
  induction xs with
  | nil => rfl
  | cons x xs ih => rw [List.map_cons, msup_cons, ih]; rfl
theorem msup_comm {α β : Type} (f : α → β → Q) (xs : List α) (ys : List β) : msup (xs.map fun x => msup (ys.map fun y => f x y)) = msup (ys.map fun y => msup (xs.map fun x => f x y)) := by
  induction xs with
  | nil => simp only [List.map_nil, msup_nil]; exact (msup_none ys).symm
  | cons x xs ih => simp only [List.map_cons, msup_cons, ih]; rw [← msup_mmax]
/-- one item stands out -/
theorem msup_one {n i : Nat} (f : Nat → Q) (h : i < n) (h0 : ∀ k, k < n → k ≠ i → f k = none) : msup ((List.range n).map f) = f i := by
  induction n with
  | zero => exact absurd h (Nat.not_lt_zero _)
  | succ n ih =>
    rw [List.range_succ, List.map_append, msup_append, List.map_cons, List.map_nil, msup_cons, msup_nil, mmax_none_r]
    by_cases e : n = i
    · subst e
      have : msup ((List.range n).map f) = none := by
        rw [List.map_congr_left (g := fun _ => none) fun k hk => h0 k (by have := List.mem_range.mp hk; omega) (by have := List.mem_range.mp hk; omega)]
        exact msup_none _
      rw [this, mmax_none_l]
    · rw [ih (by omega) fun k hk => h0 k (by omega), h0 n (by omega) e, mmax_none_r]
/-! fractions as pairs -/
def gc (t l : Int) : Nat := Nat.gcd t.natAbs l.natAbs
def dv (t l : Int) : Int := if l < 0 then -(gc t l : Int) else (gc t l : Int)
def frD (t l : Int) : D := .tuple [.int (t.fdiv (dv t l)), .int (l.fdiv (dv t l))]
theorem gc_pos {t l : Int} (h : l ≠ 0) : 0 < gc t l := Nat.gcd_pos_of_pos_right _ (by omega)
theorem dv_ne {t l : Int} (h : l ≠ 0) : dv t l ≠ 0 := by
  have := gc_pos (t := t) h
  unfold dv; split <;> omega
theorem gc_le {t l : Int} (h : l ≠ 0) : gc t l ≤ l.natAbs := Nat.gcd_le_right _ (by omega)
theorem dv_bits {t l : Int} {n : Nat} (h : l ≠ 0) (hl : intBits l ≤ n) : intBits (dv t l) ≤ n := by
  refine intBits_le_of_natAbs (y := l) ?_ hl
  have := gc_le (t := t) h
  unfold dv; split <;> omega
theorem frD_q {t l : Int} (h : l ≠ 0) : frD t l = qD (Rat.divInt t l) := by
  have hg := gc_pos (t := t) h
  have eg : l.gcd t = gc t l := by unfold gc; rw [Int.gcd, Nat.gcd_comm]
  have d1 : ((gc t l : Nat) : Int) ∣ t := by unfold gc; exact Int.ofNat_dvd_left.mpr (Nat.gcd_dvd_left _ _)
  have d2 : ((gc t l : Nat) : Int) ∣ l := by unfold gc; exact Int.ofNat_dvd_left.mpr (Nat.gcd_dvd_right _ _)
  have gn : ((gc t l : Nat) : Int) ≠ 0 := by omega
  unfold frD qD
  rw [Rat.num_divInt, Rat.den_divInt, if_neg h, eg]
  obtain ⟨a, ha⟩ := d1
  obtain ⟨b, hb⟩ := d2
  have e3 : l.natAbs / gc t l = b.natAbs := by
    have e4 : l.natAbs = gc t l * b.natAbs := by rw [congrArg Int.natAbs hb, Int.natAbs_mul]; simp
    rw [e4, Nat.mul_div_cancel_left _ hg]
  rw [e3]
  generalize hG : gc t l = G at *
  have hd : dv t l = if l < 0 then -(G : Int) else (G : Int) := by unfold dv; rw [hG]
  rw [hd]
  subst ha
  by_cases hl : l < 0
  · have hb0 : b < 0 := by
      rcases Int.lt_trichotomy b 0 with z | z | z
      · exact z
      · subst z; rw [Int.mul_zero] at hb; omega
      · have := Int.mul_pos (show (0 : Int) < G by omega) z; omega
    rw [if_pos hl, Int.sign_eq_neg_one_of_neg hl]
    have f1 : ((G : Int) * a).fdiv (-(G : Int)) = -1 * ((G : Int) * a) / (G : Int) := by
      have z : (G : Int) * a = (-(G : Int)) * (-a) := (Int.neg_mul_neg _ _).symm
      have w1 : ((G : Int) * a).fdiv (-(G : Int)) = -a := by rw [z, Int.mul_fdiv_cancel_left _ (by omega)]
      have w2 : -1 * ((G : Int) * a) / (G : Int) = -a := by rw [show -1 * ((G : Int) * a) = (G : Int) * (-a) by rw [Int.mul_neg]; omega, Int.mul_ediv_cancel_left _ gn]
      rw [w1, w2]
    have f2 : l.fdiv (-(G : Int)) = (b.natAbs : Int) := by
      have z : l = (-(G : Int)) * (-b) := by rw [hb]; exact (Int.neg_mul_neg _ _).symm
      rw [z, Int.mul_fdiv_cancel_left _ (by omega)]; omega
    rw [f1, f2]
  · have hl0 : 0 < l := by omega
    have hb0 : 0 < b := by
      rcases Int.lt_trichotomy b 0 with z | z | z
      · have := Int.mul_neg_of_pos_of_neg (show (0 : Int) < G by omega) z; omega
      · subst z; rw [Int.mul_zero] at hb; omega
      · exact z
    rw [if_neg hl, Int.sign_eq_one_of_pos hl0, Int.one_mul, Int.mul_fdiv_cancel_left _ gn, Int.mul_ediv_cancel_left _ gn]
    have f2 : l.fdiv (G : Int) = (b.natAbs : Int) := by
      rw [hb, Int.mul_fdiv_cancel_left _ gn]; omega
    rw [f2]
theorem qD_div (q : Rat) : Rat.divInt q.num (q.den : Int) = q := Rat.num_divInt_den q
theorem add_div (a b : Rat) : Rat.divInt (a.num * b.den + b.num * a.den) (a.den * b.den) = a + b := by
  have h := Rat.divInt_add_divInt a.num b.num (d₁ := (a.den : Int)) (d₂ := (b.den : Int)) (by have := a.den_nz; omega) (by have := b.den_nz; omega)
  rw [qD_div, qD_div] at h
  exact h.symm
end LX
namespace LX
open PySem PySem.Spec PyProof.Rows L2 DL
open Builtin.Int (intBits)
/-! bits of ints -/
theorem bits_abs {i : Int} {n : Nat} (h : i.natAbs < 2 ^ n) : intBits i ≤ n := intBits_le_iff.mpr h
theorem abs_bits {i : Int} {n : Nat} (h : intBits i ≤ n) : i.natAbs < 2 ^ n := intBits_le_iff.mp h
/-- both parts have few bits -/
def Bt (n : Nat) : Q → Prop
  | none => True
  | some q => intBits q.num ≤ n ∧ intBits (q.den : Int) ≤ n
theorem Bt.mono {n m : Nat} {q : Q} (b : Bt n q) (h : n ≤ m) : Bt m q := by
  cases q with
  | none => trivial
  | some q => exact ⟨Nat.le_trans b.1 h, Nat.le_trans b.2 h⟩
/-- a multiple of 1 / L, at most P / L from 0 -/
def Bd (L P : Nat) : Q → Prop
  | none => True
  | some q => ∃ p : Int, q = Rat.divInt p (L : Int) ∧ p.natAbs ≤ P
theorem Bd.mono {L P R : Nat} {q : Q} (b : Bd L P q) (h : P ≤ R) : Bd L R q := by
  cases q with
  | none => trivial
  | some q => obtain ⟨p, e, k⟩ := b; exact ⟨p, e, Nat.le_trans k h⟩
theorem bd_none {L P : Nat} : Bd L P none := trivial
theorem bd_zero {L P : Nat} : Bd L P (some 0) := ⟨0, by simp [Rat.divInt], Nat.zero_le _⟩
theorem Bd.add {L P R : Nat} (hL : 0 < L) {a b : Q} (x : Bd L P a) (y : Bd L R b) : Bd L (P + R) (madd a b) := by
  cases a with
  | none => trivial
  | some a =>
    cases b with
    | none => trivial
    | some b =>
      obtain ⟨p, rfl, hp⟩ := x
      obtain ⟨r, rfl, hr⟩ := y
      refine ⟨p + r, ?_, by omega⟩
      rw [Rat.divInt_add_divInt _ _ (by omega) (by omega), ← Int.add_mul, Rat.divInt_mul_right (by omega)]
theorem Bd.max {L P : Nat} {a b : Q} (x : Bd L P a) (y : Bd L P b) : Bd L P (mmax a b) := by
  unfold mmax; split
  · exact y
  · exact x
theorem Bd.sup {L P : Nat} {xs : List Q} (h : ∀ x ∈ xs, Bd L P x) : Bd L P (msup xs) := by
  induction xs with
  | nil => trivial
  | cons x xs ih => rw [msup_cons]; exact Bd.max (h x (List.mem_cons_self ..)) (ih fun y hy => h y (List.mem_cons_of_mem _ hy))
theorem Bd.bt {L P n : Nat} (hL : 0 < L) {q : Q} (x : Bd L P q) (h1 : P < 2 ^ n) (h2 : L < 2 ^ n) : Bt n q := by
  cases q with
  | none => trivial
  | some q =>
    obtain ⟨p, rfl, hp⟩ := x
    have l0 : (L : Int) ≠ 0 := by omega
    have e : frD p L = qD (Rat.divInt p L) := frD_q l0
    have hg := gc_pos (t := p) l0
    unfold frD qD at e
    injection e with e
    injection e with e1 e2
    injection e1 with e1
    injection e2 with e2 _
    injection e2 with e2
    refine ⟨bits_abs ?_, bits_abs ?_⟩
    · rw [← e1]
      refine Nat.lt_of_le_of_lt ?_ (Nat.lt_of_le_of_lt hp h1)
      exact Int.natAbs_fdiv_le_natAbs _ _
    · rw [← e2]
      refine Nat.lt_of_le_of_lt (Int.natAbs_fdiv_le_natAbs _ _) ?_
      simpa using h2
/-! equality of encodings -/
structure EqE {A : Type} (k : Nat) (enc : A → D) : Prop where
  can : ∀ a, (enc a).canLay0 = true
  dep : ∀ a, (enc a).depth ≤ k
  eq : ∀ a b, PyData.eqv (enc a) (enc b) = true ↔ a = b
theorem EqE.shaped {A : Type} {k : Nat} {enc : A → D} (e : EqE k enc) (h : k ≤ 64) (a : A) : SeqAt.shaped (enc a) = true := by
  unfold SeqAt.shaped
  rw [Bool.and_eq_true]
  exact ⟨e.can a, decide_eq_true (Nat.le_trans (e.dep a) h)⟩
theorem EqE.eqD {A : Type} [DecidableEq A] {k : Nat} {enc : A → D} (e : EqE k enc) (h : k ≤ 64) (a b : A) : eqD (enc a) (enc b) = .ok (.bool (decide (a = b))) := by
  unfold DL.eqD
  rw [if_pos ⟨e.shaped h a, e.shaped h b⟩]
  congr 2
  rw [Bool.eq_iff_iff, e.eq, decide_eq_true_iff]
theorem EqE.neD {A : Type} [DecidableEq A] {k : Nat} {enc : A → D} (e : EqE k enc) (h : k ≤ 64) (a b : A) : neD (enc a) (enc b) = .ok (.bool (!decide (a = b))) := by
  unfold DL.neD
  rw [if_pos ⟨e.shaped h a, e.shaped h b⟩]
  congr 3
  rw [Bool.eq_iff_iff, e.eq, decide_eq_true_iff]
theorem eq_str (a b : Str) : eqD (.str a) (.str b) = .ok (.bool (a == b)) := by
  unfold DL.eqD
  split <;> rfl
theorem ne_str (a b : Str) : neD (.str a) (.str b) = .ok (.bool (!(a == b))) := by
  unfold DL.neD
  split <;> rfl
theorem eqe_int : EqE 0 PyData.int := ⟨fun _ => rfl, fun _ => Nat.le_refl _, fun a b => by simp [PyData.eqv]⟩
theorem eqe_q : EqE 1 mD where
  can a := by cases a <;> rfl
  dep a := by
    cases a with
    | none => exact Nat.zero_le _
    | some a => exact Nat.le_refl _
  eq a b := by
    cases a with
    | none => cases b <;> simp [mD, qD, PyData.eqv]
    | some a =>
      cases b with
      | none => simp [mD, qD, PyData.eqv]
      | some b =>
        simp only [mD, qD, PyData.eqv, PyData.eqvAll, Bool.and_true, Bool.and_eq_true, beq_iff_eq, Option.some.injEq]
        exact ⟨fun h => Rat.ext h.1 (by omega), fun h => by rw [h]; exact ⟨rfl, rfl⟩⟩
theorem eqe_list {A : Type} {k : Nat} {enc : A → D} (e : EqE k enc) : EqE (k + 1) (fun xs : List A => PyData.list (xs.map enc)) where
  can xs := by
    show PyData.canLayAll0 (xs.map enc) = true
    induction xs with
    | nil => rfl
    | cons x xs ih => show (PyData.canLay0 _ && PyData.canLayAll0 _) = true; rw [e.can, ih]; rfl
  dep xs := by
    show PyData.depthAll (xs.map enc) + 1 ≤ k + 1
    have : PyData.depthAll (xs.map enc) ≤ k := by
      induction xs with
      | nil => exact Nat.zero_le _
      | cons x xs ih => exact Nat.max_le.mpr ⟨e.dep x, ih⟩
    omega
  eq xs := by
    intro ys
    show PyData.eqvAll (xs.map enc) (ys.map enc) = true ↔ xs = ys
    induction xs generalizing ys with
    | nil => cases ys <;> simp [PyData.eqvAll]
    | cons x xs ih =>
      cases ys with
      | nil => simp [PyData.eqvAll]
      | cons y ys =>
        show (PyData.eqv (enc x) (enc y) && PyData.eqvAll (xs.map enc) (ys.map enc)) = true ↔ _
        rw [Bool.and_eq_true, e.eq, ih, List.cons.injEq]
/-- vectors and works -/
def vD (v : List Q) : D := .list (v.map mD)
def wD (w : List (List Q)) : D := .list (w.map vD)
theorem eqe_v : EqE 2 vD := eqe_list eqe_q
theorem eqe_w : EqE 3 wD := eqe_list eqe_v
theorem eqe_is : EqE 1 (fun xs : List Int => PyData.list (xs.map .int)) := eqe_list eqe_int
/-! what repr shows -/
structure Sh (B k : Nat) (d : D) : Prop where
  sh : d.showable = true
  nd : d.hasDict = false
  len : d.shown.length ≤ B
  dep : d.depth ≤ k
theorem Sh.mono {B C k l : Nat} {d : D} (s : Sh B k d) (h1 : B ≤ C) (h2 : k ≤ l) : Sh C l d := ⟨s.sh, s.nd, Nat.le_trans s.len h1, Nat.le_trans s.dep h2⟩
theorem sh_none : Sh 4 0 .none := ⟨rfl, rfl, by decide, Nat.le_refl _⟩
theorem sh_int {i : Int} {n : Nat} (h : intBits i ≤ n) (hn : n ≤ 1900) (h0 : 0 < n) : Sh (n + 1) 0 (.int i) := by
  have hl : i.natAbs.log2 < n := by
    have := abs_bits h
    by_cases z : i.natAbs = 0
    · rw [z]; simpa using h0
    · exact (Nat.log2_lt z).mpr this
  refine ⟨?_, rfl, ?_, Nat.le_refl _⟩
  · show decide (i.natAbs.log2 < 1920) = true
    exact decide_eq_true (by omega)
  · have := int_text_length_le h0 hl
    show (Str.ofString (toString i)).length ≤ n + 1
    rw [PySem.ofString_length]; exact this
theorem sum_le {xs : List D} {B : Nat} (h : ∀ x ∈ xs, x.shown.length ≤ B) : ((PyData.shownAll xs).map (·.length)).sum ≤ xs.length * B ∧ (PyData.shownAll xs).length = xs.length := by
  induction xs with
  | nil => exact ⟨Nat.zero_le _, rfl⟩
  | cons x xs ih =>
    obtain ⟨h1, h2⟩ := ih fun y hy => h y (List.mem_cons_of_mem _ hy)
    refine ⟨?_, by show (PyData.shown x :: PyData.shownAll xs).length = _; rw [List.length_cons, h2]; rfl⟩
    show ((PyData.shown x :: PyData.shownAll xs).map (·.length)).sum ≤ _
    rw [List.map_cons, List.sum_cons, List.length_cons, Nat.add_mul, Nat.one_mul]
    have := h x (List.mem_cons_self ..)
    omega
theorem all_sh {xs : List D} {B k : Nat} (h : ∀ x ∈ xs, Sh B k x) : PyData.showableAll xs = true ∧ PyData.hasDictAll xs = false ∧ PyData.depthAll xs ≤ k := by
  induction xs with
  | nil => exact ⟨rfl, rfl, Nat.zero_le _⟩
  | cons x xs ih =>
    obtain ⟨h1, h2, h3⟩ := ih fun y hy => h y (List.mem_cons_of_mem _ hy)
    have := h x (List.mem_cons_self ..)
    refine ⟨?_, ?_, Nat.max_le.mpr ⟨this.dep, h3⟩⟩
    · show (PyData.showable x && PyData.showableAll xs) = true; rw [this.sh, h1]; rfl
    · show (PyData.hasDict x || PyData.hasDictAll xs) = false; rw [this.nd, h2]; rfl
theorem sh_list {xs : List D} {B k n : Nat} (h : ∀ x ∈ xs, Sh B k x) (hn : xs.length ≤ n) : Sh (n * (B + 2) + 3) (k + 1) (.list xs) := by
  obtain ⟨h1, h2, h3⟩ := all_sh h
  obtain ⟨h4, h5⟩ := sum_le fun x hx => (h x hx).len
  refine ⟨h1, h2, ?_, Nat.succ_le_succ h3⟩
  have := listText_len_le (PyData.shownAll xs)
  show (listText (PyData.shownAll xs)).length ≤ _
  have e1 : xs.length * (B + 2) = xs.length * B + xs.length * 2 := Nat.mul_add ..
  have e2 : xs.length * (B + 2) ≤ n * (B + 2) := Nat.mul_le_mul_right _ hn
  omega
theorem sh_tuple {xs : List D} {B k n : Nat} (h : ∀ x ∈ xs, Sh B k x) (hn : xs.length ≤ n) : Sh (n * (B + 2) + 3) (k + 1) (.tuple xs) := by
  obtain ⟨h1, h2, h3⟩ := all_sh h
  obtain ⟨h4, h5⟩ := sum_le fun x hx => (h x hx).len
  refine ⟨h1, h2, ?_, Nat.succ_le_succ h3⟩
  have := tupleText_len_le (PyData.shownAll xs)
  show (tupleText (PyData.shownAll xs)).length ≤ _
  have e1 : xs.length * (B + 2) = xs.length * B + xs.length * 2 := Nat.mul_add ..
  have e2 : xs.length * (B + 2) ≤ n * (B + 2) := Nat.mul_le_mul_right _ hn
  omega
theorem repr_ok {d : D} {B k : Nat} (h : Sh B k d) (hB : B ≤ 16777216) (hk : k ≤ 64) (ht : (∃ ds, d = .list ds) ∨ (∃ ds, d = .tuple ds) ∨ d = .none := by first | exact .inl ⟨_, rfl⟩ | exact .inr (.inl ⟨_, rfl⟩)) : reprD d = .ok (.str d.shown) := by
  have h2 : d.shown.length ≤ sizeLine := Nat.le_trans h.len (Nat.le_trans hB (by decide))
  have h3 : d.depth ≤ 64 := Nat.le_trans h.dep hk
  rcases ht with ⟨ds, rfl⟩ | ⟨ds, rfl⟩ | rfl
  · exact if_pos ⟨h.sh, h.nd, h3, h2⟩
  · exact if_pos ⟨h.sh, h.nd, h3, h2⟩
  · rfl
theorem sh_q {q : Q} {n : Nat} (h : Bt n q) (hn : n ≤ 1900) (h0 : 0 < n) : Sh (2 * n + 9) 1 (mD q) := by
  cases q with
  | none => exact sh_none.mono (by omega) (by omega)
  | some q =>
    refine (sh_tuple (n := 2) (B := n + 1) (k := 0) (fun x hx => ?_) (Nat.le_refl _)).mono (by omega) (Nat.le_refl _)
    rcases List.mem_cons.mp hx with z | z
    · rw [z]; exact sh_int h.1 hn h0
    · rw [List.mem_singleton.mp z]; exact sh_int h.2 hn h0
theorem sh_v {v : List Q} {n m : Nat} (h : ∀ q ∈ v, Bt n q) (hn : n ≤ 1900) (h0 : 0 < n) (hm : v.length ≤ m) : Sh (m * (2 * n + 11) + 3) 2 (vD v) :=
  sh_list (B := 2 * n + 9) (fun x hx => by obtain ⟨q, hq, e⟩ := List.mem_map.mp hx; rw [← e]; exact sh_q (h q hq) hn h0) (by simpa using hm)
theorem sh_w {w : List (List Q)} {n m : Nat} (h : ∀ v ∈ w, ∀ q ∈ v, Bt n q) (hn : n ≤ 1900) (h0 : 0 < n) (h1 : ∀ v ∈ w, v.length ≤ m) (hm : w.length ≤ m) : Sh (m * (m * (2 * n + 11) + 5) + 3) 3 (wD w) :=
  sh_list (B := m * (2 * n + 11) + 3) (fun x hx => by obtain ⟨q, hq, e⟩ := List.mem_map.mp hx; rw [← e]; exact sh_v (h q hq) hn h0 (h1 q hq)) (by simpa using hm)
end LX
namespace LX
open PySem PySem.Spec PyProof.Rows L2 DL
open Builtin.Int (intBits)
/-! works as functions of two indexes -/
def sup (n : Nat) (f : Nat → Q) : Q := msup ((List.range n).map f)
def V (n : Nat) (f : Nat → Q) : List Q := (List.range n).map f
def W (n : Nat) (f : Nat → Nat → Q) : List (List Q) := (List.range n).map fun i => V n (f i)
def mulV (n : Nat) (f : Nat → Nat → Q) (g : Nat → Q) (i : Nat) : Q := sup n fun k => madd (f i k) (g k)
def mulM (n : Nat) (f g : Nat → Nat → Q) (i j : Nat) : Q := sup n fun k => madd (f i k) (g k j)
def idleM (i j : Nat) : Q := if i = j then some 0 else none
theorem V_len (n : Nat) (f : Nat → Q) : (V n f).length = n := by simp [V]
theorem W_len (n : Nat) (f : Nat → Nat → Q) : (W n f).length = n := by simp [W]
theorem V_get {n i : Nat} (f : Nat → Q) (h : i < n) : (V n f)[i]? = some (f i) := by simp [V, h]
theorem W_get {n i : Nat} (f : Nat → Nat → Q) (h : i < n) : (W n f)[i]? = some (V n (f i)) := by simp [W, h]
theorem V_congr {n : Nat} {f g : Nat → Q} (h : ∀ i, i < n → f i = g i) : V n f = V n g := List.map_congr_left fun i hi => h i (List.mem_range.mp hi)
theorem W_congr {n : Nat} {f g : Nat → Nat → Q} (h : ∀ i j, i < n → j < n → f i j = g i j) : W n f = W n g := List.map_congr_left fun i hi => V_congr fun j hj => h i j (List.mem_range.mp hi) hj
theorem sup_congr {n : Nat} {f g : Nat → Q} (h : ∀ i, i < n → f i = g i) : sup n f = sup n g := congrArg msup (V_congr h)
theorem V_inj {n : Nat} {f g : Nat → Q} (h : V n f = V n g) {i : Nat} (hi : i < n) : f i = g i := by
  have := congrArg (fun l => l[i]?) h
  simpa [V_get, hi] using this
theorem V_of {n : Nat} {l : List Q} (h : l.length = n) : l = V n fun i => l.getD i none := by
  subst h
  apply List.ext_getElem?
  intro i
  by_cases hi : i < l.length
  · rw [V_get _ hi]; simp [hi]
  · rw [List.getElem?_eq_none (by omega), List.getElem?_eq_none (by rw [V_len]; omega)]
theorem W_of {n : Nat} {w : List (List Q)} (h : w.length = n) (hr : ∀ r ∈ w, r.length = n) : w = W n fun i j => (w.getD i []).getD j none := by
  apply List.ext_getElem?
  intro i
  by_cases hi : i < n
  · rw [W_get _ hi]
    have hi' : i < w.length := by omega
    have e : w.getD i [] = w[i] := by simp [hi']
    rw [List.getElem?_eq_getElem hi', e]
    congr 1
    exact V_of (hr _ (List.getElem_mem hi'))
  · rw [List.getElem?_eq_none (by omega), List.getElem?_eq_none (by rw [W_len]; omega)]
theorem sup_none (n : Nat) : sup n (fun _ => none) = none := msup_none _
theorem sup_one {n i : Nat} (f : Nat → Q) (h : i < n) (h0 : ∀ k, k < n → k ≠ i → f k = none) : sup n f = f i := msup_one f h h0
theorem sup_madd (n : Nat) (f : Nat → Q) (a : Q) : madd (sup n f) a = sup n fun k => madd (f k) a := by
  unfold sup; rw [msup_madd, List.map_map]; rfl
theorem madd_sup (n : Nat) (f : Nat → Q) (a : Q) : madd a (sup n f) = sup n fun k => madd a (f k) := by
  unfold sup; rw [madd_msup, List.map_map]; rfl
theorem sup_sup (n m : Nat) (f : Nat → Nat → Q) : (sup n fun i => sup m fun j => f i j) = sup m fun j => sup n fun i => f i j := msup_comm f _ _
theorem sup_max (n : Nat) (f g : Nat → Q) : (sup n fun i => mmax (f i) (g i)) = mmax (sup n f) (sup n g) := msup_mmax f g _
theorem mulM_assoc (n : Nat) (f g h : Nat → Nat → Q) (i j : Nat) : mulM n (mulM n f g) h i j = mulM n f (mulM n g h) i j := by
  unfold mulM
  simp only [sup_madd, madd_sup]
  rw [sup_sup]
  exact sup_congr fun k _ => sup_congr fun l _ => madd_assoc _ _ _
theorem mulV_mulM (n : Nat) (f g : Nat → Nat → Q) (x : Nat → Q) (i : Nat) : mulV n (mulM n f g) x i = mulV n f (mulV n g x) i := by
  unfold mulM mulV
  simp only [sup_madd, madd_sup]
  rw [sup_sup]
  exact sup_congr fun k _ => sup_congr fun l _ => madd_assoc _ _ _
theorem mulM_congr {n : Nat} {f f' g g' : Nat → Nat → Q} {i j : Nat} (hf : ∀ k, k < n → f i k = f' i k) (hg : ∀ k, k < n → g k j = g' k j) : mulM n f g i j = mulM n f' g' i j :=
  sup_congr fun k hk => by rw [hf k hk, hg k hk]
theorem mulV_congr {n : Nat} {f f' : Nat → Nat → Q} {g g' : Nat → Q} {i : Nat} (hf : ∀ k, k < n → f i k = f' i k) (hg : ∀ k, k < n → g k = g' k) : mulV n f g i = mulV n f' g' i :=
  sup_congr fun k hk => by rw [hf k hk, hg k hk]
theorem idle_mulM {n : Nat} (f : Nat → Nat → Q) {i : Nat} (j : Nat) (hi : i < n) : mulM n idleM f i j = f i j := by
  unfold mulM
  rw [sup_one _ hi fun k _ hk => by unfold idleM; rw [if_neg (Ne.symm hk)]; rfl]
  unfold idleM; rw [if_pos rfl, madd_zero_l]
theorem mulM_idle {n : Nat} (f : Nat → Nat → Q) (i : Nat) {j : Nat} (hj : j < n) : mulM n f idleM i j = f i j := by
  unfold mulM
  rw [sup_one _ hj fun k _ hk => by unfold idleM; rw [if_neg hk]; exact madd_none_r _]
  unfold idleM; rw [if_pos rfl, madd_zero_r]
theorem idle_mulV {n : Nat} (x : Nat → Q) {i : Nat} (hi : i < n) : mulV n idleM x i = x i := by
  unfold mulV
  rw [sup_one _ hi fun k _ hk => by unfold idleM; rw [if_neg (Ne.symm hk)]; rfl]
  unfold idleM; rw [if_pos rfl, madd_zero_l]
/-- all moments within bounds -/
def BdV (n L P : Nat) (g : Nat → Q) : Prop := ∀ i, i < n → Bd L P (g i)
def BdM (n L P : Nat) (f : Nat → Nat → Q) : Prop := ∀ i j, i < n → j < n → Bd L P (f i j)
theorem BdV.mono {n L P U : Nat} {g : Nat → Q} (b : BdV n L P g) (h : P ≤ U) : BdV n L U g := fun i hi => (b i hi).mono h
theorem BdM.mono {n L P U : Nat} {g : Nat → Nat → Q} (b : BdM n L P g) (h : P ≤ U) : BdM n L U g := fun i j hi hj => (b i j hi hj).mono h
theorem bd_sup {n L P : Nat} {f : Nat → Q} (h : ∀ i, i < n → Bd L P (f i)) : Bd L P (sup n f) := Bd.sup fun x hx => by
  obtain ⟨i, hi, e⟩ := List.mem_map.mp hx
  rw [← e]; exact h i (List.mem_range.mp hi)
theorem bd_mulV {n L P U : Nat} (hL : 0 < L) {f : Nat → Nat → Q} {g : Nat → Q} (hf : BdM n L P f) (hg : BdV n L U g) : BdV n L (P + U) (mulV n f g) := fun i hi => bd_sup fun k hk => Bd.add hL (hf i k hi hk) (hg k hk)
theorem bd_mulM {n L P U : Nat} (hL : 0 < L) {f g : Nat → Nat → Q} (hf : BdM n L P f) (hg : BdM n L U g) : BdM n L (P + U) (mulM n f g) := fun i j hi hj => bd_sup fun k hk => Bd.add hL (hf i k hi hk) (hg k j hk hj)
theorem bd_idle {n L P : Nat} : BdM n L P idleM := fun i j _ _ => by unfold idleM; split; exact bd_zero; trivial
theorem mem_V {n : Nat} {f : Nat → Q} {x : Q} (h : x ∈ V n f) : ∃ i, i < n ∧ x = f i := by
  obtain ⟨i, hi, e⟩ := List.mem_map.mp h
  exact ⟨i, List.mem_range.mp hi, e.symm⟩
theorem mem_W {n : Nat} {f : Nat → Nat → Q} {x : List Q} (h : x ∈ W n f) : ∃ i, i < n ∧ x = V n (f i) := by
  obtain ⟨i, hi, e⟩ := List.mem_map.mp h
  exact ⟨i, List.mem_range.mp hi, e.symm⟩
/-- k rounds -/
def rnd (n : Nat) (f : Nat → Nat → Q) : Nat → (Nat → Q) → (Nat → Q)
  | 0, g => g
  | k + 1, g => mulV n f (rnd n f k g)
theorem rnd_congr {n : Nat} {f f' : Nat → Nat → Q} {g g' : Nat → Q} (hf : ∀ i j, i < n → j < n → f i j = f' i j) (hg : ∀ i, i < n → g i = g' i) : ∀ k i, i < n → rnd n f k g i = rnd n f' k g' i
  | 0, i, hi => hg i hi
  | k + 1, i, hi => mulV_congr (fun j hj => hf i j hi hj) fun j hj => rnd_congr hf hg k j hj
theorem rnd_succ (n : Nat) (f : Nat → Nat → Q) (g : Nat → Q) : ∀ k, rnd n f (k + 1) g = rnd n f k (mulV n f g)
  | 0 => rfl
  | k + 1 => by
    show mulV n f (rnd n f (k + 1) g) = mulV n f (rnd n f k (mulV n f g))
    rw [rnd_succ n f g k]
theorem rnd_twice (n : Nat) (f : Nat → Nat → Q) (g : Nat → Q) : ∀ k, rnd n (mulM n f f) k g = rnd n f (2 * k) g
  | 0 => rfl
  | k + 1 => by
    show mulV n (mulM n f f) (rnd n (mulM n f f) k g) = mulV n f (mulV n f (rnd n f (2 * k) g))
    rw [rnd_twice n f g k]
    funext i
    exact mulV_mulM n f f _ i
/-- powers -/
def pw (n : Nat) (f : Nat → Nat → Q) : Nat → (Nat → Nat → Q)
  | 0 => idleM
  | k + 1 => mulM n (pw n f k) f
theorem bd_pw {n L P : Nat} (hL : 0 < L) {f : Nat → Nat → Q} (hf : BdM n L P f) : ∀ k, BdM n L (k * P) (pw n f k)
  | 0 => bd_idle
  | k + 1 => by rw [Nat.succ_mul]; exact bd_mulM hL (bd_pw hL hf k) hf
theorem bd_rnd {n L P U : Nat} (hL : 0 < L) {f : Nat → Nat → Q} {g : Nat → Q} (hf : BdM n L P f) (hg : BdV n L U g) : ∀ k, BdV n L (k * P + U) (rnd n f k g)
  | 0 => by rw [Nat.zero_mul, Nat.zero_add]; exact hg
  | k + 1 => by
    have := bd_mulV hL hf (bd_rnd hL hf hg k)
    exact this.mono (by rw [Nat.succ_mul]; omega)
theorem pw_add {n : Nat} (f : Nat → Nat → Q) (a : Nat) : ∀ (b i j : Nat), i < n → j < n → mulM n (pw n f a) (pw n f b) i j = pw n f (a + b) i j
  | 0, i, j, hi, hj => mulM_idle _ _ hj
  | b + 1, i, j, hi, hj => by
    show mulM n (pw n f a) (mulM n (pw n f b) f) i j = mulM n (pw n f (a + b)) f i j
    rw [← mulM_assoc]
    exact mulM_congr (fun k hk => pw_add f a b i k hi hk) fun _ _ => rfl
theorem pw_one {n : Nat} (f : Nat → Nat → Q) {i : Nat} (j : Nat) (hi : i < n) : pw n f 1 i j = f i j := idle_mulM f j hi
theorem pw_twice {n : Nat} (f : Nat → Nat → Q) : ∀ (k i j : Nat), i < n → j < n → pw n (mulM n f f) k i j = pw n f (2 * k) i j
  | 0, i, j, hi, hj => rfl
  | k + 1, i, j, hi, hj => by
    show mulM n (pw n (mulM n f f) k) (mulM n f f) i j = mulM n (mulM n (pw n f (2 * k)) f) f i j
    rw [mulM_assoc]
    exact mulM_congr (fun l hl => pw_twice f k i l hi hl) fun _ _ => rfl
theorem pw_comm {n : Nat} (f : Nat → Nat → Q) (k : Nat) {i j : Nat} (hi : i < n) (hj : j < n) : mulM n f (pw n f k) i j = pw n f (k + 1) i j := by
  have := pw_add f 1 k i j hi hj
  rw [Nat.add_comm] at this
  rw [← this]
  exact mulM_congr (fun l _ => (pw_one f l hi).symm) fun _ _ => rfl
theorem pw_rnd {n : Nat} (f : Nat → Nat → Q) (g : Nat → Q) : ∀ (k i : Nat), i < n → mulV n (pw n f k) g i = rnd n f k g i
  | 0, i, hi => idle_mulV g hi
  | k + 1, i, hi => by
    rw [show rnd n f (k + 1) g = mulV n f (rnd n f k g) from rfl]
    have : mulV n (pw n f (k + 1)) g i = mulV n (mulM n f (pw n f k)) g i := mulV_congr (fun l hl => (pw_comm f k hi hl).symm) fun _ _ => rfl
    rw [this, mulV_mulM]
    exact mulV_congr (fun _ _ => rfl) fun l hl => pw_rnd f g k l hl
end LX
namespace LX
open PySem PySem.Spec PyProof.Rows L2 DL
open Builtin.Int (intBits)
theorem mul_b {i j : Int} {m n : Nat} (hi : intBits i ≤ m) (hj : intBits j ≤ n) (h : m + n ≤ 134217728) : mulD (.int i) (.int j) = .ok (.int (i * j)) := mul_i i j (by unfold CMulX; omega)
theorem fdiv_b {i j : Int} {n : Nat} (h0 : j ≠ 0) (hj : intBits j ≤ n) (h : n ≤ 9000) : fdivD (.int i) (.int j) = .ok (.int (i.fdiv j)) := fdiv_i i j ⟨h0, by
  have : intBits j = j.natAbs.log2 + 1 := by unfold intBits; rw [if_neg (by simpa using h0)]
  omega⟩
theorem rng1_ok {n : Nat} (h : n ≤ 1000000) : rng1 [.int n] = .ok (rngL 0 n) := by
  have hb : b62 n = true := by
    unfold b62; rw [Bool.and_eq_true]; exact ⟨decide_eq_true (by omega), decide_eq_true (by omega)⟩
  unfold rng1
  simp only [hb, if_true, Int.toNat_natCast]
theorem bits_of {x : Int} {n : Nat} (h : x.natAbs < 2 ^ n) : intBits x ≤ n := intBits_le_iff.mpr h
theorem rng1_to {n : Nat} (h : n ≤ 1000000) : rng1 [.int (n : Int)] = .ok (rngL 0 n) := rng1_ok h
end LX
namespace LX
open PySem PySem.Spec PyProof.Rows L2 DL
open Builtin.Int (intBits)
def vS (v : List Q) : S := .ow (v.map fun q => .fr (mD q))
def wS (w : List (List Q)) : S := .ow (w.map vS)
theorem vS_toD (v : List Q) : (vS v).toD = vD v := by
  unfold vS vD
  rw [toD_ow, List.map_map]
  rfl
theorem wS_toD (w : List (List Q)) : (wS w).toD = wD w := by
  unfold wS wD
  rw [toD_ow, List.map_map]
  congr 1
  exact List.map_congr_left fun v _ => vS_toD v
theorem vS_flat (v : List Q) : flatS (vS v) = vS v := by
  unfold vS flatS
  simp only [toDs_map, List.map_map]
  first
    | rfl
    | (congr 1; exact List.map_congr_left fun q _ => by simp)
theorem list_V (n : Nat) (g : Nat → Q) : listD (vD (V n g)) = .ok (vS (V n g)) := by
  unfold vD V vS
  show DL.R.ok (S.ow ((((List.range n).map g).map mD).map S.fr)) = _
  rw [List.map_map]; rfl
theorem zipL_map {A B : Type} (f : A → D) (g : B → D) (xs : List A) (ys : List B) : zipL (xs.map f) (ys.map g) = (xs.zip ys).map fun p => .tuple [f p.1, g p.2] := by
  unfold zipL
  rw [List.zipWith_map, List.zip_eq_zipWith, List.map_zipWith]
theorem rngL_map (n : Nat) : rngL 0 n = (List.range n).map fun i => PyData.int (i : Nat) := by
  unfold rngL
  exact List.map_congr_left fun i _ => by simp
theorem zip_V (n : Nat) (f g : Nat → Q) : (V n f).zip (V n g) = (List.range n).map fun k => (f k, g k) := by
  unfold V
  rw [List.zip_map']
def LOk (L : Nat) : Prop := 0 < L ∧ L < 2 ^ 100
theorem Bd.bt' {L P : Nat} (hL : LOk L) {q : Q} (x : Bd L P q) {n : Nat} (h : P < 2 ^ n) (h2 : 100 ≤ n) : Bt n q := Bd.bt hL.1 x h (Nat.lt_of_lt_of_le hL.2 (Nat.pow_le_pow_right (by decide) h2))
theorem lok1 : LOk 27720 := ⟨by decide, by decide⟩
theorem lok2 : LOk 232792560 := ⟨by decide, by decide⟩
theorem rep1 {d : D} {n : Nat} (h : n ≤ 1000000) : repD (.ow [.fr d]) (.int (n : Nat)) = .ok (.ow (List.replicate n (.fr d))) := by
  have hb : b62 (n : Int) = true := by
    unfold b62; rw [Bool.and_eq_true]; exact ⟨decide_eq_true (by omega), decide_eq_true (by omega)⟩
  have hf : ∀ n : Nat, (List.replicate n [d]).flatten = List.replicate n d := fun n => by
    induction n with
    | zero => rfl
    | succ n ih => rw [List.replicate_succ, List.flatten_cons, ih, List.replicate_succ]; rfl
  unfold repD
  simp only [allF, hb, Int.toNat_natCast, Option.map_some]
  rw [if_pos ⟨trivial, by simpa using h⟩, hf, List.map_replicate]
theorem addl {xs ys : List D} (h : xs.length + ys.length ≤ 1000000) : addD (.list xs) (.list ys) = .ok (.list (xs ++ ys)) := by
  rw [add_l, if_pos (Nat.le_trans h (by decide))]
theorem ix_list (ds : List D) {i : Nat} {d : D} (h : ds[i]? = some d) : ixD (.list ds) (.int (i : Nat)) = .ok d := by
  rw [ix_l, DL.atI_nat h]
theorem ix_V {n : Nat} (f : Nat → Q) {i : Nat} (h : i < n) : ixD (vD (V n f)) (.int (i : Nat)) = .ok (mD (f i)) := ix_list _ (by rw [List.getElem?_map, V_get f h]; rfl)
theorem ix_W {n : Nat} (f : Nat → Nat → Q) {i : Nat} (h : i < n) : ixD (wD (W n f)) (.int (i : Nat)) = .ok (vD (V n (f i))) := ix_list _ (by rw [List.getElem?_map, W_get f h]; rfl)
theorem len_V (n : Nat) (f : Nat → Q) : lenD (vD (V n f)) = .ok (.int n) := by
  unfold vD; rw [len_l, List.length_map, V_len]
theorem len_W (n : Nat) (f : Nat → Nat → Q) : lenD (wD (W n f)) = .ok (.int n) := by
  unfold wD; rw [len_l, List.length_map, W_len]
theorem vD_V (n : Nat) (f : Nat → Q) : vD (V n f) = .list ((List.range n).map fun i => mD (f i)) := by
  unfold vD V; rw [List.map_map]; rfl
theorem wD_W (n : Nat) (f : Nat → Nat → Q) : wD (W n f) = .list ((List.range n).map fun i => vD (V n (f i))) := by
  unfold wD W; rw [List.map_map]; rfl
theorem vS_V (n : Nat) (f : Nat → Q) : vS (V n f) = .ow ((List.range n).map fun i => .fr (mD (f i))) := by
  unfold vS V; rw [List.map_map]; rfl
theorem wS_W (n : Nat) (f : Nat → Nat → Q) : wS (W n f) = .ow ((List.range n).map fun i => vS (V n (f i))) := by
  unfold wS W; rw [List.map_map]; rfl
end LX
namespace LX
open PySem PySem.Spec PyProof.Rows L2 DL
open Builtin.Int (intBits)
/-- bounds that are told in every law -/
def SM (n : Nat) (f : Nat → Nat → Q) : Prop := ∀ i j, i < n → j < n → Bt 1900 (f i j)
def SV (n : Nat) (g : Nat → Q) : Prop := ∀ i, i < n → Bt 1900 (g i)
theorem BdM.sm {L n P : Nat} {f : Nat → Nat → Q} (hL : LOk L) (b : BdM n L P f) (h : P < 2 ^ 1900) : SM n f := fun i j hi hj => (b i j hi hj).bt' hL h (by decide)
theorem BdV.sv {L n P : Nat} {g : Nat → Q} (hL : LOk L) (b : BdV n L P g) (h : P < 2 ^ 1900) : SV n g := fun i hi => (b i hi).bt' hL h (by decide)
theorem sh_V {n : Nat} {g : Nat → Q} (hn : n ≤ 30) (b : SV n g) : Sh 114333 2 (vD (V n g)) :=
  (sh_v (n := 1900) (m := 30) (fun q hq => by obtain ⟨i, hi, e⟩ := mem_V hq; rw [e]; exact b i hi) (Nat.le_refl _) (by decide) (by rw [V_len]; exact hn)).mono (by decide) (Nat.le_refl _)
theorem sh_W {n : Nat} {f : Nat → Nat → Q} (hn : n ≤ 30) (b : SM n f) : Sh 3430053 3 (wD (W n f)) :=
  (sh_w (n := 1900) (m := 30) (fun v hv q hq => by
    obtain ⟨i, hi, e⟩ := mem_W hv
    rw [e] at hq
    obtain ⟨j, hj, e2⟩ := mem_V hq
    rw [e2]; exact b i j hi hj) (Nat.le_refl _) (by decide) (fun v hv => by obtain ⟨i, hi, e⟩ := mem_W hv; rw [e, V_len]; exact hn) (by rw [W_len]; exact hn)).mono (by decide) (Nat.le_refl _)
theorem repr_V {n : Nat} {g : Nat → Q} (hn : n ≤ 30) (b : SV n g) : reprD (vD (V n g)) = .ok (.str (vD (V n g)).shown) := repr_ok (sh_V hn b) (by decide) (by decide)
theorem repr_W {n : Nat} {f : Nat → Nat → Q} (hn : n ≤ 30) (b : SM n f) : reprD (wD (W n f)) = .ok (.str (wD (W n f)).shown) := repr_ok (sh_W hn b) (by decide) (by decide)
theorem repr_WV {n m : Nat} {f : Nat → Nat → Q} {g : Nat → Q} (hn : n ≤ 30) (hm : m ≤ 30) (b : SM n f) (c : SV m g) : reprD (.list [wD (W n f), vD (V m g)]) = .ok (.str (PyData.list [wD (W n f), vD (V m g)]).shown) :=
  repr_ok (sh_list (n := 2) (B := 3430053) (k := 3) (fun x hx => by
    rcases List.mem_cons.mp hx with e | e
    · rw [e]; exact sh_W hn b
    · rw [List.mem_singleton.mp e]; exact (sh_V hm c).mono (by decide) (by decide)) (Nat.le_refl 2)) (by decide) (by decide)
theorem repr_WW {n m : Nat} {f g : Nat → Nat → Q} (hn : n ≤ 30) (hm : m ≤ 30) (b : SM n f) (c : SM m g) : reprD (.list [wD (W n f), wD (W m g)]) = .ok (.str (PyData.list [wD (W n f), wD (W m g)]).shown) :=
  repr_ok (sh_list (n := 2) (B := 3430053) (k := 3) (fun x hx => by
    rcases List.mem_cons.mp hx with e | e
    · rw [e]; exact sh_W hn b
    · rw [List.mem_singleton.mp e]; exact sh_W hm c) (Nat.le_refl 2)) (by decide) (by decide)
theorem ne_VV {n m : Nat} (f g : Nat → Q) : neD (vD (V n f)) (vD (V m g)) = .ok (.bool (!decide (V n f = V m g))) := eqe_v.neD (by decide) _ _
theorem eq_VV {n m : Nat} (f g : Nat → Q) : eqD (vD (V n f)) (vD (V m g)) = .ok (.bool (decide (V n f = V m g))) := eqe_v.eqD (by decide) _ _
theorem ne_WW {n m : Nat} (f g : Nat → Nat → Q) : neD (wD (W n f)) (wD (W m g)) = .ok (.bool (!decide (W n f = W m g))) := eqe_w.neD (by decide) _ _
theorem eq_WW {n m : Nat} (f g : Nat → Nat → Q) : eqD (wD (W n f)) (wD (W m g)) = .ok (.bool (decide (W n f = W m g))) := eqe_w.eqD (by decide) _ _
theorem ne_V (n : Nat) (f : Nat → Q) : neD (vD (V n f)) (vD (V n f)) = .ok (.bool false) := by rw [ne_VV]; simp
theorem ne_W (n : Nat) (f : Nat → Nat → Q) : neD (wD (W n f)) (wD (W n f)) = .ok (.bool false) := by rw [ne_WW]; simp
theorem eq_W (n : Nat) (f : Nat → Nat → Q) : eqD (wD (W n f)) (wD (W n f)) = .ok (.bool true) := by rw [eq_WW]; simp
theorem ne_s (a : Str) : neD (.str a) (.str a) = .ok (.bool false) := by rw [ne_str]; simp
theorem eq_s (a : Str) : eqD (.str a) (.str a) = .ok (.bool true) := by rw [eq_str]; simp
end LX
namespace LX
open PySem PySem.Spec PyProof.Rows L2 DL
open Builtin.Int (intBits)
theorem sq_of {T U : En → SR} {env e1 : En} {r : SR} (h : T env = .nx e1) (h2 : U e1 = r) : sqS T U env = r := by
  rw [e_sqS, h, sq_nx, h2]
theorem endR_sq {T U : En → SR} {env e1 : En} {r : DL.R S} (h : T env = .nx e1) (h2 : endR (U e1) = r) : endR (sqS T U env) = r := by
  rw [e_sqS, h, sq_nx, h2]
theorem endR_of {a r : SR} {s : DL.R S} (h : a = r) (h2 : endR r = s) : endR a = s := by rw [h, h2]
theorem fnS_of {is : List Nat} {T : En → SR} {env e1 e2 : En} (h : T env = .nx e1) (h2 : fgE e1 is = e2) : fnS is T env = .nx e2 := by
  rw [e_fnS, h, fin_nx, h2]
theorem e_whileS {fuel : En → Nat} {t : En → DL.R Bool} {T : En → SR} {env : En} : whileS fuel t T env = whileF t T (fuel env) env := rfl
end LX
namespace LX
open PySem PySem.Spec PyProof.Rows L2 DL
open Builtin.Int (intBits)
theorem comp_rng {vs : List Nat} {i n : Nat} {fs : En → DL.R (List D)} {elt : En → DL.R S} {env : En} {g : Nat → S} (ha : fs env = .ok [.int (n : Nat)]) (hn : n ≤ 1000000)
    (h : ∀ k, k < n → elt ((wipeE env vs).set i (some (.v (.fr (.int (k : Nat)))))) = .ok (g k)) : compR vs (cal fs rng1) (setN i) yesT elt env = .ok (.ow ((List.range n).map g)) := by
  have hc := compF_map (b := setN i) (f := elt) (env := wipeE env vs) (fun k : Nat => PyData.int (k : Nat)) g (List.range n) (fun k hk => ⟨_, rfl, h k (List.mem_range.mp hk)⟩)
  rw [e_compR, e_cal, ha, R.bind_ok, rng1_ok hn, R.bind_ok, rngL_map, if_pos (by rw [List.length_map, List.length_range]; exact hn), hc]
theorem comp_seq {A : Type} {vs : List Nat} {i : Nat} {fa : En → DL.R D} {elt : En → DL.R S} {env : En} {xs : List A} (cd : A → D) (g : A → S) (ha : fa env = .ok (.list (xs.map cd))) (hn : xs.length ≤ 1000000)
    (h : ∀ x ∈ xs, elt ((wipeE env vs).set i (some (.v (.fr (cd x))))) = .ok (g x)) : compR vs (seqR fa) (setN i) yesT elt env = .ok (.ow (xs.map g)) := by
  have hc := compF_map (b := setN i) (f := elt) (env := wipeE env vs) cd g xs (fun x hx => ⟨_, rfl, h x hx⟩)
  have e : seqR fa env = .ok (xs.map cd) := by unfold seqR; rw [ha]; rfl
  rw [e_compR, e, R.bind_ok, if_pos (by rw [List.length_map]; exact hn), hc]
theorem comp_zip {A B : Type} {vs : List Nat} {i j : Nat} {fs : En → DL.R (List D)} {elt : En → DL.R S} {env : En} {xs : List A} {ys : List B} (cd : A → D) (ce : B → D) (g : A → B → S) (ha : fs env = .ok [.list (xs.map cd), .list (ys.map ce)]) (hn : xs.length ≤ 1000000)
    (h : ∀ x y, (x, y) ∈ xs.zip ys → elt (((wipeE env vs).set i (some (.v (.fr (cd x))))).set j (some (.v (.fr (ce y))))) = .ok (g x y)) :
    compR vs (cal fs zip2) (tupG 2 (consG (setN i) (consG (setN j) nilG))) yesT elt env = .ok (.ow ((xs.zip ys).map fun p => g p.1 p.2)) := by
  have hc := compF_map (b := tupG 2 (consG (setN i) (consG (setN j) nilG))) (f := elt) (env := wipeE env vs) (fun p : A × B => PyData.tuple [cd p.1, ce p.2]) (fun p => g p.1 p.2) (xs.zip ys) (fun p hp => ⟨_, rfl, h p.1 p.2 hp⟩)
  have e : zip2 [.list (xs.map cd), .list (ys.map ce)] = .ok ((xs.zip ys).map fun p : A × B => PyData.tuple [cd p.1, ce p.2]) := by
    show DL.R.ok (zipL (xs.map cd) (ys.map ce)) = _
    rw [zipL_map]
  rw [e_compR, e_cal, ha, R.bind_ok, e, R.bind_ok, if_pos (by rw [List.length_map, List.length_zip]; omega), hc]
end LX
namespace LX
open PySem PySem.Spec PyProof.Rows L2 DL
open Builtin.Int (intBits)
/-! draws -/
def stepD (free : Bool) (s : List Int × Int × Int) (l : Int) : List Int × Int × Int :=
  if free = true ∧ s.2.1 > 1 then (s.1 ++ [s.2.1.fmod l], s.2.1.fdiv l, s.2.2)
  else (s.1 ++ [(((((s.2.2 * 48271 + 11).fmod 2147483647) * 69621 + 7).fmod 2147483647).fdiv 13).fmod l], s.2.1, (((s.2.2 * 48271 + 11).fmod 2147483647) * 69621 + 7).fmod 2147483647)
def frD0 (c : Int) : Bool := if c < 0 then true else decide (1000000000000000000 ≤ c)
def drawL (c : Int) (ls : List Int) : List Int := (ls.foldl (stepD (frD0 c)) ([], (c.natAbs : Int), ((c.natAbs : Int).fmod 2147483647))).1
theorem st_lo (x : Int) : 0 ≤ x.fmod 2147483647 ∧ x.fmod 2147483647 < 2147483647 := ⟨Int.fmod_nonneg_of_pos _ (by decide), Int.fmod_lt_of_pos _ (by decide)⟩
theorem draws_ok {c : Int} {ls : List Int} (hl : ∀ l ∈ ls, 0 < l ∧ l < 2 ^ 60) (hn : ls.length ≤ 1000) : g__law_draws [.int c, .list (ls.map .int)] = .ok (.ow ((drawL c ls).map fun i => .fr (.int i))) := by
  rw [b__law_draws]
  have hw := @forF_goI (List Int × Int × Int) Int (setN 6)
    (fnS [6] (ifS (andT (truR (vf 5)) (t2 (vf 3) (cI 1) gtD)) (sqS (apS 2 (frR (b2 (cal (consA (vf 3) nilA) (one DL.intD)) (vf 6) modD))) (asS 3 (b2 (vf 3) (vf 6) fdivD)))
      (sqS (asS 4 (b2 (cal (consA (b2 (b2 (vf 4) (cI 48271) mulD) (cI 11) addD) nilA) (one DL.intD)) (cI 2147483647) modD))
      (sqS (asS 4 (b2 (cal (consA (b2 (b2 (vf 4) (cI 69621) mulD) (cI 7) addD) nilA) (one DL.intD)) (cI 2147483647) modD))
      (apS 2 (frR (b2 (cal (consA (b2 (vf 4) (cI 13) fdivD) nilA) (one DL.intD)) (vf 6) modD)))))))
    (fun s => [some (.v (.fr (.int c))), some (.v (.fr (.list (ls.map .int)))), some (.v (.ow (s.1.map fun i => .fr (.int i)))), some (.v (.fr (.int s.2.1))), some (.v (.fr (.int s.2.2))), some (.v (.fr (.bool (frD0 c)))), none])
    .int (stepD (frD0 c)) ls ([], (c.natAbs : Int), ((c.natAbs : Int).fmod 2147483647))
    (fun s rest => s.1.length + rest.length ≤ 1000 ∧ (∀ l ∈ rest, 0 < l ∧ l < 2 ^ 60) ∧ 0 ≤ s.2.2 ∧ s.2.2 < 2147483647)
    ⟨by simpa using hn, hl, st_lo _⟩
    (fun s l rest h => by
      obtain ⟨xs, r, t⟩ := s
      obtain ⟨h1, h2, h3, h4⟩ := h
      simp only at h1 h3 h4
      obtain ⟨l0, l1⟩ := h2 l List.mem_cons_self
      have hrest : ∀ x ∈ rest, 0 < x ∧ x < 2 ^ 60 := fun x m => h2 x (List.mem_cons_of_mem _ m)
      have hlen : xs.length + 1 + rest.length ≤ 1000 := by rw [List.length_cons] at h1; omega
      have ez : l ≠ 0 := by omega
      have e1 : ∀ i : Int, modD (.int i) (.int l) = .ok (.int (i.fmod l)) := fun i => mod_i _ _ ez
      have e2 : ∀ i : Int, fdivD (.int i) (.int l) = .ok (.int (i.fdiv l)) := fun i => fdiv_b (n := 60) ez (bits_of (by omega)) (by decide)
      have e3 : ∀ i : Int, modD (.int i) (.int 2147483647) = .ok (.int (i.fmod 2147483647)) := fun i => mod_i _ _ (by decide)
      have e4 : ∀ i : Int, fdivD (.int i) (.int 13) = .ok (.int (i.fdiv 13)) := fun i => fdiv_b (n := 4) (by decide) (by decide) (by decide)
      have e5 : ∀ i j : Int, 0 ≤ i → i < 2147483647 → intBits j ≤ 20 → mulD (.int i) (.int j) = .ok (.int (i * j)) := fun i j p q w => mul_b (m := 31) (bits_of (by omega)) w (by decide)
      have e6 := e5 t 48271 h3 h4 (by decide)
      have e7 := e5 ((t * 48271 + 11).fmod 2147483647) 69621 (st_lo _).1 (st_lo _).2 (by decide)
      have hx : (xs.map fun i => S.fr (.int i)).length < 1000000 := by rw [List.length_map]; omega
      by_cases hf : frD0 c = true ∧ r > 1
      · have g1 : (decide (1 < r)) = true := decide_eq_true hf.2
        refine ⟨_, rfl, ?_, ?_⟩
        · simp -implicitDefEqProofs [stepD, hf.1, hf.2, g1, e1, e2, apS_at, show xs.length < 1000000 by omega]
        · simp only [stepD, hf.1, hf.2, and_self, if_true]
          refine ⟨by simpa using hlen, hrest, h3, h4⟩
      · refine ⟨_, rfl, ?_, ?_⟩
        · cases hf1 : frD0 c with
          | false => simp -implicitDefEqProofs [stepD, hf1, e1, e3, e4, e6, e7, apS_at, show xs.length < 1000000 by omega]
          | true =>
            have hr : ¬ (1 < r) := fun z => hf ⟨hf1, z⟩
            simp -implicitDefEqProofs [stepD, hf1, hr, e1, e3, e4, e6, e7, apS_at, show xs.length < 1000000 by omega]
        · simp only [stepD, if_neg hf]
          refine ⟨by simpa using hlen, hrest, st_lo _⟩)
  have e0 : modD (.int (c.natAbs : Int)) (.int 2147483647) = .ok (.int ((c.natAbs : Int).fmod 2147483647)) := mod_i _ _ (by decide)
  have e1 : powD (.int 10) (.int 18) = .ok (.int 1000000000000000000) := by rw [pow_i _ _ (by decide)]; rfl
  simp -implicitDefEqProofs at hw
  unfold drawL
  by_cases hc : c < 0
  · have hz : frD0 c = true := by unfold frD0; rw [if_pos hc]
    rw [hz] at hw ⊢
    simp -implicitDefEqProofs [T__law_draws, e0, hc, hw]
  · have hz : frD0 c = decide (1000000000000000000 ≤ c) := by unfold frD0; rw [if_neg hc]
    rw [hz] at hw ⊢
    simp -implicitDefEqProofs [T__law_draws, e0, e1, hc, hw]
theorem draw_inv (free : Bool) : ∀ (ls : List Int) (s : List Int × Int × Int) (pr : List Int), s.1.length = pr.length → (∀ l ∈ ls, 0 < l) → (∀ i, i < pr.length → 0 ≤ s.1.getD i 0 ∧ s.1.getD i 0 < pr.getD i 0) →
    (ls.foldl (stepD free) s).1.length = (pr ++ ls).length ∧ ∀ i, i < (pr ++ ls).length → 0 ≤ (ls.foldl (stepD free) s).1.getD i 0 ∧ (ls.foldl (stepD free) s).1.getD i 0 < (pr ++ ls).getD i 0
  | [], s, pr, h1, _, h2 => by simpa using ⟨h1, h2⟩
  | l :: ls, s, pr, h1, h0, h2 => by
    have hl := h0 l List.mem_cons_self
    have key : ∃ x, (stepD free s l).1 = s.1 ++ [x] ∧ 0 ≤ x ∧ x < l := by
      unfold stepD
      split
      · exact ⟨_, rfl, Int.fmod_nonneg_of_pos _ hl, Int.fmod_lt_of_pos _ hl⟩
      · exact ⟨_, rfl, Int.fmod_nonneg_of_pos _ hl, Int.fmod_lt_of_pos _ hl⟩
    obtain ⟨x, k1, k2, k3⟩ := key
    have ih := draw_inv free ls (stepD free s l) (pr ++ [l]) (by rw [k1]; simp [h1]) (fun y m => h0 y (List.mem_cons_of_mem _ m)) (fun i hi => by
      rw [k1]
      by_cases hp : i < pr.length
      · have := h2 i hp
        rw [List.getD_eq_getElem?_getD, List.getD_eq_getElem?_getD] at this
        rw [List.getD_eq_getElem?_getD, List.getD_eq_getElem?_getD, List.getElem?_append_left (by omega), List.getElem?_append_left hp]
        exact this
      · have he : i = pr.length := by simp at hi; omega
        subst he
        rw [List.getD_eq_getElem?_getD, List.getD_eq_getElem?_getD, List.getElem?_append_right (by omega), List.getElem?_append_right (by omega), h1]
        simpa using ⟨k2, k3⟩)
    simpa using ih
theorem drawL_ok {c : Int} {ls : List Int} (hl : ∀ l ∈ ls, 0 < l) : (drawL c ls).length = ls.length ∧ ∀ i, i < ls.length → 0 ≤ (drawL c ls).getD i 0 ∧ (drawL c ls).getD i 0 < ls.getD i 0 := by
  have := draw_inv (frD0 c) ls ([], (c.natAbs : Int), ((c.natAbs : Int).fmod 2147483647)) [] rfl hl (fun i h => absurd h (Nat.not_lt_zero _))
  unfold drawL
  simpa using this
theorem gl_len1 {xs : List Int} {n : Nat} (h : xs.length = n + 1) : ∃ x ys, xs = x :: ys ∧ ys.length = n := by
  cases xs with
  | nil => simp at h
  | cons x ys => exact ⟨x, ys, rfl, by simpa using h⟩
end LX
namespace LX
open PySem PySem.Spec PyProof.Rows L2 DL
open Builtin.Int (intBits)
/-! the greatest common divisor -/
def stepG (s : Nat × Nat) (_ : Nat) : Sum (Nat × Nat) SR := if s.2 = 0 then .inr (.rt (.fr (.int s.1))) else .inl (s.2, s.1 % s.2)
theorem foldG : ∀ (ds : List Nat) (n a b : Nat), n < ds.length → b ≤ a → a * b < 2 ^ n → foldX stepG ds (a, b) = .inr (.rt (.fr (.int (Nat.gcd a b))))
  | [], n, a, b, h, _, _ => absurd h (Nat.not_lt_zero _)
  | d :: ds, n, a, b, h, hb, hm => by
    unfold foldX
    by_cases hz : b = 0
    · subst hz; simp [stepG]
    · simp only [stepG, hz, if_false]
      cases n with
      | zero => exact absurd (Nat.mul_eq_zero.mp (Nat.lt_one_iff.mp hm)) (by omega)
      | succ n =>
        have hr := Nat.mod_lt a (Nat.pos_of_ne_zero hz)
        have e : 2 * (a % b) ≤ a := by
          have h1 := Nat.div_add_mod a b
          have h2 : 1 ≤ a / b := (Nat.one_le_div_iff (Nat.pos_of_ne_zero hz)).mpr hb
          have h3 : b * 1 ≤ b * (a / b) := Nat.mul_le_mul_left b h2
          omega
        have h4 : 2 * (b * (a % b)) ≤ a * b := by
          have h5 := Nat.mul_le_mul_left b e
          rw [Nat.mul_comm a b]
          calc 2 * (b * (a % b)) = b * (2 * (a % b)) := by rw [Nat.mul_left_comm]
            _ ≤ b * a := h5
        have ih := foldG ds n b (a % b) (by simpa using h) (Nat.le_of_lt hr) (by rw [Nat.pow_succ] at hm; omega)
        rw [ih, Nat.gcd_comm a b, Nat.gcd_rec b a, Nat.gcd_comm]
theorem foldG' {ds : List Nat} {n a b : Nat} (h : n + 1 < ds.length) (hm : a * b < 2 ^ n) : foldX stepG ds (a, b) = .inr (.rt (.fr (.int (Nat.gcd a b)))) := by
  by_cases hb : b ≤ a
  · exact foldG ds n a b (by omega) hb hm
  · cases ds with
    | nil => exact absurd h (Nat.not_lt_zero _)
    | cons d ds =>
      unfold foldX
      simp only [stepG, show b ≠ 0 by omega, if_false, Nat.mod_eq_of_lt (show a < b by omega)]
      rw [foldG ds n b a (by simpa using h) (by omega) (by rwa [Nat.mul_comm]), Nat.gcd_comm]
theorem nab (i : Int) : (if i < 0 then -i else i) = (i.natAbs : Int) := by omega
theorem gcd_ok {a b : Int} {m n : Nat} (ha : intBits a ≤ m) (hb : intBits b ≤ n) (h : m + n ≤ 900000) : g__law_gcd [.int a, .int b] = .ok (.fr (.int (Nat.gcd a.natAbs b.natAbs))) := by
  rw [b__law_gcd]
  have hA : intBits (a.natAbs : Int) = intBits a := by unfold intBits; simp
  have hB : intBits (b.natAbs : Int) = intBits b := by unfold intBits; simp
  have hl := @forF_fold (Nat × Nat) Nat (setN 2) (fnS [2, 3] (sqS (ifS (t2 (vf 1) (cI 0) eqD) (rtS (vf 0)) nxS) (sqS (asS 3 (b2 (cal (consA (vf 0) nilA) (one intD)) (vf 1) modD)) (sqS (asS 0 (vf 1)) (asS 1 (vf 3))))))
    (fun s => [some (.v (.fr (.int s.1))), some (.v (.fr (.int s.2))), none, none]) (fun i => .int (0 + (i : Nat))) stepG (List.range (intBits a + intBits b + 4)) (a.natAbs, b.natAbs) (fun _ => True) trivial
    (fun s d _ _ => by
      refine ⟨_, rfl, ?_, fun _ _ => trivial⟩
      obtain ⟨x, y⟩ := s
      by_cases hz : y = 0
      · subst hz
        simp -implicitDefEqProofs [stepG, turnO]
      · have e : modD (.int x) (.int y) = .ok (.int (x % y : Nat)) := by
          rw [mod_i _ _ (by omega), Int.fmod_eq_emod_of_nonneg _ (by omega)]
          simp
        have e2 : ((y : Int) == 0) = false := by simp [hz]
        simp -implicitDefEqProofs [stepG, turnO, hz, e, e2])
  rw [foldG' (n := intBits a + intBits b) (by simp) (by
    have h1 : a.natAbs < 2 ^ intBits a := intBits_le_iff.mp (Nat.le_refl _)
    have h2 : b.natAbs < 2 ^ intBits b := intBits_le_iff.mp (Nat.le_refl _)
    rw [Nat.pow_add]
    exact Nat.mul_lt_mul_of_lt_of_le h1 (Nat.le_of_lt h2) (Nat.two_pow_pos _))] at hl
  have hr : rng1 [.int ((intBits a : Int) + (intBits b : Int) + 4)] = .ok (rngL 0 (intBits a + intBits b + 4)) := by
    have z := rng1_ok (n := intBits a + intBits b + 4) (by omega)
    rw [← z]; simp
  unfold rngL at hr
  simp -implicitDefEqProofs [T__law_gcd, hA, hB, hr]
  simp [outO] at hl
  rw [hl]
  rfl
end LX
namespace LX
open PySem PySem.Spec PyProof.Rows L2 DL
open Builtin.Int (intBits)
theorem lawfr_ok {t l : Int} (h : l ≠ 0) (ht : intBits t ≤ 4000) (hl : intBits l ≤ 4000) : g__law_fraction [.int t, .int l] = .ok (.fr (frD t l)) := by
  rw [b__law_fraction]
  have e1 := gcd_ok ht hl (by decide)
  have e2 := @fdiv_b t (dv t l) 4000 (dv_ne h) (dv_bits h hl) (by decide)
  have e3 := @fdiv_b l (dv t l) 4000 (dv_ne h) (dv_bits h hl) (by decide)
  by_cases hz : l < 0
  · simp only [dv, gc, hz, if_true] at e2 e3
    simp -implicitDefEqProofs [T__law_fraction, e1, hz, e2, e3, frD, dv, gc]
  · simp only [dv, gc, hz, if_false] at e2 e3
    simp -implicitDefEqProofs [T__law_fraction, e1, hz, e2, e3, frD, dv, gc]
theorem lawfr_q {t l : Int} (h : l ≠ 0) (ht : intBits t ≤ 4000) (hl : intBits l ≤ 4000) : g__law_fraction [.int t, .int l] = .ok (.fr (qD (Rat.divInt t l))) := by
  rw [lawfr_ok h ht hl, frD_q h]
end LX
namespace LX
open PySem PySem.Spec PyProof.Rows L2 DL
open Builtin.Int (intBits)
theorem isNo_q (q : Rat) : isNo (qD q) = false := rfl
theorem ix_q0 (q : Rat) : ixD (qD q) (.int 0) = .ok (.int q.num) := rfl
theorem ix_q1 (q : Rat) : ixD (qD q) (.int 1) = .ok (.int (q.den : Int)) := rfl
theorem isNo_mD (q : Q) : isNo (mD q) = q.isNone := by cases q <;> rfl
end LX
namespace LX
open PySem PySem.Spec PyProof.Rows L2 DL
open Builtin.Int (intBits)
theorem div12 {d : Int} (h1 : 1 ≤ d) (h2 : d ≤ 12) : ∃ k : Int, 0 < k ∧ k ≤ 27720 ∧ d * k = 27720 := by
  rcases (by omega : d = 1 ∨ d = 2 ∨ d = 3 ∨ d = 4 ∨ d = 5 ∨ d = 6 ∨ d = 7 ∨ d = 8 ∨ d = 9 ∨ d = 10 ∨ d = 11 ∨ d = 12) with rfl | rfl | rfl | rfl | rfl | rfl | rfl | rfl | rfl | rfl | rfl | rfl
  · exact ⟨27720, by decide, by decide, by decide⟩
  · exact ⟨13860, by decide, by decide, by decide⟩
  · exact ⟨9240, by decide, by decide, by decide⟩
  · exact ⟨6930, by decide, by decide, by decide⟩
  · exact ⟨5544, by decide, by decide, by decide⟩
  · exact ⟨4620, by decide, by decide, by decide⟩
  · exact ⟨3960, by decide, by decide, by decide⟩
  · exact ⟨3465, by decide, by decide, by decide⟩
  · exact ⟨3080, by decide, by decide, by decide⟩
  · exact ⟨2772, by decide, by decide, by decide⟩
  · exact ⟨2520, by decide, by decide, by decide⟩
  · exact ⟨2310, by decide, by decide, by decide⟩
theorem bd_div {t d : Int} {N : Nat} (h1 : 1 ≤ d) (h2 : d ≤ 12) (ht : t.natAbs ≤ N) : Bd 27720 (N * 27720) (some (Rat.divInt t d)) := by
  obtain ⟨k, k1, k2, k3⟩ := div12 h1 h2
  refine ⟨t * k, ?_, ?_⟩
  · have : ((27720 : Nat) : Int) = d * k := k3.symm
    rw [this, Rat.divInt_mul_right (by omega)]
  · rw [Int.natAbs_mul]
    exact Nat.mul_le_mul ht (by omega)
theorem one_div (t : Int) : PyData.tuple [.int t, .int 1] = qD (Rat.divInt t 1) := by
  rw [← frD_q (by decide)]
  unfold frD dv gc
  simp
theorem lsmall_q (c o : Int) : ∃ q : Q, g__law_small [.int c, .int o] = .ok (.fr (mD q)) ∧ Bd 27720 194040 q := by
  rw [b__law_small]
  have hp : ∀ l ∈ ([10, 15, 12] : List Int), 0 < l ∧ l < 2 ^ 60 := by decide
  have e1 := @draws_ok c [10, 15, 12] hp (by decide)
  obtain ⟨hlen, hget⟩ := @drawL_ok c [10, 15, 12] (fun l m => (hp l m).1)
  generalize drawL c [10, 15, 12] = ds at *
  obtain ⟨x0, t0, rfl, l0⟩ := gl_len1 hlen
  obtain ⟨x1, t1, rfl, l1⟩ := gl_len1 l0
  obtain ⟨x2, t2, rfl, l2⟩ := gl_len1 l1
  have hds : t2 = [] := List.length_eq_zero_iff.mp l2
  subst hds
  have h0 := hget 0 (by decide)
  have h1 := hget 1 (by decide)
  have h2 := hget 2 (by decide)
  simp at h0 h1 h2
  simp -implicitDefEqProofs at e1
  by_cases c0 : x0 < o
  · refine ⟨none, ?_, trivial⟩
    simp -implicitDefEqProofs [T__law_small, e1, c0, mD]
  by_cases c1 : x0 = 9
  · subst c1
    have n0 : 1 + x2 ≠ 0 := by omega
    have b1 : intBits (x1 - 7) ≤ 5 := bits_of (by omega)
    have b2 : intBits (1 + x2) ≤ 5 := bits_of (by omega)
    have e2 := lawfr_q n0 (Nat.le_trans b1 (by decide)) (Nat.le_trans b2 (by decide))
    have i2 : ixD (.list [.int 9, .int x1, .int x2]) (.int 2) = .ok (.int x2) := by rw [ix_l, atI_of (by decide) rfl]
    refine ⟨some (Rat.divInt (x1 - 7) (1 + x2)), ?_, bd_div (N := 7) (by omega) (by omega) (by omega)⟩
    simp -implicitDefEqProofs [T__law_small, e1, c0, i2, e2, mD]
  · refine ⟨some (Rat.divInt (x1 - 7) 1), ?_, bd_div (N := 7) (by decide) (by decide) (by omega)⟩
    have z1 : (x0 == 9) = false := by simp [c1]
    simp -implicitDefEqProofs [T__law_small, e1, c0, z1, mD, ← one_div]
end LX
namespace LX
open PySem PySem.Spec PyProof.Rows L2 DL
open Builtin.Int (intBits)
theorem int_div (f : Int) : Rat.divInt f 1 = (f : Rat) := by
  show mkRat f 1 = _
  exact Rat.mkRat_one f
theorem ltimes_q {L P N : Nat} (hL : LOk L) {q : Rat} {f : Int} (hq : Bd L P (some q)) (hf : f.natAbs ≤ N) (h1 : P < 2 ^ 900) (h2 : N < 2 ^ 900) : ∃ r : Rat, g__law_times [qD q, .int f] = .ok (.fr (qD r)) ∧ r = q * (f : Rat) ∧ Bd L (P * N) (some r) := by
  rw [b__law_times]
  obtain ⟨b1, b2⟩ := hq.bt' hL h1 (by decide)
  have d0 : (q.den : Int) ≠ 0 := by have := q.den_nz; omega
  have bf : intBits f ≤ 900 := bits_of (Nat.lt_of_le_of_lt hf h2)
  have e1 := mul_b b1 bf (by decide)
  have e2 := @lawfr_q (q.num * f) q.den d0 (Nat.le_trans (intBits_mul_le b1 bf) (by decide)) (Nat.le_trans b2 (by decide))
  have e3 : Rat.divInt (q.num * f) q.den = q * (f : Rat) := by
    have := Rat.divInt_mul_divInt q.num f (d₁ := (q.den : Int)) (d₂ := 1)
    rw [qD_div, Int.mul_one] at this
    rw [← this, int_div]
  refine ⟨Rat.divInt (q.num * f) q.den, ?_, e3, ?_⟩
  · simp -implicitDefEqProofs [T__law_times, ix_q0, ix_q1, e1, e2]
  · obtain ⟨p, e, hp⟩ := hq
    refine ⟨p * f, ?_, by rw [Int.natAbs_mul]; exact Nat.mul_le_mul hp hf⟩
    rw [e3, e]
    have := Rat.divInt_mul_divInt p f (d₁ := (L : Int)) (d₂ := 1)
    rw [Int.mul_one] at this
    rw [← this, int_div]
end LX
namespace LX
open PySem PySem.Spec PyProof.Rows L2 DL
open Builtin.Int (intBits)
def tp (a b : Int) : D := .tuple [.int a, .int b]
/-- a moment of a law: none, or a fraction with small parts -/
def Mo (N : Nat) (m : D) : Prop := m = .none ∨ ∃ a b : Int, m = tp a b ∧ 0 < b ∧ intBits a ≤ N ∧ intBits b ≤ N
theorem frD_mo {t l : Int} {N : Nat} (h : l ≠ 0) (ht : intBits t ≤ N) (hl : intBits l ≤ N) : ∃ a b : Int, frD t l = tp a b ∧ 0 < b ∧ intBits a ≤ N ∧ intBits b ≤ N := by
  refine ⟨_, _, rfl, ?_, intBits_fdiv_le ht, intBits_fdiv_le hl⟩
  have h2 : (dv t l) ∣ l := by
    have h2 : ((gc t l : Nat) : Int) ∣ l := by unfold gc; exact Int.ofNat_dvd_left.mpr (Nat.gcd_dvd_right _ _)
    unfold dv
    split
    · exact Int.neg_dvd.mpr h2
    · exact h2
  obtain ⟨q, hq⟩ := h2
  have hn := dv_ne (t := t) h
  have e : l.fdiv (dv t l) = q := by
    conv => lhs; lhs; rw [hq]
    exact Int.mul_fdiv_cancel_left _ hn
  rw [e]
  have hg := gc_pos (t := t) h
  by_cases hz : l < 0
  · have hd : dv t l = -(gc t l : Int) := by unfold dv; rw [if_pos hz]
    rw [hd] at hq
    refine Int.lt_of_not_ge fun hq0 => ?_
    have := Int.mul_nonneg_of_nonpos_of_nonpos (a := -(gc t l : Int)) (b := q) (by omega) hq0
    omega
  · have hd : dv t l = (gc t l : Int) := by unfold dv; rw [if_neg hz]
    rw [hd] at hq
    refine Int.lt_of_not_ge fun hq0 => ?_
    have := Int.mul_nonpos_of_nonneg_of_nonpos (a := (gc t l : Int)) (b := q) (by omega) hq0
    omega
end LX
namespace LX
open PySem PySem.Spec PyProof.Rows L2 DL
open Builtin.Int (intBits)
theorem isNo_tp {x y : Int} : isNo (tp x y) = false := rfl
/-! the drawn work -/
def PW : Nat := 194040 * 1000000000
def Mq (m : D) : Prop := ∃ q : Q, m = mD q ∧ Bd 27720 PW q
def rowS (r : List D) : S := .ow (r.map .fr)
def workS (rows : List (List D)) : S := .ow (rows.map rowS)
/-- a work of n rows of n small moments -/
structure Wk (n : Nat) (rows : List (List D)) : Prop where
  len : rows.length = n
  row : ∀ r ∈ rows, r.length = n ∧ ∀ m ∈ r, Mq m
noncomputable def TJ : En → SR :=
  (sqS (asS 11 (b2 (b2 (vf 8) (vf 5) mulD) (vf 10) addD))
  (sqS (asS 12 (b2 (cI 31) (vf 11) mulD))
  (sqS (ifS (t2 (cal (consA (vf 1) nilA) (one lenD)) (cI 0) gtD)
  (asS 12 (b2 (cal (consA (b2 (vf 1) (b2 (vf 11) (cal (consA (vf 1) nilA) (one lenD)) modD) ixD) nilA) (one intD)) (b2 (b2 (cI 31) (b2 (vf 11) (cal (consA (vf 1) nilA) (one lenD)) fdivD) mulD) (cI 7) mulD) addD))
  nxS)
  (sqS (asS 13 (unO (cal (consA (vf 12) (consA (vf 6) nilA)) g__law_small)))
  (sqS (ifS (t2 (vf 13) cN isNotD)
  (asS 13 (unO (cal (consA (vf 13) (consA (vf 4) nilA)) g__law_times)))
  nxS)
  (apS 9 (frR (vf 13))))))))
noncomputable def TI : En → SR :=
  (sqS (asO 9 (lstR nilA))
  (sqS (fgS [10, 11, 12, 13] (forS (cal (consA (vf 5) nilA) rng1) (setN 10)
  (fnS [10, 11, 12, 13] TJ)))
  (apV 7 9)))
noncomputable def TB3 : En → SR :=
  (ifS (t2 (vf 10) (vf 8) gtD)
  (sqS (alS 7 9 (rfX 7 (rfV 7) (vf 8)) (frR cN) (vf 10)) nxS)
  nxS)
noncomputable def TB2 : En → SR :=
  (fgS [9, 10] (forS (cal (consA (vf 5) nilA) rng1) (setN 10)
  (fnS [9, 10] TB3)))
section
variable (c : D) (cells : List Int) (mo dr : D) (f : Int) (n : Nat) (o : Int)
/-- the slots within the filling loops -/
def eW (w : Option Sl) (i row j : Option Sl) : En := [some (.v (.fr c)), some (.v (.fr (.list (cells.map .int)))), some (.v (.fr mo)), some (.v (.fr dr)), some (.v (.fr (.int f))), some (.v (.fr (.int n))), some (.v (.fr (.int o))), w, i, row, j, none, none, none]
theorem turnJ {w : Option Sl} {i j : Nat} {r : List D} (hc : cells.length ≤ 1000) (hn : n ≤ 1000) (hi : i < n) (hj : j < n) (hf : f.natAbs ≤ 1000000000) (hr : r.length = j) (hm : ∀ m ∈ r, Mq m) :
    ∃ m, Mq m ∧ (fnS [10, 11, 12, 13] TJ) (eW c cells mo dr f n o w (some (.v (.fr (.int i)))) (some (.v (rowS r))) (some (.v (.fr (.int j))))) = .nx (eW c cells mo dr f n o w (some (.v (.fr (.int i)))) (some (.v (rowS (r ++ [m])))) none) := by
  have bi : intBits (i : Int) ≤ 10 := bits_of (by omega)
  have bn : intBits (n : Int) ≤ 10 := bits_of (by omega)
  have bj : intBits (j : Int) ≤ 10 := bits_of (by omega)
  have m1 := mul_b bi bn (by decide)
  have ba := intBits_add_le (intBits_mul_le bi bn) bj
  have a0 : (0 : Int) ≤ (i : Int) * (n : Int) + (j : Int) := by
    have := Int.mul_nonneg (Int.natCast_nonneg i) (Int.natCast_nonneg n)
    omega
  generalize ha : (i : Int) * (n : Int) + (j : Int) = a at ba a0
  have m2 := @mul_b 31 a 5 21 (by decide) ba (by decide)
  have fin : ∀ v : Int, ∃ m, Mq m ∧ ∃ m0, g__law_small [.int v, .int o] = .ok (.fr m0) ∧ ((m0 = .none ∧ m = .none) ∨ ∃ x y, m0 = tp x y ∧ g__law_times [tp x y, .int f] = .ok (.fr m)) := by
    intro v
    obtain ⟨q0, e1, e2⟩ := lsmall_q v o
    cases q0 with
    | none => exact ⟨.none, ⟨none, rfl, trivial⟩, _, e1, .inl ⟨rfl, rfl⟩⟩
    | some q0 =>
      obtain ⟨r, e3, e4, e5⟩ := ltimes_q lok1 e2 hf (Nat.lt_of_lt_of_le (by decide : 194040 < 2 ^ 200) (Nat.pow_le_pow_right (by decide) (by decide))) (Nat.lt_of_lt_of_le (by decide : 1000000000 < 2 ^ 200) (Nat.pow_le_pow_right (by decide) (by decide)))
      exact ⟨qD r, ⟨some r, rfl, e5⟩, _, e1, .inr ⟨_, _, rfl, e3⟩⟩
  have hlen : (r.map S.fr).length < 1000000 := by rw [List.length_map]; omega
  by_cases hz : cells.length = 0
  · have hce : cells = [] := List.length_eq_zero_iff.mp hz
    subst hce
    obtain ⟨m, q1, m0, q2, q3⟩ := fin (31 * a)
    refine ⟨m, q1, ?_⟩
    rcases q3 with ⟨rfl, rfl⟩ | ⟨x, y, rfl, q4⟩
    · simp -implicitDefEqProofs [TJ, eW, rowS, m1, ha, m2, q2, apS_at, show r.length < 1000000 by omega]
    · simp -implicitDefEqProofs [TJ, eW, rowS, m1, ha, m2, q2, q4, isNo_tp, apS_at, show r.length < 1000000 by omega]
  · have hl : (cells.length : Int) ≠ 0 := by omega
    have bl : intBits (cells.length : Int) ≤ 10 := bits_of (by omega)
    have q1 := mod_i a cells.length hl
    have r0 : 0 ≤ a.fmod cells.length := Int.fmod_nonneg_of_pos _ (by omega)
    have r1 : a.fmod cells.length < cells.length := Int.fmod_lt_of_pos _ (by omega)
    have q2 : ∃ v0, ixD (.list (cells.map .int)) (.int (a.fmod cells.length)) = .ok (.int v0) := by
      have hk : (a.fmod cells.length).toNat < cells.length := by omega
      exact ⟨cells[(a.fmod cells.length).toNat], by rw [ix_l, atI_of (a := .int cells[(a.fmod cells.length).toNat]) r0 (by simp [List.getElem?_eq_getElem hk])]⟩
    obtain ⟨v0, q2⟩ := q2
    have q3 := @fdiv_b a cells.length 10 hl bl (by decide)
    have b4 := intBits_fdiv_le (y := (cells.length : Int)) ba
    have q4 := @mul_b 31 (a.fdiv cells.length) 5 _ (by decide) b4 (by decide)
    have b5 : intBits (31 * a.fdiv cells.length) ≤ 5 + (max (10 + 10) 10 + 1) := intBits_mul_le (by decide) b4
    have q5 := @mul_b (31 * a.fdiv cells.length) 7 _ 3 b5 (by decide) (by decide)
    obtain ⟨m, w1, m0, w2, w3⟩ := fin (v0 + 31 * a.fdiv cells.length * 7)
    have hne : cells ≠ [] := fun z => hz (by rw [z]; rfl)
    have hpos : 0 < cells.length := Nat.pos_of_ne_zero hz
    have hg : ¬ cells.length ≤ 0 := by omega
    refine ⟨m, w1, ?_⟩
    rcases w3 with ⟨rfl, rfl⟩ | ⟨x, y, rfl, w4⟩
    · simp -implicitDefEqProofs [TJ, eW, rowS, m1, ha, m2, q1, q2, q3, q4, q5, w2, hne, hpos, apS_at, show r.length < 1000000 by omega]
    · simp -implicitDefEqProofs [TJ, eW, rowS, m1, ha, m2, q1, q2, q3, q4, q5, w2, w4, hne, hpos, isNo_tp, apS_at, show r.length < 1000000 by omega]
end
end LX
namespace LX
open PySem PySem.Spec PyProof.Rows L2 DL
open Builtin.Int (intBits)
theorem ixn_nat {n j : Nat} (h : j < n) : ixN n (j : Int) = some j := by
  unfold ixN
  rw [if_pos (by omega), if_pos (by omega)]
  simp
section
variable (c : D) (cells : List Int) (mo dr : D) (f : Int) (n : Nat) (o : Int)
theorem turnI {rows : List (List D)} {i : Nat} (hc : cells.length ≤ 1000) (hn : n ≤ 1000) (hi : i < n) (hf : f.natAbs ≤ 1000000000) (hr : rows.length = i) :
    ∃ r, r.length = n ∧ (∀ m ∈ r, Mq m) ∧ (fnS [8, 9, 10, 11, 12, 13] TI) (eW c cells mo dr f n o (some (.v (workS rows))) (some (.v (.fr (.int i)))) none none) = .nx (eW c cells mo dr f n o (some (.v (workS (rows ++ [r])))) none none none) := by
  obtain ⟨e', h1, r, h2, h3, h4⟩ := forF_rng (b := setN 10) (T := fnS [10, 11, 12, 13] TJ)
    (fun j env => ∃ r, r.length = j ∧ (∀ m ∈ r, Mq m) ∧ env = eW c cells mo dr f n o (some (.v (workS rows))) (some (.v (.fr (.int i)))) (some (.v (rowS r))) none) n
    (eW c cells mo dr f n o (some (.v (workS rows))) (some (.v (.fr (.int i)))) (some (.v (rowS []))) none) ⟨[], rfl, (fun _ h => by cases h), rfl⟩
    (fun j env hj ⟨r, q1, q2, q3⟩ => by
      subst q3
      obtain ⟨m, w1, w2⟩ := turnJ c cells mo dr f n o (w := some (.v (workS rows))) hc hn hi hj hf q1 q2
      exact ⟨_, _, rfl, .inl w2, r ++ [m], by rw [List.length_append, q1]; rfl, fun x hx => (List.mem_append.mp hx).elim (q2 x) fun z => by rw [List.mem_singleton.mp z]; exact w1, rfl⟩)
  subst h4
  refine ⟨r, h2, h3, ?_⟩
  have er := rng1_n (n := n) (by omega)
  have el : (rows.map rowS).length < 1000000 := by rw [List.length_map]; omega
  unfold TI
  rw [e_fnS, e_sqS, e_asO, e_lstR, e_nilA]
  rw [show (R.ok ([] : List D)).bind (fun ds => if ds.length ≤ 1000 then .ok (.ow (ds.map .fr)) else .no) = R.ok (rowS []) from rfl, R.st_ok, sq_nx]
  rw [e_sqS, e_fgS, e_forS]
  rw [show fgE ((eW c cells mo dr f n o (some (.v (workS rows))) (some (.v (.fr (.int i)))) none none).set 9 (some (.v (rowS [])))) [10, 11, 12, 13] = eW c cells mo dr f n o (some (.v (workS rows))) (some (.v (.fr (.int i)))) (some (.v (rowS []))) none from rfl]
  rw [show cal (consA (vf 5) nilA) rng1 (eW c cells mo dr f n o (some (.v (workS rows))) (some (.v (.fr (.int i)))) (some (.v (rowS []))) none) = rng1 [.int n] from by simp -implicitDefEqProofs [eW], er, R.st_ok, h1, sq_nx]
  rw [e_apV (ss := rows.map rowS) (t := rowS r) rfl rfl (by decide) el]
  simp -implicitDefEqProofs [eW, workS]
/-- the moments above the diagonal are struck out -/
theorem turn3 {rows : List (List D)} {i j : Nat} {cz : Option Sl} (hi : i < n) (hj : j < n) (hw : Wk n rows) :
    ∃ rows', Wk n rows' ∧ (fnS [9, 10] TB3) (eW c cells mo dr f n o (some (.v (workS rows))) (some (.v (.fr (.int i)))) none (some (.v (.fr (.int j))))) = .nx (eW c cells mo dr f n o (some (.v (workS rows'))) (some (.v (.fr (.int i)))) none none) := by
  by_cases hij : i < j
  · have hlt : i < rows.length := by rw [hw.len]; exact hi
    have hrow := hw.row _ (List.getElem_mem hlt)
    refine ⟨rows.set i (rows[i].set j .none), ⟨by rw [List.length_set]; exact hw.len, fun r hr => ?_⟩, ?_⟩
    · rcases List.mem_or_eq_of_mem_set hr with z | z
      · exact hw.row r z
      · rw [z]
        refine ⟨by rw [List.length_set]; exact hrow.1, fun m hm => ?_⟩
        rcases List.mem_or_eq_of_mem_set hm with y | y
        · exact hrow.2 m y
        · rw [y]; exact ⟨none, rfl, trivial⟩
    · have hd : decide ((i : Int) < (j : Int)) = true := decide_eq_true (by omega)
      have e1 : ixN (rows.map rowS).length (i : Int) = some i := ixn_nat (by rw [List.length_map]; exact hlt)
      have e2 : ixN (rows[i].map S.fr).length (j : Int) = some j := ixn_nat (by rw [List.length_map, hrow.1]; exact hj)
      have eg : (rows.map rowS)[i]? = some (rowS rows[i]) := by simp [hlt]
      have ep : getP (workS rows) [i] = some (rows[i].map S.fr) := by
        unfold workS getP
        rw [eg]
        rfl
      have es : setP (workS rows) [i] ((rows[i].map S.fr).set j (S.fr .none)) = workS (rows.set i (rows[i].set j .none)) := by
        unfold workS setP
        congr 1
        apply List.ext_getElem?
        intro k
        rw [List.getElem?_modify, List.getElem?_map, List.getElem?_map, List.getElem?_set]
        by_cases hk : i = k
        · subst hk
          simp [hlt, rowS, setP, List.map_set]
        · simp [hk]
      have e0 : rfX 7 (rfV 7) (vf 8) (eW c cells mo dr f n o (some (.v (workS rows))) (some (.v (.fr (.int i)))) none (some (.v (.fr (.int j))))) = .ok [i] := by
        unfold rfX rfV
        simp -implicitDefEqProofs [eW, workS, getS, e1]
        rw [List.length_map] at e1
        simp [e1]
      have ea : alS 7 9 (rfX 7 (rfV 7) (vf 8)) (frR cN) (vf 10) (eW c cells mo dr f n o (some (.v (workS rows))) (some (.v (.fr (.int i)))) none (some (.v (.fr (.int j))))) = .nx (eW c cells mo dr f n o (some (.v (workS (rows.set i (rows[i].set j .none))))) (some (.v (.fr (.int i)))) none (some (.v (.fr (.int j))))) := by
        unfold alS
        rw [e0, R.st_ok]
        simp -implicitDefEqProofs [eW, ep, putS, e2]
        rw [List.length_map] at e2
        simp [e2, es]
      unfold TB3
      rw [e_fnS, e_ifS]
      rw [show t2 (vf 10) (vf 8) gtD (eW c cells mo dr f n o (some (.v (workS rows))) (some (.v (.fr (.int i)))) none (some (.v (.fr (.int j))))) = .ok true from by simp -implicitDefEqProofs [eW, hij], R.st_ok]
      dsimp only
      rw [e_sqS, ea, sq_nx]
      simp -implicitDefEqProofs [eW]
  · refine ⟨rows, hw, ?_⟩
    have hd : decide ((i : Int) < (j : Int)) = false := decide_eq_false (by omega)
    have hni : ¬ ((i : Int) < (j : Int)) := by omega
    simp -implicitDefEqProofs [TB3, eW, hij]
end
end LX
namespace LX
open PySem PySem.Spec PyProof.Rows L2 DL
open Builtin.Int (intBits)
theorem cell_ok (ns : List Int) (k : Nat) : g__law_cell [.list (ns.map .int), .int k] = .ok (.fr (.int (ns.getD k 0))) := by
  rw [b__law_cell]
  by_cases h : k < ns.length
  · have e : ixD (.list (ns.map .int)) (.int k) = .ok (.int ns[k]) := by
      rw [ix_l, atI_nat (a := .int ns[k]) (by simp [h])]
    simp -implicitDefEqProofs [T__law_cell, h, e]
  · simp [T__law_cell, h]
end LX
namespace LX
open PySem PySem.Spec PyProof.Rows L2 DL
open Builtin.Int (intBits)
theorem ix_any (xs : List Int) {i : Int} (h0 : 0 ≤ i) (h1 : i < xs.length) : ∃ v, v ∈ xs ∧ ixD (.list (xs.map .int)) (.int i) = .ok (.int v) := by
  have hk : i.toNat < xs.length := by omega
  exact ⟨xs[i.toNat], List.getElem_mem hk, by rw [ix_l, atI_of (a := .int xs[i.toNat]) h0 (by simp [List.getElem?_eq_getElem hk])]⟩
theorem work_ok (c : Int) (cells : List Int) (most : Int) (h1 : 1 ≤ most) (h2 : most ≤ 20) (hc : cells.length ≤ 1000) :
    ∃ (n : Nat) (rows : List (List D)), 1 ≤ n ∧ (n : Int) ≤ most ∧ Wk n rows ∧ g__law_work [.int c, .list (cells.map .int), .int most] = .ok (workS rows) := by
  rw [b__law_work]
  have hp : ∀ l ∈ ([most, 10, 4, 6, 1000000000] : List Int), 0 < l ∧ l < 2 ^ 60 := by
    intro l hl
    simp at hl
    rcases hl with rfl | rfl | rfl | rfl | rfl <;> omega
  have e1 := @draws_ok c [most, 10, 4, 6, 1000000000] hp (by simp)
  obtain ⟨hlen, hget⟩ := @drawL_ok c [most, 10, 4, 6, 1000000000] (fun l m => (hp l m).1)
  generalize drawL c [most, 10, 4, 6, 1000000000] = ds at *
  obtain ⟨x0, t0, rfl, l0⟩ := gl_len1 hlen
  obtain ⟨x1, t1, rfl, l1⟩ := gl_len1 l0
  obtain ⟨x2, t2, rfl, l2⟩ := gl_len1 l1
  obtain ⟨x3, t3, rfl, l3⟩ := gl_len1 l2
  obtain ⟨x4, t4, rfl, l4⟩ := gl_len1 l3
  have hds : t4 = [] := List.length_eq_zero_iff.mp l4
  subst hds
  have g0 := hget 0 (by simp)
  have g1 := hget 1 (by simp)
  have g2 := hget 2 (by simp)
  have g3 := hget 3 (by simp)
  have g4 := hget 4 (by simp)
  simp at g0 g1 g2 g3 g4
  clear hget l0 l1 l2 l3 l4 hlen
  simp -implicitDefEqProofs at e1
  have p9 : powD (.int 10) (.int 9) = .ok (.int 1000000000) := by rw [pow_i _ _ (by decide)]; rfl
  have i2 : ixD (.list [.int x0, .int x1, .int x2, .int x3, .int x4]) (.int 2) = .ok (.int x2) := by rw [ix_l, atI_of (by decide) rfl]
  have i3 : ixD (.list [.int x0, .int x1, .int x2, .int x3, .int x4]) (.int 3) = .ok (.int x3) := by rw [ix_l, atI_of (by decide) rfl]
  have i4 : ixD (.list [.int x0, .int x1, .int x2, .int x3, .int x4]) (.int 4) = .ok (.int x4) := by rw [ix_l, atI_of (by decide) rfl]
  have m5 : modD (.int x4) (.int 500) = .ok (.int (x4.fmod 500)) := mod_i _ _ (by decide)
  have r5 : 0 ≤ x4.fmod 500 ∧ x4.fmod 500 < 500 := ⟨Int.fmod_nonneg_of_pos _ (by decide), Int.fmod_lt_of_pos _ (by decide)⟩
  obtain ⟨f, f1, f2⟩ := ix_any [1, 1, 1, 1, 1 + x4.fmod 500, 1 + x4] (i := x3) (by omega) (by simp; omega)
  have bf : f.natAbs ≤ 1000000000 := by
    simp at f1
    rcases f1 with rfl | rfl | rfl
    · decide
    · omega
    · omega
  obtain ⟨o, _, o2⟩ := ix_any [0, 2, 4, 5, 6, 7, 7, 8, 5, 3] (i := x1) (by omega) (by simp; omega)
  simp -implicitDefEqProofs at f2 o2
  obtain ⟨n, hn⟩ : ∃ n : Nat, (n : Int) = 1 + x0 := ⟨(1 + x0).toNat, by omega⟩
  have nn : n ≤ 1000 := by omega
  have er := rng1_n (n := n) (by omega)
  have hcd : ∃ cd, cd = PyData.int c := ⟨_, rfl⟩
  obtain ⟨w1, q1, rows, q2, q3, q4⟩ := forF_rng (b := setN 8) (T := fnS [8, 9, 10, 11, 12, 13] TI)
    (fun i env => ∃ rows : List (List D), rows.length = i ∧ (∀ r ∈ rows, r.length = n ∧ ∀ m ∈ r, Mq m) ∧ env = eW (.int c) cells (.int most) (.list [.int x0, .int x1, .int x2, .int x3, .int x4]) f n o (some (.v (workS rows))) none none none) n
    (eW (.int c) cells (.int most) (.list [.int x0, .int x1, .int x2, .int x3, .int x4]) f n o (some (.v (workS []))) none none none) ⟨[], rfl, (fun _ h => by cases h), rfl⟩
    (fun i env hi ⟨rows, k1, k2, k3⟩ => by
      subst k3
      obtain ⟨r, y1, y2, y3⟩ := turnI (.int c) cells (.int most) (.list [.int x0, .int x1, .int x2, .int x3, .int x4]) f n o (rows := rows) hc nn hi bf k1
      exact ⟨_, _, rfl, .inl y3, rows ++ [r], by rw [List.length_append, k1]; rfl, fun x hx => (List.mem_append.mp hx).elim (k2 x) fun z => by rw [List.mem_singleton.mp z]; exact ⟨y1, y2⟩, rfl⟩)
  subst q4
  have wk : Wk n rows := ⟨q2, q3⟩
  have pre : ∀ U : En → SR, (sqS (asS 3 (unO (cal (consA (vf 0) (consA (unO (lstR (consA (vf 2) (consA (cI 10) (consA (cI 4) (consA (cI 6) (consA (b2 (cI 10) (cI 9) powD) nilA))))))) nilA)) g__law_draws)))
  (sqS (asS 4 (b2 (unO (lstR (consA (cI 1) (consA (cI 1) (consA (cI 1) (consA (cI 1) (consA (b2 (cI 1) (b2 (cal (consA (b2 (vf 3) (cI 4) ixD) nilA) (one DL.intD)) (cI 500) modD) addD) (consA (b2 (cI 1) (b2 (vf 3) (cI 4) ixD) addD) nilA)))))))) (b2 (vf 3) (cI 3) ixD) ixD))
  (sqS (asS 5 (b2 (cI 1) (b2 (vf 3) (cI 0) ixD) addD))
  (sqS (asS 6 (b2 (unO (lstR (consA (cI 0) (consA (cI 2) (consA (cI 4) (consA (cI 5) (consA (cI 6) (consA (cI 7) (consA (cI 7) (consA (cI 8) (consA (cI 5) (consA (cI 3) nilA)))))))))))) (b2 (vf 3) (cI 1) ixD) ixD))
  (sqS (asO 7 (lstR nilA)) U))))) [some (.v (.fr (.int c))), some (.v (.fr (.list (cells.map .int)))), some (.v (.fr (.int most))), none, none, none, none, none, none, none, none, none, none, none] =
    U (eW (.int c) cells (.int most) (.list [.int x0, .int x1, .int x2, .int x3, .int x4]) f n o (some (.v (workS []))) none none none) := by
    intro U
    simp -implicitDefEqProofs [p9, e1, i2, i3, i4, m5, f2, o2, eW, workS, hn]
  have fin : ∃ rows', Wk n rows' ∧ (ifS (t2 (b2 (vf 3) (cI 2) ixD) (cI 0) eqD)
  (fgS [8, 9, 10] (forS (cal (consA (vf 5) nilA) rng1) (setN 8)
  (fnS [8, 9, 10] TB2)))
  nxS) (eW (.int c) cells (.int most) (.list [.int x0, .int x1, .int x2, .int x3, .int x4]) f n o (some (.v (workS rows))) none none none) = .nx (eW (.int c) cells (.int most) (.list [.int x0, .int x1, .int x2, .int x3, .int x4]) f n o (some (.v (workS rows'))) none none none) := by
    rw [e_ifS]
    rw [show t2 (b2 (vf 3) (cI 2) ixD) (cI 0) eqD (eW (.int c) cells (.int most) (.list [.int x0, .int x1, .int x2, .int x3, .int x4]) f n o (some (.v (workS rows))) none none none) = .ok (x2 == 0) from by
      simp -implicitDefEqProofs [eW, i2], R.st_ok]
    cases hz : (x2 == 0) with
    | false => exact ⟨rows, wk, rfl⟩
    | true =>
      obtain ⟨w2, k1, rows', k2, k3⟩ := forF_rng (b := setN 8) (T := fnS [8, 9, 10] TB2)
        (fun i env => ∃ rows', Wk n rows' ∧ env = eW (.int c) cells (.int most) (.list [.int x0, .int x1, .int x2, .int x3, .int x4]) f n o (some (.v (workS rows'))) none none none) n
        (eW (.int c) cells (.int most) (.list [.int x0, .int x1, .int x2, .int x3, .int x4]) f n o (some (.v (workS rows))) none none none) ⟨rows, wk, rfl⟩
        (fun i env hi ⟨rows1, y1, y2⟩ => by
          subst y2
          obtain ⟨w3, z1, rows2, z2, z3⟩ := forF_rng (b := setN 10) (T := fnS [9, 10] TB3)
            (fun j env => ∃ rows', Wk n rows' ∧ env = eW (.int c) cells (.int most) (.list [.int x0, .int x1, .int x2, .int x3, .int x4]) f n o (some (.v (workS rows'))) (some (.v (.fr (.int i)))) none none) n
            (eW (.int c) cells (.int most) (.list [.int x0, .int x1, .int x2, .int x3, .int x4]) f n o (some (.v (workS rows1))) (some (.v (.fr (.int i)))) none none) ⟨rows1, y1, rfl⟩
            (fun j env hj ⟨rows3, u1, u2⟩ => by
              subst u2
              obtain ⟨rows4, v1, v2⟩ := turn3 (.int c) cells (.int most) (.list [.int x0, .int x1, .int x2, .int x3, .int x4]) f n o (cz := none) hi hj u1
              exact ⟨_, _, rfl, .inl v2, rows4, v1, rfl⟩)
          subst z3
          refine ⟨_, _, rfl, .inl ?_, rows2, z2, rfl⟩
          show fnS [8, 9, 10] TB2 (eW (.int c) cells (.int most) (.list [.int x0, .int x1, .int x2, .int x3, .int x4]) f n o (some (.v (workS rows1))) (some (.v (.fr (.int i)))) none none) = _
          unfold TB2
          rw [e_fnS, e_fgS, e_forS]
          rw [show fgE (eW (.int c) cells (.int most) (.list [.int x0, .int x1, .int x2, .int x3, .int x4]) f n o (some (.v (workS rows1))) (some (.v (.fr (.int i)))) none none) [9, 10] = eW (.int c) cells (.int most) (.list [.int x0, .int x1, .int x2, .int x3, .int x4]) f n o (some (.v (workS rows1))) (some (.v (.fr (.int i)))) none none from rfl]
          rw [show cal (consA (vf 5) nilA) rng1 (eW (.int c) cells (.int most) (.list [.int x0, .int x1, .int x2, .int x3, .int x4]) f n o (some (.v (workS rows1))) (some (.v (.fr (.int i)))) none none) = rng1 [.int n] from by simp -implicitDefEqProofs [eW], er, R.st_ok, z1]
          rfl)
      subst k3
      refine ⟨rows', k2, ?_⟩
      dsimp only
      rw [e_fgS, e_forS]
      rw [show fgE (eW (.int c) cells (.int most) (.list [.int x0, .int x1, .int x2, .int x3, .int x4]) f n o (some (.v (workS rows))) none none none) [8, 9, 10] = eW (.int c) cells (.int most) (.list [.int x0, .int x1, .int x2, .int x3, .int x4]) f n o (some (.v (workS rows))) none none none from rfl]
      rw [show cal (consA (vf 5) nilA) rng1 (eW (.int c) cells (.int most) (.list [.int x0, .int x1, .int x2, .int x3, .int x4]) f n o (some (.v (workS rows))) none none none) = rng1 [.int n] from by simp -implicitDefEqProofs [eW], er, R.st_ok, k1]
  obtain ⟨rows', k1, k2⟩ := fin
  refine ⟨n, rows', by omega, by omega, k1, ?_⟩
  unfold T__law_work
  rw [pre]
  rw [e_sqS, e_fgS, e_forS]
  rw [show fgE (eW (.int c) cells (.int most) (.list [.int x0, .int x1, .int x2, .int x3, .int x4]) f n o (some (.v (workS []))) none none none) [8, 9, 10, 11, 12, 13] = eW (.int c) cells (.int most) (.list [.int x0, .int x1, .int x2, .int x3, .int x4]) f n o (some (.v (workS []))) none none none from rfl]
  rw [show cal (consA (vf 5) nilA) rng1 (eW (.int c) cells (.int most) (.list [.int x0, .int x1, .int x2, .int x3, .int x4]) f n o (some (.v (workS []))) none none none) = rng1 [.int n] from by simp -implicitDefEqProofs [eW], er, R.st_ok]
  have q1' := q1
  unfold TI TJ at q1'
  rw [q1', sq_nx, e_sqS]
  have k2' := k2
  unfold TB2 TB3 at k2'
  rw [k2', sq_nx]
  simp -implicitDefEqProofs [eW]

theorem mq_rows {n : Nat} : ∀ {r : List D}, r.length = n → (∀ m ∈ r, Mq m) → ∃ g : Nat → Q, r = (V n g).map mD ∧ BdV n 27720 PW g := by
  intro r hl hr
  have h : ∀ r : List D, (∀ m ∈ r, Mq m) → ∃ v : List Q, r = v.map mD ∧ ∀ q ∈ v, Bd 27720 PW q := by
    intro r
    induction r with
    | nil => exact fun _ => ⟨[], rfl, fun q h => nomatch h⟩
    | cons m r ih =>
      intro hr
      obtain ⟨q, rfl, b⟩ := hr m (List.mem_cons_self ..)
      obtain ⟨v, rfl, bv⟩ := ih fun m hm => hr m (List.mem_cons_of_mem _ hm)
      exact ⟨q :: v, rfl, fun x hx => by
        rcases List.mem_cons.mp hx with e | e
        · rw [e]; exact b
        · exact bv x e⟩
  obtain ⟨v, rfl, bv⟩ := h r hr
  have hv : v.length = n := by rw [← hl, List.length_map]
  refine ⟨fun i => v.getD i none, by rw [← V_of hv], fun i hi => ?_⟩
  have : i < v.length := by omega
  show Bd 27720 PW (v.getD i none)
  rw [List.getD_eq_getElem?_getD, List.getElem?_eq_getElem this]
  exact bv _ (List.getElem_mem this)
theorem wk_fn {n : Nat} {rows : List (List D)} (w : Wk n rows) : ∃ f : Nat → Nat → Q, workS rows = wS (W n f) ∧ BdM n 27720 PW f := by
  have h : ∀ i : Nat, ∃ g : Nat → Q, i < n → rows[i]? = some ((V n g).map mD) ∧ BdV n 27720 PW g := by
    intro i
    by_cases hi : i < n
    · have hl : i < rows.length := by rw [w.len]; exact hi
      obtain ⟨g, e, b⟩ := mq_rows (w.row _ (List.getElem_mem hl)).1 (w.row _ (List.getElem_mem hl)).2
      exact ⟨g, fun _ => ⟨by rw [List.getElem?_eq_getElem hl, e], b⟩⟩
    · exact ⟨fun _ => none, fun z => absurd z hi⟩
  obtain ⟨f, hf⟩ : ∃ f : Nat → Nat → Q, ∀ i, i < n → rows[i]? = some ((V n (f i)).map mD) ∧ BdV n 27720 PW (f i) := ⟨fun i => (h i).choose, fun i => (h i).choose_spec⟩
  refine ⟨f, ?_, fun i j hi hj => (hf i hi).2 j hj⟩
  have e : rows = (List.range n).map fun i => (V n (f i)).map mD := by
    apply List.ext_getElem?
    intro i
    by_cases hi : i < n
    · rw [(hf i hi).1]; simp [hi]
    · rw [List.getElem?_eq_none (by rw [w.len]; omega), List.getElem?_eq_none (by simp; omega)]
  rw [e, wS_W]
  unfold workS rowS vS
  rw [List.map_map]
  congr 1
  apply List.map_congr_left
  intro i _
  show S.ow (((V n (f i)).map mD).map S.fr) = _
  rw [List.map_map]; rfl
theorem lwork_q (c : Int) (cells : List Int) (most : Int) (h1 : 1 ≤ most) (h2 : most ≤ 20) (hc : cells.length ≤ 1000) :
    ∃ (n : Nat) (f : Nat → Nat → Q), 1 ≤ n ∧ (n : Int) ≤ most ∧ BdM n 27720 PW f ∧ g__law_work [.int c, .list (cells.map .int), .int most] = .ok (wS (W n f)) := by
  obtain ⟨n, rows, a1, a2, a3, a4⟩ := work_ok c cells most h1 h2 hc
  obtain ⟨f, e, b⟩ := wk_fn a3
  exact ⟨n, f, a1, a2, b, by rw [a4, e]⟩
end LX
namespace LX
open PySem PySem.Spec PyProof.Rows L2 DL
open Builtin.Int (intBits)
theorem one_zero : PyData.tuple [.int 0, .int 1] = qD 0 := rfl
theorem imom_q (i j : Nat) : g__idle_moment [.int (i : Nat), .int (j : Nat)] = .ok (.fr (mD (idleM i j))) := by
  rw [b__idle_moment]
  unfold idleM
  by_cases h : i = j
  · subst h
    simp -implicitDefEqProofs [T__idle_moment, mD, ← one_zero]
  · have h2 : ((i : Int) == (j : Int)) = false := beq_eq_false_iff_ne.mpr (by omega)
    simp -implicitDefEqProofs [T__idle_moment, mD, h, h2]
theorem idle_q {n : Nat} (h0 : 0 < n) (hn : n ≤ 1000) : g_idle [.int (n : Nat)] = .ok (wS (W n idleM)) := by
  rw [b_idle]
  have hlt : ¬ ((n : Int) < 1) := by omega
  have hin : ∀ i, i < n → ∀ env0 : En, env0 = [some (.v (.fr (.int (n : Nat)))), some (.v (.fr (.int (i : Nat)))), none] →
      compR [2] (cal (consA (vf 0) nilA) rng1) (setN 2) yesT (cal (consA (vf 1) (consA (vf 2) nilA)) g__idle_moment) env0 = .ok (vS (V n (idleM i))) := by
    intro i hi env0 e
    subst e
    rw [vS_V]
    refine comp_rng (n := n) rfl (by omega) fun k hk => ?_
    simp -implicitDefEqProofs [imom_q i k]
  have hc := @comp_rng [1] 1 n (consA (vf 0) nilA) (compR [2] (cal (consA (vf 0) nilA) rng1) (setN 2) yesT (cal (consA (vf 1) (consA (vf 2) nilA)) g__idle_moment)) [some (.v (.fr (.int (n : Nat)))), none, none] (fun i => vS (V n (idleM i))) rfl (by omega) (fun i hi => hin i hi _ rfl)
  refine endR_of (r := .rt (wS (W n idleM))) ?_ rfl
  unfold T_idle
  refine sq_of (by simp -implicitDefEqProofs [hlt, show ¬ n < 1 by omega, show ¬ n = 0 by omega] <;> exact rfl) ?_
  rw [e_rtO, hc, R.st_ok, wS_W]
theorem idle_er {m : Int} (h : m < 1) : g_idle [.int m] = .er ("OutOfRange" : Str) := by
  rw [b_idle]
  unfold T_idle
  simp -implicitDefEqProofs [h]
end LX
namespace LX
open PySem PySem.Spec PyProof.Rows L2 DL
open Builtin.Int (intBits)
theorem band1 (m : Nat) : Builtin.bitAnd (m : Int) 1 = ((m % 2 : Nat) : Int) := by
  show ((m &&& 1 : Nat) : Int) = _
  rw [Nat.and_one_is_mod]
theorem shr1 (m : Nat) : (m : Int) / 2 ^ (1 : Int).toNat = ((m / 2 : Nat) : Int) := by
  show (m : Int) / 2 ^ 1 = _
  omega
/-- a loop over a number that is halved -/
theorem half_while {t : En → DL.R Bool} {T : En → SR} {A : Type} (enc : A → Nat → En) (step : A → Nat → A) (I : A → Nat → Prop) (ht : ∀ a m, t (enc a m) = .ok (decide (0 < m)))
    (hs : ∀ a m, 0 < m → I a m → T (enc a m) = .nx (enc (step a m) (m / 2)) ∧ I (step a m) (m / 2)) (F : A → Nat → A) (h0 : ∀ a, F a 0 = a) (h1 : ∀ a m, 0 < m → F a m = F (step a m) (m / 2)) :
    ∀ (fuel m : Nat) (a : A), m < fuel → I a m → whileF t T fuel (enc a m) = .nx (enc (F a m) 0) ∧ I (F a m) 0
  | 0, m, a, h, _ => absurd h (Nat.not_lt_zero _)
  | fuel + 1, m, a, h, i => by
    unfold whileF
    rw [ht]
    by_cases hm : 0 < m
    · rw [decide_eq_true hm]
      obtain ⟨q1, q2⟩ := hs a m hm i
      rw [R.st_ok]
      dsimp only
      rw [q1]
      dsimp only
      rw [h1 a m hm]
      exact half_while enc step I ht hs F h0 h1 fuel (m / 2) (step a m) (by omega) q2
    · have e : m = 0 := by omega
      subst e
      rw [h0]
      exact ⟨rfl, i⟩
end LX
namespace LX
open PySem PySem.Spec PyProof.Rows L2 DL
open Builtin.Int (intBits)
theorem fr_ok {t l : Int} (h : l ≠ 0) (hl : intBits l ≤ 4000) : g_fraction [.int t, .int l] = .ok (.fr (qD (Rat.divInt t l))) := by
  rw [b_fraction, ← frD_q h]
  have e0 : (l == 0) = false := by simp [h]
  have e2 := @fdiv_b t (dv t l) 4000 (dv_ne h) (dv_bits h hl) (by decide)
  have e3 := @fdiv_b l (dv t l) 4000 (dv_ne h) (dv_bits h hl) (by decide)
  by_cases hz : l < 0
  · simp only [dv, gc, hz, if_true] at e2 e3
    simp -implicitDefEqProofs [T_fraction, e0, hz, e2, e3, frD, dv, gc]
  · simp only [dv, gc, hz, if_false] at e2 e3
    simp -implicitDefEqProofs [T_fraction, e0, hz, e2, e3, frD, dv, gc]
end LX
namespace LX
open PySem PySem.Spec PyProof.Rows L2 DL
open Builtin.Int (intBits)
theorem pplus_q {a b : Q} {n m : Nat} (ha : Bt n a) (hb : Bt m b) (h : n + m + 1 ≤ 4000) : g_plus [mD a, mD b] = .ok (.fr (mD (madd a b))) := by
  rw [b_plus]
  cases a with
  | none => simp -implicitDefEqProofs [T_plus, mD, madd]
  | some a =>
    cases b with
    | none => simp -implicitDefEqProofs [T_plus, mD, madd, isNo_q]
    | some b =>
      obtain ⟨a1, a2⟩ := ha
      obtain ⟨b1, b2⟩ := hb
      have e1 := mul_b a1 b2 (by omega)
      have e2 := mul_b b1 a2 (by omega)
      have e3 := mul_b a2 b2 (by omega)
      have n0 : (a.den : Int) * (b.den : Int) ≠ 0 := by
        have := a.den_nz; have := b.den_nz
        exact Int.mul_ne_zero (by omega) (by omega)
      have e4 := @fr_ok (a.num * b.den + b.num * a.den) (a.den * b.den) n0 (Nat.le_trans (intBits_mul_le a2 b2) (by omega))
      rw [add_div] at e4
      simp -implicitDefEqProofs [T_plus, mD, madd, isNo_q, ix_q0, ix_q1, e1, e2, e3, e4]
end LX
namespace LX
open PySem PySem.Spec PyProof.Rows L2 DL
open Builtin.Int (intBits)
theorem isless_q {a b : Q} {n m : Nat} (ha : Bt n a) (hb : Bt m b) (h : n + m ≤ 100000) : g_is_less [mD a, mD b] = .ok (.fr (.bool (mlt a b))) := by
  rw [b_is_less]
  cases b with
  | none => cases a <;> simp -implicitDefEqProofs [T_is_less, mD, mlt, isNo_q]
  | some b =>
    cases a with
    | none => simp -implicitDefEqProofs [T_is_less, mD, mlt, isNo_q]
    | some a =>
      obtain ⟨a1, a2⟩ := ha
      obtain ⟨b1, b2⟩ := hb
      have e1 := mul_b a1 b2 (by omega)
      have e2 := mul_b b1 a2 (by omega)
      have e3 : (a < b) = (a.num * (b.den : Int) < b.num * (a.den : Int)) := propext (Rat.lt_iff a b)
      simp -implicitDefEqProofs [T_is_less, mD, mlt, isNo_q, ix_q0, ix_q1, e1, e2, e3]
end LX
namespace LX
open PySem PySem.Spec PyProof.Rows L2 DL
open Builtin.Int (intBits)
theorem later_q {a b : Q} {n m : Nat} (ha : Bt n a) (hb : Bt m b) (h : n + m ≤ 100000) : g_later [mD a, mD b] = .ok (.fr (mD (mmax a b))) := by
  rw [b_later]
  have e := isless_q ha hb h
  unfold mmax
  cases hc : mlt a b with
  | true => rw [hc] at e; simp -implicitDefEqProofs [T_later, e]
  | false => rw [hc] at e; simp -implicitDefEqProofs [T_later, e]
theorem bt_max {a b : Q} {n : Nat} (ha : Bt n a) (hb : Bt n b) : Bt n (mmax a b) := by
  unfold mmax; split
  · exact hb
  · exact ha
end LX
namespace LX
open PySem PySem.Spec PyProof.Rows L2 DL
open Builtin.Int (intBits)
theorem latest_q {xs : List Q} {n : Nat} (hx : ∀ x ∈ xs, Bt n x) (h : n ≤ 50000) : g_latest [.list (xs.map mD)] = .ok (.fr (mD (msup xs))) := by
  rw [b_latest]
  have hl := @forF_goI Q Q (setN 2) (fnS [2] (asS 1 (unO (cal (consA (vf 1) (consA (vf 2) nilA)) g_later))))
    (fun s => [some (.v (.fr (.list (xs.map mD)))), some (.v (.fr (mD s))), none]) mD mmax xs none (fun s rest => Bt n s ∧ ∀ x ∈ rest, Bt n x) ⟨trivial, hx⟩
    (fun s d rest ⟨h1, h2⟩ => by
      have hd := h2 d (List.mem_cons_self ..)
      refine ⟨_, rfl, ?_, bt_max h1 hd, fun x m => h2 x (List.mem_cons_of_mem _ m)⟩
      simp -implicitDefEqProofs [later_q h1 hd (by omega)])
  simp -implicitDefEqProofs [T_latest]
  have hl' : forF (setN 2) (fnS [2] (asS 1 (unO (cal (consA (vf 1) (consA (vf 2) nilA)) g_later)))) (xs.map mD) [some (.v (.fr (.list (xs.map mD)))), some (.v (.fr .none)), none] = _ := hl
  simp -implicitDefEqProofs [hl', msup]
end LX
namespace LX
open PySem PySem.Spec PyProof.Rows L2 DL
open Builtin.Int (intBits)
theorem lsum_q {L n P U : Nat} (hL : LOk L) {f g : Nat → Q} (hn : n ≤ 1000) (hf : BdV n L P f) (hg : BdV n L U g) (h1 : P < 2 ^ 1900) (h2 : U < 2 ^ 1900) : g__latest_sum [vD (V n f), vD (V n g)] = .ok (.fr (mD (sup n fun k => madd (f k) (g k)))) := by
  rw [b__latest_sum]
  have hz : zip2 [vD (V n f), vD (V n g)] = .ok ((List.range n).map fun k => .tuple [mD (f k), mD (g k)]) := by
    show R.ok (zipL ((V n f).map mD) ((V n g).map mD)) = _
    rw [zipL_map, zip_V, List.map_map]; rfl
  have hc := compF_map (b := tupG 2 (consG (setN 2) (consG (setN 3) nilG))) (f := cal (consA (vf 2) (consA (vf 3) nilA)) g_plus) (env := wipeE [some (.v (.fr (vD (V n f)))), some (.v (.fr (vD (V n g)))), none, none] [2, 3])
    (fun k => .tuple [mD (f k), mD (g k)]) (fun k => .fr (mD (madd (f k) (g k)))) (List.range n) (fun k hk => by
      have hk := List.mem_range.mp hk
      refine ⟨_, rfl, ?_⟩
      have e := pplus_q ((hf k hk).bt' hL h1 (by decide)) ((hg k hk).bt' hL h2 (by decide)) (by decide)
      simp -implicitDefEqProofs [e])
  have hl := @latest_q ((List.range n).map fun k => madd (f k) (g k)) 4000 (fun x hx => by
    obtain ⟨k, hk, e⟩ := List.mem_map.mp hx
    have hk := List.mem_range.mp hk
    rw [← e]
    refine (Bd.add hL.1 (hf k hk) (hg k hk)).bt' hL ?_ (by decide)
    have : (2 : Nat) ^ 1900 + 2 ^ 1900 = 2 ^ 1901 := by rw [Nat.pow_succ 2 1900]; omega
    exact Nat.lt_of_lt_of_le (Nat.add_lt_add h1 h2) (by rw [this]; exact Nat.pow_le_pow_right (by decide) (by decide))) (by decide)
  unfold T__latest_sum
  rw [e_rtO, e_cal, e_consA, e_unO, e_compR, e_cal, e_consA, e_consA, e_nilA]
  simp only [vf_z, vf_s, R.bind_ok, hz, List.length_map, List.length_range, show n ≤ 1000000 by omega, if_true, hc, toD_ow, List.map_map, Function.comp_def, toD_fr]
  rw [List.map_map] at hl
  have hl' : g_latest [.list ((List.range n).map fun k => mD (madd (f k) (g k)))] = _ := hl
  simp only [R.bind_ok, hl', R.st_ok, endR_rt]
  rfl
end LX
namespace LX
open PySem PySem.Spec PyProof.Rows L2 DL
open Builtin.Int (intBits)
theorem size_q {n m : Nat} {f g : Nat → Nat → Q} : g__check_same_size [wD (W n f), wD (W m g)] = if n = m then .ok (.fr .none) else .er ("OutOfRange" : Str) := by
  rw [b__check_same_size]
  by_cases h : n = m
  · subst h
    simp -implicitDefEqProofs [T__check_same_size, len_W]
  · have h' : ((n : Int) == (m : Int)) = false := beq_eq_false_iff_ne.mpr (by omega)
    simp -implicitDefEqProofs [T__check_same_size, len_W, h, h']
theorem zipSL_of {rs : List (List D)} {m : Nat} (h0 : rs ≠ []) (h : ∀ r ∈ rs, r.length = m) (hn : rs.length ≤ 1000) : zipSL rs = .ok (colsL rs m) := by
  cases rs with
  | nil => exact absurd rfl h0
  | cons r0 rest =>
    unfold zipSL
    dsimp only
    have e0 : r0.length = m := h r0 (List.mem_cons_self ..)
    rw [if_pos (by
      rw [Bool.and_eq_true]
      refine ⟨List.all_eq_true.mpr fun r hr => ?_, decide_eq_true (by rw [List.length_cons] at hn; omega)⟩
      rw [h r (List.mem_cons_of_mem _ hr), e0]; exact beq_self_eq_true _), e0]
theorem cols_q (n : Nat) (g : Nat → Nat → Q) (h : 0 < n) (hn : n ≤ 1000) : zipSD (wD (W n g)) = .ok ((List.range n).map fun j => .tuple ((List.range n).map fun k => mD (g k j))) := by
  unfold wD W zipSD
  dsimp only
  rw [List.map_map]
  have e : rowsL ((List.range n).map (vD ∘ fun i => V n (g i))) = some ((List.range n).map fun i => (V n (g i)).map mD) := rowsL_map (fun i => (V n (g i)).map mD) (List.range n)
  rw [e]
  dsimp only
  rw [zipSL_of (m := n) (by
    intro z
    have := congrArg List.length z
    rw [List.length_map, List.length_range] at this
    simp at this
    omega) (fun r hr => by
      obtain ⟨i, _, e⟩ := List.mem_map.mp hr
      rw [← e, List.length_map, V_len]) (by rw [List.length_map, List.length_range]; exact hn)]
  unfold colsL
  congr 1
  apply List.map_congr_left
  intro j hj
  have hj := List.mem_range.mp hj
  congr 1
  rw [List.map_map]
  apply List.map_congr_left
  intro k _
  show ((V n (g k)).map mD).getD j .none = _
  rw [List.getD_eq_getElem?_getD, List.getElem?_map, V_get _ hj]
  rfl
theorem prod_q {L n P U : Nat} (hL : LOk L) {f g : Nat → Nat → Q} (h0 : 0 < n) (hn : n ≤ 1000) (hf : BdM n L P f) (hg : BdM n L U g) (h1 : P < 2 ^ 1900) (h2 : U < 2 ^ 1900) : g_product [wD (W n f), wD (W n g)] = .ok (wS (W n (mulM n f g))) := by
  rw [b_product]
  have hz := cols_q n g h0 hn
  have e0 := @size_q n n f g
  rw [if_pos rfl] at e0
  have hc1 : compR [3] (zipSR (vf 1)) (setN 3) yesT (cal (consA (vf 3) nilA) (one listD)) [some (.v (.fr (wD (W n f)))), some (.v (.fr (wD (W n g)))), none, none, none] = .ok (.ow ((List.range n).map fun j => vS (V n fun k => g k j))) := by
    have hc := compF_map (b := setN 3) (f := cal (consA (vf 3) nilA) (one listD)) (env := wipeE [some (.v (.fr (wD (W n f)))), some (.v (.fr (wD (W n g)))), none, none, none] [3])
      (fun j => PyData.tuple ((List.range n).map fun k => mD (g k j))) (fun j => vS (V n fun k => g k j)) (List.range n) (fun j hj => by
        refine ⟨_, rfl, ?_⟩
        simp -implicitDefEqProofs [vS_V]
        show DL.R.ok (S.ow (((List.range n).map fun k => mD (g k j)).map S.fr)) = _
        rw [List.map_map]; rfl)
    rw [e_compR, e_zipSR, vf_s, vf_z, R.bind_ok, hz, R.bind_ok, if_pos (by rw [List.length_map, List.length_range]; omega), hc]
  have hc2 : ∀ i, i < n → ∀ env0 : En, env0 = [some (.v (.fr (wD (W n f)))), some (.v (.fr (wD (W n g)))), some (.v (.fr (.list ((List.range n).map fun j => vD (V n fun k => g k j))))), none, some (.v (.fr (vD (V n (f i)))))] →
      compR [3] (seqR (vf 2)) (setN 3) yesT (cal (consA (vf 4) (consA (vf 3) nilA)) g__latest_sum) env0 = .ok (vS (V n (mulM n f g i))) := by
    intro i hi env0 e
    subst e
    have hc := @comp_seq Nat [3] 3 (vf 2) (cal (consA (vf 4) (consA (vf 3) nilA)) g__latest_sum) [some (.v (.fr (wD (W n f)))), some (.v (.fr (wD (W n g)))), some (.v (.fr (.list ((List.range n).map fun j => vD (V n fun k => g k j))))), none, some (.v (.fr (vD (V n (f i)))))] (List.range n)
      (fun j => vD (V n fun k => g k j)) (fun j => .fr (mD (mulM n f g i j))) rfl (by rw [List.length_range]; omega) (fun j hj => by
        have hj := List.mem_range.mp hj
        have e := lsum_q hL hn (fun k hk => hf i k hi hk) (fun k hk => hg k j hk hj) h1 h2
        simp -implicitDefEqProofs [e, mulM])
    rw [hc, vS_V]
  have hc3 := @comp_seq Nat [4] 4 (vf 0) (compR [3] (seqR (vf 2)) (setN 3) yesT (cal (consA (vf 4) (consA (vf 3) nilA)) g__latest_sum)) [some (.v (.fr (wD (W n f)))), some (.v (.fr (wD (W n g)))), some (.v (.fr (.list ((List.range n).map fun j => vD (V n fun k => g k j))))), none, none] (List.range n)
    (fun i => vD (V n (f i))) (fun i => vS (V n (mulM n f g i))) (by rw [vf_z, wD_W]) (by rw [List.length_range]; omega) (fun i hi => hc2 i (List.mem_range.mp hi) _ rfl)
  unfold T_product
  rw [e_sqS, e_exS, e_unO, e_cal]
  simp only [e_consA, e_nilA, vf_z, vf_s, R.bind_ok, e0, R.st_ok, sq_nx]
  rw [e_sqS, e_asS, e_unO, hc1]
  simp only [R.bind_ok, R.st_ok, sq_nx, toD_ow, List.map_map, Function.comp_def, vS_toD, List.set_cons_succ, List.set_cons_zero]
  rw [e_rtO, hc3, R.st_ok, endR_rt, wS_W]
theorem prod_er {n m : Nat} {f g : Nat → Nat → Q} (h : n ≠ m) : g_product [wD (W n f), wD (W m g)] = .er ("OutOfRange" : Str) := by
  rw [b_product]
  have e0 := @size_q n m f g
  rw [if_neg h] at e0
  unfold T_product
  rw [e_sqS, e_exS, e_unO, e_cal]
  simp -implicitDefEqProofs [e0]
end LX
namespace LX
open PySem PySem.Spec PyProof.Rows L2 DL
open Builtin.Int (intBits)
structure PA where
  r : Nat → Nat → Q
  f : Nat → Nat → Q
def paS (n : Nat) (a : PA) (m : Nat) : PA := ⟨if m % 2 = 1 then mulM n a.r a.f else a.r, if 0 < m / 2 then mulM n a.f a.f else a.f⟩
def paF (n : Nat) : Nat → Nat → PA → PA
  | 0, _, a => a
  | fuel + 1, m, a => if 0 < m then paF n fuel (m / 2) (paS n a m) else a
theorem paF_fuel (n : Nat) : ∀ (fuel m : Nat) (a : PA), m ≤ fuel → paF n (fuel + 1) m a = paF n fuel m a
  | 0, m, a, h => by
    obtain rfl : m = 0 := by omega
    rfl
  | fuel + 1, m, a, h => by
    by_cases hm : 0 < m
    · show (if 0 < m then paF n (fuel + 1) (m / 2) (paS n a m) else a) = if 0 < m then paF n fuel (m / 2) (paS n a m) else a
      rw [if_pos hm, if_pos hm]
      exact paF_fuel n fuel (m / 2) _ (by omega)
    · obtain rfl : m = 0 := by omega
      rfl
theorem paF_le (n : Nat) {m : Nat} (a : PA) : ∀ (k fuel : Nat), m ≤ fuel → paF n (fuel + k) m a = paF n fuel m a
  | 0, _, _ => rfl
  | k + 1, fuel, h => by
    rw [← Nat.add_assoc, paF_fuel n (fuel + k) m a (by omega), paF_le n a k fuel h]
theorem paF_r (n : Nat) : ∀ (fuel m : Nat) (a : PA), m ≤ fuel → ∀ i j, i < n → j < n → (paF n fuel m a).r i j = mulM n a.r (pw n a.f m) i j
  | 0, m, a, h, i, j, hi, hj => by
    obtain rfl : m = 0 := by omega
    exact (mulM_idle _ _ hj).symm
  | fuel + 1, m, a, h, i, j, hi, hj => by
    unfold paF
    by_cases hm : 0 < m
    · rw [if_pos hm, paF_r n fuel (m / 2) _ (by omega) i j hi hj]
      have e1 : ∀ k l, k < n → l < n → pw n (paS n a m).f (m / 2) k l = pw n a.f (2 * (m / 2)) k l := by
        intro k l hk hl
        unfold paS
        by_cases h2 : 0 < m / 2
        · rw [if_pos h2]; exact pw_twice _ _ _ _ hk hl
        · have : m / 2 = 0 := by omega
          rw [this]; rfl
      rw [mulM_congr (fun k _ => rfl) fun k hk => e1 k j hk hj]
      unfold paS
      by_cases ho : m % 2 = 1
      · simp only [ho, if_true]
        rw [mulM_assoc]
        refine mulM_congr (fun _ _ => rfl) fun k hk => ?_
        rw [pw_comm _ _ hk hj]
        congr 1; omega
      · simp only [ho, if_false]
        have : 2 * (m / 2) = m := by omega
        rw [this]
    · obtain rfl : m = 0 := by omega
      rw [if_neg (by omega)]
      exact (mulM_idle _ _ hj).symm
theorem fzw {x y z k : Option Sl} {r : List (List Q)} : fzE [x, y, some (.v (wS r)), z, k] 2 = [x, y, some (.v (.fr (wD r))), z, k] := by
  show [x, y, some (.v (.fr (wS r).toD)), z, k] = _
  rw [wS_toD]
noncomputable def TP : En → SR := (fnS [] (sqS (ifS (t2 (b2 (vf 4) (cI 1) andD) (cI 1) eqD)
  (fzS 2 (asO 2 (cal (consA (vf 2) (consA (vf 3) nilA)) g_product)))
  nxS)
  (sqS (asS 4 (b2 (vf 4) (cI 1) shrD))
  (ifS (t2 (vf 4) (cI 0) gtD)
  (asS 3 (unO (cal (consA (vf 3) (consA (vf 3) nilA)) g_product)))
  nxS))))
theorem power_q {L n P C m : Nat} (hL : LOk L) {f : Nat → Nat → Q} (h0 : 0 < n) (hn : n ≤ 1000) (hf : BdM n L P f) (hC : m * P ≤ C) (h1 : C < 2 ^ 1900) (hm : m < 1000000) :
    g_power [wD (W n f), .int (m : Nat)] = .ok (wS (W n (pw n f m))) := by
  rw [b_power]
  have hlt : ¬ ((m : Int) < 0) := by omega
  have hw := half_while (t := t2 (vf 4) (cI 0) gtD) (T := TP) (fun (a : PA) (k : Nat) => [some (.v (.fr (wD (W n f)))), some (.v (.fr (.int (m : Nat)))), some (.v (wS (W n a.r))), some (.v (.fr (wD (W n a.f)))), some (.v (.fr (.int (k : Nat))))])
    (paS n) (fun a k => ∃ P' U', BdM n L P' a.f ∧ BdM n L U' a.r ∧ k * P' + U' ≤ C) (fun a k => by simp -implicitDefEqProofs) (fun a k hk ⟨P', U', i1, i2, i3⟩ => by
      have hP0 : P' ≤ k * P' := Nat.le_mul_of_pos_left _ hk
      have c1 : P' < 2 ^ 1900 := by omega
      have c2 : U' < 2 ^ 1900 := by omega
      have e1 := prod_q hL h0 hn i2 i1 c2 c1
      have e2 := prod_q hL h0 hn i1 i1 c1 c1
      have kk : k * P' = (k % 2) * P' + 2 * (k / 2 * P') := by
        have := Nat.div_add_mod k 2
        calc k * P' = (2 * (k / 2) + k % 2) * P' := by rw [this]
          _ = _ := by rw [Nat.add_mul, Nat.mul_assoc]; omega
      refine ⟨?_, (if 0 < k / 2 then P' + P' else P'), (if k % 2 = 1 then U' + P' else U'), ?_, ?_, ?_⟩
      · have ho2 : ((k : Int) % 2 == 1) = decide (k % 2 = 1) := by
          by_cases q : k % 2 = 1
          · rw [decide_eq_true q]; exact beq_iff_eq.mpr (by omega)
          · rw [decide_eq_false q]; exact beq_eq_false_iff_ne.mpr (by omega)
        have hd2 : decide ((0 : Int) < (k : Int) / 2) = decide (0 < k / 2) := by
          by_cases q : 0 < k / 2
          · rw [decide_eq_true q, decide_eq_true (by omega)]
          · rw [decide_eq_false q, decide_eq_false (by omega)]
        have s1 : shrD (.int (k : Nat)) (.int 1) = .ok (.int ((k / 2 : Nat) : Int)) := by
          rw [shr_i _ _ (by decide), shr1]
        unfold TP paS
        rw [e_fnS, e_sqS, e_ifS]
        rw [show t2 (b2 (vf 4) (cI 1) andD) (cI 1) eqD [some (.v (.fr (wD (W n f)))), some (.v (.fr (.int (m : Nat)))), some (.v (wS (W n a.r))), some (.v (.fr (wD (W n a.f)))), some (.v (.fr (.int (k : Nat))))] = .ok (decide (k % 2 = 1)) from by
          simp -implicitDefEqProofs [band1, ho2]]
        rw [R.st_ok]
        by_cases q1 : k % 2 = 1
        · by_cases q2 : 0 < k / 2
          · simp -implicitDefEqProofs [q1, q2, e1, e2, s1, wS_toD, hd2, fzw]
          · simp -implicitDefEqProofs [q1, q2, e1, e2, s1, wS_toD, hd2, fzw]
        · by_cases q2 : 0 < k / 2
          · simp -implicitDefEqProofs [q1, q2, e1, e2, s1, wS_toD, hd2, fzw]
          · simp -implicitDefEqProofs [q1, q2, e1, e2, s1, wS_toD, hd2, fzw]
      · unfold paS
        by_cases q2 : 0 < k / 2
        · simp only [q2, if_true]; exact bd_mulM hL.1 i1 i1
        · simp only [q2, if_false]; exact i1
      · unfold paS
        by_cases q1 : k % 2 = 1
        · simp only [q1, if_true]; exact bd_mulM hL.1 i2 i1
        · simp only [q1, if_false]; exact i2
      · have e3 : k / 2 * (if 0 < k / 2 then P' + P' else P') = 2 * (k / 2 * P') := by
          by_cases q2 : 0 < k / 2
          · rw [if_pos q2, Nat.mul_add]; omega
          · have : k / 2 = 0 := by omega
            rw [this]; simp
        rw [e3]
        by_cases q1 : k % 2 = 1
        · rw [if_pos q1]; rw [q1, Nat.one_mul] at kk; omega
        · have q0 : k % 2 = 0 := by omega
          rw [if_neg q1]; rw [q0, Nat.zero_mul] at kk; omega)
    (fun a k => paF n k k a) (fun a => rfl) (fun a k hk => by
      obtain ⟨j, rfl⟩ : ∃ j, k = j + 1 := ⟨k - 1, by omega⟩
      show (if 0 < j + 1 then paF n j ((j + 1) / 2) (paS n a (j + 1)) else a) = _
      rw [if_pos (by omega)]
      have := paF_le n (paS n a (j + 1)) (j - (j + 1) / 2) ((j + 1) / 2) (Nat.le_refl _)
      rw [← this]
      congr 1; omega) 1000000 m ⟨idleM, f⟩ hm ⟨P, 0, hf, bd_idle, by omega⟩
  obtain ⟨hw, _⟩ := hw
  have hR : W n (paF n m m ⟨idleM, f⟩).r = W n (pw n f m) := W_congr fun i j hi hj => by
    rw [paF_r n m m _ (Nat.le_refl _) i j hi hj]
    exact idle_mulM _ _ hi
  dsimp only at hw
  rw [hR] at hw
  unfold TP at hw
  unfold T_power
  refine endR_of (r := .rt (wS (W n (pw n f m)))) ?_ rfl
  refine sq_of (by simp -implicitDefEqProofs [] <;> exact rfl) ?_
  refine sq_of (by simp -implicitDefEqProofs [len_W, idle_q h0 hn, wS_toD] <;> exact rfl) ?_
  refine sq_of (by simp -implicitDefEqProofs [] <;> exact rfl) ?_
  refine sq_of (by simp -implicitDefEqProofs [] <;> exact rfl) ?_
  rw [e_sqS, e_fgS, e_whileS, fgE_nil]
  unfold fuel0
  rw [hw]
  simp -implicitDefEqProofs
theorem power_er {n : Nat} {f : Nat → Nat → Q} {m : Int} (hm : m < 0) : g_power [wD (W n f), .int m] = .er ("OutOfRange" : Str) := by
  rw [b_power]
  unfold T_power
  simp -implicitDefEqProofs [hm]
end LX
namespace LX
open PySem PySem.Spec PyProof.Rows L2 DL
open Builtin.Int (intBits)
theorem same_ok {n : Nat} {f g : Nat → Q} : g__check_same_length [vD (V n f), vD (V n g)] = .ok (.fr .none) := by
  rw [b__check_same_length]
  simp -implicitDefEqProofs [T__check_same_length, len_V]
theorem same_no {n m : Nat} {f g : Nat → Q} (h : n ≠ m) : g__check_same_length [vD (V n f), vD (V m g)] = .er "OutOfRange" := by
  rw [b__check_same_length]
  have h' : ((n : Int) == m) = false := beq_eq_false_iff_ne.mpr (by omega)
  simp -implicitDefEqProofs [T__check_same_length, len_V, h']
end LX
namespace LX
open PySem PySem.Spec PyProof.Rows L2 DL
open Builtin.Int (intBits)
theorem later_vector_q {n : Nat} {f g : Nat → Q} {a b : Nat} (hn : n ≤ 1000) (hf : ∀ k, k < n → Bt a (f k)) (hg : ∀ k, k < n → Bt b (g k)) (h : a + b ≤ 100000) : g_later_vector [vD (V n f), vD (V n g)] = .ok (vS (V n fun k => mmax (f k) (g k))) := by
  rw [b_later_vector]
  have e0 := @same_ok n f g
  have hc := @comp_zip Q Q [2, 3] 2 3 (consA (vf 0) (consA (vf 1) nilA)) (cal (consA (vf 2) (consA (vf 3) nilA)) g_later) [some (.v (.fr (vD (V n f)))), some (.v (.fr (vD (V n g)))), none, none] (V n f) (V n g) mD mD (fun x y => .fr (mD (mmax x y))) rfl
    (by unfold V; rw [List.length_map, List.length_range]; omega) (fun x y hz => by
      rw [zip_V] at hz
      obtain ⟨k, hk, e⟩ := List.mem_map.mp hz
      have hk := List.mem_range.mp hk
      cases e
      have e := later_q (hf k hk) (hg k hk) h
      simp -implicitDefEqProofs [e])
  unfold T_later_vector
  refine endR_of (r := .rt (vS (V n fun k => mmax (f k) (g k)))) ?_ rfl
  refine sq_of (by simp -implicitDefEqProofs [e0] <;> exact rfl) ?_
  rw [e_rtO]
  erw [hc]
  rw [zip_V, List.map_map, vS_V]
  rfl
theorem later_vector_no {n m : Nat} {f g : Nat → Q} (h : n ≠ m) : g_later_vector [vD (V n f), vD (V m g)] = .er "OutOfRange" := by
  rw [b_later_vector]
  have e0 := @same_no n m f g h
  simp -implicitDefEqProofs [T_later_vector, e0]
end LX
namespace LX
open PySem PySem.Spec PyProof.Rows L2 DL
open Builtin.Int (intBits)
def maxM (f g : Nat → Nat → Q) (i j : Nat) : Q := mmax (f i j) (g i j)
def maxV (f g : Nat → Q) (i : Nat) : Q := mmax (f i) (g i)
theorem zip_W (n : Nat) (f g : Nat → Nat → Q) : (W n f).zip (W n g) = (List.range n).map fun k => (V n (f k), V n (g k)) := by
  unfold W
  rw [List.zip_map', List.map_congr_left]
  intro _ _; rfl
theorem later_work_q {n : Nat} {f g : Nat → Nat → Q} (hn : n ≤ 1000) (hf : SM n f) (hg : SM n g) : g_later_work [wD (W n f), wD (W n g)] = .ok (wS (W n (maxM f g))) := by
  rw [b_later_work]
  have e0 := @size_q n n f g
  rw [if_pos rfl] at e0
  have hc := @comp_zip (List Q) (List Q) [2, 3] 2 3 (consA (vf 0) (consA (vf 1) nilA)) (cal (consA (vf 2) (consA (vf 3) nilA)) g_later_vector) [some (.v (.fr (wD (W n f)))), some (.v (.fr (wD (W n g)))), none, none] (W n f) (W n g) vD vD (fun x y => vS ((x.zip y).map fun p => mmax p.1 p.2)) rfl
    (by rw [W_len]; omega) (fun x y hz => by
      rw [zip_W] at hz
      obtain ⟨k, hk, e⟩ := List.mem_map.mp hz
      have hk := List.mem_range.mp hk
      cases e
      have e := later_vector_q (n := n) (a := 1900) (b := 1900) hn (fun j hj => hf k j hk hj) (fun j hj => hg k j hk hj) (by decide)
      rw [zip_V, List.map_map]
      simp -implicitDefEqProofs [e]
      rfl)
  unfold T_later_work
  refine endR_of (r := .rt (wS (W n (maxM f g)))) ?_ rfl
  refine sq_of (by simp -implicitDefEqProofs [e0] <;> exact rfl) ?_
  rw [e_rtO]
  erw [hc]
  rw [zip_W, List.map_map, wS_W]
  rw [R.st_ok]
  congr 2
  refine List.map_congr_left fun k hk => ?_
  show vS (((V n (f k)).zip (V n (g k))).map fun p => mmax p.1 p.2) = _
  rw [zip_V, List.map_map]
  rfl
theorem mulM_max_l (n : Nat) (f g h : Nat → Nat → Q) (i j : Nat) : mulM n f (maxM g h) i j = maxM (mulM n f g) (mulM n f h) i j := by
  unfold mulM maxM
  rw [← sup_max]
  exact sup_congr fun k _ => madd_mmax _ _ _
theorem mulM_max_r (n : Nat) (f g h : Nat → Nat → Q) (i j : Nat) : mulM n (maxM f g) h i j = maxM (mulM n f h) (mulM n g h) i j := by
  unfold mulM maxM
  rw [← sup_max]
  exact sup_congr fun k _ => mmax_madd _ _ _
theorem mulV_max_l (n : Nat) (f : Nat → Nat → Q) (g h : Nat → Q) (i : Nat) : mulV n f (maxV g h) i = maxV (mulV n f g) (mulV n f h) i := by
  unfold mulV maxV
  rw [← sup_max]
  exact sup_congr fun k _ => madd_mmax _ _ _
theorem mulV_max_r (n : Nat) (f g : Nat → Nat → Q) (h : Nat → Q) (i : Nat) : mulV n (maxM f g) h i = maxV (mulV n f h) (mulV n g h) i := by
  unfold mulV maxV maxM
  rw [← sup_max]
  exact sup_congr fun k _ => mmax_madd _ _ _
theorem bd_maxM {n L P : Nat} {f g : Nat → Nat → Q} (hf : BdM n L P f) (hg : BdM n L P g) : BdM n L P (maxM f g) := fun i j hi hj => (hf i j hi hj).max (hg i j hi hj)
theorem bd_maxV {n L P : Nat} {f g : Nat → Q} (hf : BdV n L P f) (hg : BdV n L P g) : BdV n L P (maxV f g) := fun i hi => (hf i hi).max (hg i hi)
theorem mlt_max_l (a b : Q) : mlt (mmax a b) a = false := by
  cases a with
  | none => cases b <;> rfl
  | some a => cases b with
    | none => simp [mmax, mlt]
    | some b =>
      rw [mmax_some]
      simp only [mlt, decide_eq_false_iff_not]
      split <;> grind
theorem pw_mul {n : Nat} (f : Nat → Nat → Q) (a : Nat) : ∀ (b i j : Nat), i < n → j < n → pw n (pw n f a) b i j = pw n f (a * b) i j
  | 0, _, _, _, _ => rfl
  | b + 1, i, j, hi, hj => by
    rw [Nat.mul_succ, ← pw_add f (a * b) a i j hi hj]
    show mulM n (pw n (pw n f a) b) (pw n f a) i j = _
    exact mulM_congr (fun k hk => pw_mul f a b i k hi hk) fun k _ => rfl
end LX
namespace LX
open PySem PySem.Spec PyProof.Rows L2 DL
open Builtin.Int (intBits)
theorem lplus_q {a b : Q} {n m : Nat} (ha : Bt n a) (hb : Bt m b) (h : n + m + 1 ≤ 4000) : g__law_plus [mD a, mD b] = .ok (.fr (mD (madd a b))) := by
  rw [b__law_plus]
  cases a with
  | none => simp -implicitDefEqProofs [T__law_plus, mD, madd]
  | some a =>
    cases b with
    | none => simp -implicitDefEqProofs [T__law_plus, mD, madd, isNo_q]
    | some b =>
      obtain ⟨a1, a2⟩ := ha
      obtain ⟨b1, b2⟩ := hb
      have e1 := mul_b a1 b2 (by omega)
      have e2 := mul_b b1 a2 (by omega)
      have e3 := mul_b a2 b2 (by omega)
      have n0 : (a.den : Int) * (b.den : Int) ≠ 0 := by
        have := a.den_nz; have := b.den_nz
        exact Int.mul_ne_zero (by omega) (by omega)
      have e4 := @lawfr_q (a.num * b.den + b.num * a.den) (a.den * b.den) n0 (Nat.le_trans (intBits_add_le (intBits_mul_le a1 b2) (intBits_mul_le b1 a2)) (by omega)) (Nat.le_trans (intBits_mul_le a2 b2) (by omega))
      rw [add_div] at e4
      simp -implicitDefEqProofs [T__law_plus, mD, madd, isNo_q, ix_q0, ix_q1, e1, e2, e3, e4]
end LX
namespace LX
open PySem PySem.Spec PyProof.Rows L2 DL
open Builtin.Int (intBits)
theorem lless_q {a b : Q} {n m : Nat} (ha : Bt n a) (hb : Bt m b) (h : n + m ≤ 100000) : g__law_less [mD a, mD b] = .ok (.fr (.bool (mlt a b))) := by
  rw [b__law_less]
  cases b with
  | none => cases a <;> simp -implicitDefEqProofs [T__law_less, mD, mlt, isNo_q]
  | some b =>
    cases a with
    | none => simp -implicitDefEqProofs [T__law_less, mD, mlt, isNo_q]
    | some a =>
      obtain ⟨a1, a2⟩ := ha
      obtain ⟨b1, b2⟩ := hb
      have e1 := mul_b a1 b2 (by omega)
      have e2 := mul_b b1 a2 (by omega)
      have e3 : (a < b) = (a.num * (b.den : Int) < b.num * (a.den : Int)) := propext (Rat.lt_iff a b)
      simp -implicitDefEqProofs [T__law_less, mD, mlt, isNo_q, ix_q0, ix_q1, e1, e2, e3]
end LX
namespace LX
open PySem PySem.Spec PyProof.Rows L2 DL
open Builtin.Int (intBits)
theorem llatest_q {xs : List Q} {n : Nat} (hx : ∀ x ∈ xs, Bt n x) (h : n ≤ 50000) : g__law_latest [.list (xs.map mD)] = .ok (.fr (mD (msup xs))) := by
  rw [b__law_latest]
  have hl := @forF_goI Q Q (setN 2) (fnS [2] (ifS (truR (unO (cal (consA (vf 1) (consA (vf 2) nilA)) g__law_less))) (asS 1 (vf 2)) nxS))
    (fun s => [some (.v (.fr (.list (xs.map mD)))), some (.v (.fr (mD s))), none]) mD mmax xs none (fun s rest => Bt n s ∧ ∀ x ∈ rest, Bt n x) ⟨trivial, hx⟩
    (fun s d rest ⟨h1, h2⟩ => by
      have hd := h2 d (List.mem_cons_self ..)
      refine ⟨_, rfl, ?_, bt_max h1 hd, fun x m => h2 x (List.mem_cons_of_mem _ m)⟩
      have e := lless_q h1 hd (by omega)
      unfold mmax
      cases hc : mlt s d with
      | true => rw [hc] at e; simp -implicitDefEqProofs [e]
      | false => rw [hc] at e; simp -implicitDefEqProofs [e])
  have hl' : forF (setN 2) (fnS [2] (ifS (truR (unO (cal (consA (vf 1) (consA (vf 2) nilA)) g__law_less))) (asS 1 (vf 2)) nxS)) (xs.map mD) [some (.v (.fr (.list (xs.map mD)))), some (.v (.fr .none)), none] = _ := hl
  simp -implicitDefEqProofs [T__law_latest]
  simp -implicitDefEqProofs [hl', msup]
end LX
namespace LX
open PySem PySem.Spec PyProof.Rows L2 DL
open Builtin.Int (intBits)
noncomputable def LPi : En → SR := (fnS [4] (apS 3 (frR (unO (compR [5] (cal (consA (vf 2) nilA) rng1) (setN 5) yesT (cal (consA (unO (compR [6] (cal (consA (vf 2) nilA) rng1) (setN 6) yesT (cal (consA (b2 (b2 (vf 0) (vf 4) ixD) (vf 6) ixD) (consA (b2 (b2 (vf 1) (vf 6) ixD) (vf 5) ixD) nilA)) g__law_plus))) nilA) g__law_latest))))))
def eP (a b n fo i : Option Sl) : En := [a, b, n, fo, i, none, none]
theorem lprow_q {L n P U : Nat} (hL : LOk L) {f g : Nat → Nat → Q} (hn : n ≤ 1000) (hf : BdM n L P f) (hg : BdM n L U g) (h1 : P < 2 ^ 1900) (h2 : U < 2 ^ 1900) {i : Nat} (hi : i < n) (fo : Option Sl) :
    (compR [5] (cal (consA (vf 2) nilA) rng1) (setN 5) yesT (cal (consA (unO (compR [6] (cal (consA (vf 2) nilA) rng1) (setN 6) yesT (cal (consA (b2 (b2 (vf 0) (vf 4) ixD) (vf 6) ixD) (consA (b2 (b2 (vf 1) (vf 6) ixD) (vf 5) ixD) nilA)) g__law_plus))) nilA) g__law_latest)) (eP (some (.v (.fr (wD (W n f))))) (some (.v (.fr (wD (W n g))))) (some (.v (.fr (.int (n : Nat))))) fo (some (.v (.fr (.int (i : Nat)))))) = .ok (vS (V n (mulM n f g i))) := by
  have er := rng1_ok (n := n) (by omega)
  have hc5 := @comp_rng [5] 5 n (consA (vf 2) nilA) (cal (consA (unO (compR [6] (cal (consA (vf 2) nilA) rng1) (setN 6) yesT (cal (consA (b2 (b2 (vf 0) (vf 4) ixD) (vf 6) ixD) (consA (b2 (b2 (vf 1) (vf 6) ixD) (vf 5) ixD) nilA)) g__law_plus))) nilA) g__law_latest) (eP (some (.v (.fr (wD (W n f))))) (some (.v (.fr (wD (W n g))))) (some (.v (.fr (.int (n : Nat))))) fo (some (.v (.fr (.int (i : Nat)))))) (fun j => .fr (mD (mulM n f g i j))) (by simp -implicitDefEqProofs [eP]) (by omega) (fun j hj => by
    have hc6 := @comp_rng [6] 6 n (consA (vf 2) nilA) (cal (consA (b2 (b2 (vf 0) (vf 4) ixD) (vf 6) ixD) (consA (b2 (b2 (vf 1) (vf 6) ixD) (vf 5) ixD) nilA)) g__law_plus)
      ((wipeE (eP (some (.v (.fr (wD (W n f))))) (some (.v (.fr (wD (W n g))))) (some (.v (.fr (.int (n : Nat))))) fo (some (.v (.fr (.int (i : Nat)))))) [5]).set 5 (some (.v (.fr (.int (j : Nat)))))) (fun k => .fr (mD (madd (f i k) (g k j)))) (by simp -implicitDefEqProofs [eP]) (by omega) (fun k hk => by
        have e := lplus_q ((hf i k hi hk).bt' hL h1 (by decide)) ((hg k j hk hj).bt' hL h2 (by decide)) (by decide)
        simp -implicitDefEqProofs [eP, ix_W _ hi, ix_W _ hk, ix_V _ hk, ix_V _ hj, e])
    have hl := @llatest_q ((List.range n).map fun k => madd (f i k) (g k j)) 4000 (fun x hx => by
      obtain ⟨k, hk, e⟩ := List.mem_map.mp hx
      have hk := List.mem_range.mp hk
      rw [← e]
      refine (Bd.add hL.1 (hf i k hi hk) (hg k j hk hj)).bt' hL ?_ (by decide)
      have : (2 : Nat) ^ 1900 + 2 ^ 1900 = 2 ^ 1901 := by rw [Nat.pow_succ 2 1900]; omega
      exact Nat.lt_of_lt_of_le (Nat.add_lt_add h1 h2) (by rw [this]; exact Nat.pow_le_pow_right (by decide) (by decide))) (by decide)
    rw [List.map_map] at hl
    have hl' : g__law_latest [.list ((List.range n).map fun k => mD (madd (f i k) (g k j)))] = .ok (.fr (mD (mulM n f g i j))) := hl
    rw [e_cal, e_consA, e_unO, hc6, R.bind_ok, R.bind_ok, e_nilA, R.bind_ok, R.bind_ok, show (S.ow ((List.range n).map fun k => S.fr (mD (madd (f i k) (g k j))))).toD = .list ((List.range n).map fun k => mD (madd (f i k) (g k j))) from by simp [Function.comp_def], hl'])
  erw [hc5]
  rw [vS_V]
theorem lprod_q {L n P U : Nat} (hL : LOk L) {f g : Nat → Nat → Q} (hn : n ≤ 1000) (hf : BdM n L P f) (hg : BdM n L U g) (h1 : P < 2 ^ 1900) (h2 : U < 2 ^ 1900) :
    g__law_product [wD (W n f), wD (W n g)] = .ok (.ow ((List.range n).map fun i => .fr (vD (V n (mulM n f g i))))) := by
  rw [b__law_product]
  have er := rng1_ok (n := n) (by omega)
  obtain ⟨e', q1, q2⟩ := forF_rng (b := setN 4) (T := LPi)
    (fun i env => env = eP (some (.v (.fr (wD (W n f))))) (some (.v (.fr (wD (W n g))))) (some (.v (.fr (.int (n : Nat))))) (some (.v (.ow ((List.range i).map fun i => .fr (vD (V n (mulM n f g i))))))) none)
    n (eP (some (.v (.fr (wD (W n f))))) (some (.v (.fr (wD (W n g))))) (some (.v (.fr (.int (n : Nat))))) (some (.v (.ow []))) none) rfl
    (fun i env hi he => by
      subst he
      refine ⟨_, _, rfl, .inl (show LPi _ = .nx (eP (some (.v (.fr (wD (W n f))))) (some (.v (.fr (wD (W n g))))) (some (.v (.fr (.int (n : Nat))))) (some (.v (.ow ((List.range (i + 1)).map fun i => .fr (vD (V n (mulM n f g i))))))) none) from ?_), rfl⟩
      have e := lprow_q hL hn hf hg h1 h2 hi (some (.v (.ow ((List.range i).map fun i => .fr (vD (V n (mulM n f g i)))))))
      have ej : (List.range (i + 1)).map (fun i => S.fr (vD (V n (mulM n f g i)))) = (List.range i).map (fun i => S.fr (vD (V n (mulM n f g i)))) ++ [.fr (vD (V n (mulM n f g i)))] := by rw [List.range_succ, List.map_append]; rfl
      rw [ej]
      unfold LPi
      refine fnS_of (e1 := eP (some (.v (.fr (wD (W n f))))) (some (.v (.fr (wD (W n g))))) (some (.v (.fr (.int (n : Nat))))) (some (.v (.ow ((List.range i).map (fun i => S.fr (vD (V n (mulM n f g i)))) ++ [.fr (vD (V n (mulM n f g i)))])))) (some (.v (.fr (.int (i : Nat)))))) ?_ (by simp -implicitDefEqProofs [eP])
      have ex : ∀ e0 : En, e0 = eP (some (.v (.fr (wD (W n f))))) (some (.v (.fr (wD (W n g))))) (some (.v (.fr (.int (n : Nat))))) (some (.v (.ow ((List.range i).map fun i => .fr (vD (V n (mulM n f g i))))))) (some (.v (.fr (.int (i : Nat))))) → (frR (unO (compR [5] (cal (consA (vf 2) nilA) rng1) (setN 5) yesT (cal (consA (unO (compR [6] (cal (consA (vf 2) nilA) rng1) (setN 6) yesT (cal (consA (b2 (b2 (vf 0) (vf 4) ixD) (vf 6) ixD) (consA (b2 (b2 (vf 1) (vf 6) ixD) (vf 5) ixD) nilA)) g__law_plus))) nilA) g__law_latest)))) e0 = .ok (.fr (vD (V n (mulM n f g i)))) := fun e0 he => by
        subst he
        rw [e_frR, e_unO, e, R.bind_ok, R.bind_ok, vS_toD]
      have hl : ((List.range i).map fun i => S.fr (vD (V n (mulM n f g i)))).length < 1000000 := by rw [List.length_map, List.length_range]; omega
      have h3 : ∀ (e0 : En) (xs : List S) (f : En → DL.R S) (s : S), e0[3]? = some (some (.v (.ow xs))) → f e0 = .ok s → xs.length < 1000000 → apS 3 f e0 = .nx (e0.set 3 (some (.v (.ow (xs ++ [s]))))) := fun e0 xs f s h1 h2 h3 => by
        unfold apS; rw [h1]; dsimp only; rw [h2, R.st_ok, if_pos h3]
      exact h3 _ _ _ _ rfl (ex _ rfl) hl)
  subst q2
  unfold T__law_product
  refine endR_of (r := .rt (.ow ((List.range n).map fun i => .fr (vD (V n (mulM n f g i)))))) ?_ rfl
  refine sq_of (e1 := eP (some (.v (.fr (wD (W n f))))) (some (.v (.fr (wD (W n g))))) (some (.v (.fr (.int (n : Nat))))) none none) (by simp -implicitDefEqProofs [eP, len_W]) ?_
  refine sq_of (e1 := eP (some (.v (.fr (wD (W n f))))) (some (.v (.fr (wD (W n g))))) (some (.v (.fr (.int (n : Nat))))) (some (.v (.ow []))) none) rfl ?_
  refine sq_of (e1 := eP (some (.v (.fr (wD (W n f))))) (some (.v (.fr (wD (W n g))))) (some (.v (.fr (.int (n : Nat))))) (some (.v (.ow ((List.range n).map fun i => .fr (vD (V n (mulM n f g i))))))) none) (by
    have ec : ∀ env : En, env = eP (some (.v (.fr (wD (W n f))))) (some (.v (.fr (wD (W n g))))) (some (.v (.fr (.int (n : Nat))))) (some (.v (.ow []))) none → cal (consA (vf 2) nilA) rng1 env = .ok (rngL 0 n) := fun env he => by
      subst he; simp -implicitDefEqProofs [eP, er]
    rw [e_fgS, e_forS]
    erw [ec _ rfl, R.st_ok]
    exact q1) ?_
  rfl
theorem lprod_toD {n : Nat} {f g : Nat → Nat → Q} : (S.ow ((List.range n).map fun i => .fr (vD (V n (mulM n f g i))))).toD = wD (W n (mulM n f g)) := by
  rw [wD_W]; simp [Function.comp_def]
end LX
namespace LX
open PySem PySem.Spec PyProof.Rows L2 DL
open Builtin.Int (intBits)
theorem lidle_q {n : Nat} (hn : n ≤ 1000) : g__law_idle [.int (n : Nat)] = .ok (wS (W n idleM)) := by
  rw [b__law_idle]
  have er := rng1_ok (n := n) (by omega)
  have hc := @comp_rng [1] 1 n (consA (vf 0) nilA) (compR [2] (cal (consA (vf 0) nilA) rng1) (setN 2) yesT (frR (b2 (unO (lstR (consA cN (consA (tupR (consA (cI 0) (consA (cI 1) nilA))) nilA)))) (cal (consA (b2 (vf 1) (vf 2) eqD) nilA) (one intD)) ixD))) [some (.v (.fr (.int (n : Nat)))), none, none] (fun i => vS (V n (idleM i))) rfl (by omega) (fun i hi => by
    rw [vS_V]
    refine comp_rng (n := n) (by simp -implicitDefEqProofs) (by omega) fun j hj => ?_
    have e : eqD (.int (i : Nat)) (.int (j : Nat)) = .ok (.bool (decide (i = j))) := by
      have : ((i : Int) == (j : Int)) = decide (i = j) := by
        rw [Bool.eq_iff_iff, beq_iff_eq, decide_eq_true_iff]; omega
      rw [eq_i, this]
    unfold idleM
    by_cases h : i = j
    · rw [decide_eq_true h] at e
      rw [if_pos h]
      have ix : ixD (.list [.none, .tuple [.int 0, .int 1]]) (.int 1) = .ok (mD (some 0)) := rfl
      simp -implicitDefEqProofs [e, ix]
    · rw [decide_eq_false h] at e
      rw [if_neg h]
      have ix : ixD (.list [.none, .tuple [.int 0, .int 1]]) (.int 0) = .ok (mD none) := rfl
      simp -implicitDefEqProofs [e, ix])
  unfold T__law_idle
  rw [e_rtO, hc, R.st_ok, endR_rt, wS_W]
end LX
namespace LX
open PySem PySem.Spec PyProof.Rows L2 DL
open Builtin.Int (intBits)
noncomputable def TN : En → SR := (fnS [] (apP 0 (rfX 0 (rfV 0) (vf 2)) (frR (vf 2))))
def encX : Q ⊕ Int → D
  | .inl q => mD q
  | .inr i => .int i
theorem eqe_x : EqE 1 encX where
  can a := by
    cases a with
    | inl q => exact eqe_q.can q
    | inr i => rfl
  dep a := by
    cases a with
    | inl q => exact eqe_q.dep q
    | inr i => exact Nat.zero_le _
  eq a b := by
    cases a with
    | inl q =>
      cases b with
      | inl p => exact (eqe_q.eq q p).trans ⟨fun h => by rw [h], fun h => by cases h; rfl⟩
      | inr i => cases q <;> simp [encX, mD, qD, PyData.eqv]
    | inr i =>
      cases b with
      | inl p => cases p <;> simp [encX, mD, qD, PyData.eqv]
      | inr j => simp [encX, PyData.eqv]
theorem isT_w (w : List (List Q)) : isT "list" (wD w) = true := by
  unfold isT wD tyD; rfl
def rowK (n : Nat) (f : Nat → Nat → Q) (k i : Nat) : S := .ow (((V n (f i)).map fun q => .fr (mD q)) ++ (if i < k then [.fr (.int (i : Nat))] else []))
def actK (n : Nat) (f : Nat → Nat → Q) (k : Nat) : S := .ow ((List.range n).map (rowK n f k))
theorem act0 (n : Nat) (f : Nat → Nat → Q) : actK n f 0 = wS (W n f) := by
  unfold actK rowK
  rw [wS_W]
  congr 1
  refine List.map_congr_left fun i _ => ?_
  rw [if_neg (by omega), List.append_nil]; rfl
theorem toD_rowK (n : Nat) (f : Nat → Nat → Q) {k i : Nat} (h : i < k) : (rowK n f k i).toD = .list ((V n (f i)).map mD ++ [.int (i : Nat)]) := by
  unfold rowK
  rw [if_pos h, toD_ow, List.map_append, List.map_map]
  rfl
theorem toD_act (n : Nat) (f : Nat → Nat → Q) : (actK n f n).toD = .list ((List.range n).map fun i => .list ((V n (f i)).map mD ++ [.int (i : Nat)])) := by
  unfold actK
  rw [toD_ow, List.map_map]
  congr 1
  exact List.map_congr_left fun i hi => toD_rowK n f (List.mem_range.mp hi)
theorem len_act (n : Nat) (f : Nat → Nat → Q) (k : Nat) : lenD (actK n f k).toD = .ok (.int (n : Nat)) := by
  unfold actK
  rw [toD_ow]
  show DL.R.ok (PyData.int ((((List.range n).map (rowK n f k)).map S.toD).length : Nat)) = _
  simp
theorem step_ok {n k : Nat} (f : Nat → Nat → Q) (hn : n ≤ 1000) (hk : k < n) (d : Option Sl) :
    TN [some (.v (actK n f k)), d, some (.v (.fr (.int (k : Nat))))] = .nx [some (.v (actK n f (k + 1))), d, some (.v (.fr (.int (k : Nat))))] := by
  have e1 : rfX 0 (rfV 0) (vf 2) [some (.v (actK n f k)), d, some (.v (.fr (.int (k : Nat))))] = .ok [k] := by
    unfold rfX rfV actK
    simp [getS, ixn_nat hk]
  have e2 : getP (actK n f k) [k] = some ((V n (f k)).map fun q => .fr (mD q)) := by
    unfold actK
    simp [getP, hk, rowK]
  have hl : ((V n (f k)).map fun q => S.fr (mD q)).length < 1000000 := by simp [V]; omega
  have e3 : setP (actK n f k) [k] (((V n (f k)).map fun q => .fr (mD q)) ++ [.fr (.int (k : Nat))]) = actK n f (k + 1) := by
    unfold actK
    show S.ow (((List.range n).map (rowK n f k)).modify k _) = _
    congr 1
    apply List.ext_getElem
    · simp
    · intro i h1 h2
      rw [List.getElem_modify]
      simp only [List.getElem_map, List.getElem_range]
      by_cases z : k = i
      · subst z
        rw [if_pos rfl]
        simp [rowK, setP]
      · rw [if_neg z]
        unfold rowK
        congr 2
        by_cases y : i < k
        · rw [if_pos y, if_pos (by omega)]
        · rw [if_neg y, if_neg (by omega)]
  unfold TN
  refine fnS_of (e1 := [some (.v (actK n f (k + 1))), d, some (.v (.fr (.int (k : Nat))))]) ?_ rfl
  unfold apP
  rw [e1, R.st_ok]
  show (match getP (actK n f k) [k] with
    | some ts => (frR (vf 2) ([some (.v (actK n f k)), d, some (.v (.fr (.int (k : Nat))))] : En)).st ([some (.v (actK n f k)), d, some (.v (.fr (.int (k : Nat))))] : En) fun t => if ts.length < 1000000 then SR.nx (([some (.v (actK n f k)), d, some (.v (.fr (.int (k : Nat))))] : En).set 0 (some (.v (setP (actK n f k) [k] (ts ++ [t]))))) else .no
    | none => .no) = _
  rw [e2]
  dsimp only
  rw [show frR (vf 2) ([some (.v (actK n f k)), d, some (.v (.fr (.int (k : Nat))))] : En) = .ok (.fr (.int (k : Nat))) from rfl, R.st_ok, if_pos hl, e3]
  rfl
theorem lnew_q {n : Nat} {f : Nat → Nat → Q} (hn : n ≤ 30) (hf : SM n f) : g__law_new (wS (W n f)) [wD (W n f)] = .ok (.fr (.bool true)) := by
  rw [b__law_new]
  have rp := repr_W hn hf
  have ht := wS_toD (W n f)
  have er := rng1_ok (n := n) (by omega)
  obtain ⟨e', q1, y, q2⟩ := forF_rng (b := setN 2) (T := TN)
    (fun k env => ∃ y, env = [some (.v (actK n f k)), some (.v (.fr (wD (W n f)))), y])
    n [some (.v (actK n f 0)), some (.v (.fr (wD (W n f)))), none] ⟨none, rfl⟩
    (fun k env hk ⟨y, hy⟩ => by
      subst hy
      exact ⟨_, _, rfl, .inl (step_ok f (by omega) hk _), _, rfl⟩)
  subst q2
  rw [act0] at q1
  unfold T__law_new
  refine endR_of (r := .rt (.fr (.bool true))) ?_ rfl
  refine sq_of (e1 := [some (.v (wS (W n f))), some (.v (.fr (wD (W n f)))), none]) (by simp -implicitDefEqProofs [ht, isT_w, ne_W, rp, ne_s]) ?_
  refine sq_of (e1 := [some (.v (actK n f n)), some (.v (.fr (wD (W n f)))), y]) (by
    have ec : ∀ env : En, env = [some (.v (wS (W n f))), some (.v (.fr (wD (W n f)))), none] → cal (consA (cal (consA (vh 0) nilA) (one lenD)) nilA) rng1 env = .ok (rngL 0 n) := fun env he => by
      subst he; simp -implicitDefEqProofs [ht, len_W, er]
    rw [e_fgS, e_forS]
    erw [ec _ rfl, R.st_ok]
    exact q1) ?_
  have hc := @comp_rng [2] 2 n (cal (consA (vf 1) nilA) (one lenD) |> fun f => consA f nilA) (frR (b2 (b2 (vf 1) (vf 2) ixD) (unO (lstR (consA (vf 2) nilA))) addD)) [some (.v (actK n f n)), some (.v (.fr (wD (W n f)))), y] (fun i => .fr (.list ((V n (f i)).map mD ++ [.int (i : Nat)]))) (by simp -implicitDefEqProofs [len_W]) (by omega) (fun i hi => by
    have ea : addD (vD (V n (f i))) (.list [.int (i : Nat)]) = .ok (.list ((V n (f i)).map mD ++ [.int (i : Nat)])) := addl (by simp [V]; omega)
    simp -implicitDefEqProofs [ix_W _ hi, ea])
  have hu : unO (compR [2] (cal (consA (cal (consA (vf 1) nilA) (one lenD)) nilA) rng1) (setN 2) yesT (frR (b2 (b2 (vf 1) (vf 2) ixD) (unO (lstR (consA (vf 2) nilA))) addD))) [some (.v (actK n f n)), some (.v (.fr (wD (W n f)))), y] = .ok (.list ((List.range n).map fun i => .list ((V n (f i)).map mD ++ [.int (i : Nat)]))) := by
    rw [e_unO]
    erw [hc]
    rw [R.bind_ok]
    simp [Function.comp_def]
  have heq : eqD (.list ((List.range n).map fun i => .list ((V n (f i)).map mD ++ [.int (i : Nat)]))) (.list ((List.range n).map fun i => .list ((V n (f i)).map mD ++ [.int (i : Nat)]))) = .ok (.bool true) := by
    have e := (eqe_list (eqe_list eqe_x)).eqD (by decide) ((List.range n).map fun i => (V n (f i)).map Sum.inl ++ [Sum.inr (i : Int)]) ((List.range n).map fun i => (V n (f i)).map Sum.inl ++ [Sum.inr (i : Int)])
    rw [decide_eq_true rfl] at e
    rw [List.map_map] at e
    have em : (List.range n).map ((fun xs : List (Q ⊕ Int) => PyData.list (xs.map encX)) ∘ fun i : Nat => (V n (f i)).map Sum.inl ++ [Sum.inr (i : Int)]) = (List.range n).map fun i => .list ((V n (f i)).map mD ++ [.int (i : Nat)]) := List.map_congr_left fun i _ => by
      show PyData.list (((V n (f i)).map Sum.inl ++ [Sum.inr (i : Int)]).map encX) = _
      rw [List.map_append, List.map_map]
      rfl
    rw [em] at e
    exact e
  rw [e_rtS, e_b2, show vh 0 [some (.v (actK n f n)), some (.v (.fr (wD (W n f)))), y] = .ok (actK n f n).toD from rfl, R.bind_ok]
  erw [hu]
  rw [R.bind_ok, toD_act, heq]
  rfl
end LX
namespace LX
open PySem PySem.Spec PyProof.Rows L2 DL
open Builtin.Int (intBits)
theorem sel_or : sel_OutOfRange "OutOfRange" = some true := by unfold sel_OutOfRange; decide
theorem later_work_er {n m : Nat} {f g : Nat → Nat → Q} (h : n ≠ m) : g_later_work [wD (W n f), wD (W m g)] = .er ("OutOfRange" : Str) := by
  rw [b_later_work]
  have e0 := @size_q n m f g
  rw [if_neg h] at e0
  simp -implicitDefEqProofs [T_later_work, e0]
theorem ref0_ok {n m : Nat} {f g : Nat → Nat → Q} (h : n ≠ m) : g__law_refused [.int 0, wD (W n f), wD (W m g)] = .ok (.fr (.bool true)) := by
  rw [b__law_refused]
  have e1 := @prod_er n m f g h
  have e3 : (tryS 3 sel_OutOfRange (sqS (ifS (t2 (vf 0) (cI 0) eqD)
  (exS (unO (cal (consA (vf 1) (consA (vf 2) nilA)) g_product)))
  nxS)
  (sqS (ifS (t2 (vf 0) (cI 1) eqD)
  (exS (unO (cal (consA (vf 1) (consA (vf 2) nilA)) g_later_work)))
  nxS)
  (sqS (ifS (t2 (vf 0) (cI 2) eqD)
  (exS (unO (cal (consA (vf 2) nilA) g_idle)))
  nxS)
  (ifS (t2 (vf 0) (cI 3) eqD)
  (exS (unO (cal (consA (vf 1) (consA (vf 2) nilA)) g_power)))
  nxS)))) (fun c a env => if c = ("OutOfRange" : Str) then (rtS (andV (isiS 3 a true) (andV (isiS 3 a true) (notV (isiS 3 a false))))) env else .no)) [some (.v (.fr (.int 0))), some (.v (.fr (wD (W n f)))), some (.v (.fr (wD (W m g)))), none] = .rt (.fr (.bool true)) := by
    unfold tryS
    simp -implicitDefEqProofs [e1, sel_or]
    refine tryX_eq fun a => ?_
    simp -implicitDefEqProofs [isiS, SR.un]
  unfold T__law_refused
  rw [e_sqS, e3]
  rfl
theorem ref1_ok {n m : Nat} {f g : Nat → Nat → Q} (h : n ≠ m) : g__law_refused [.int 1, wD (W n f), wD (W m g)] = .ok (.fr (.bool true)) := by
  rw [b__law_refused]
  have e1 := @later_work_er n m f g h
  have e3 : (tryS 3 sel_OutOfRange (sqS (ifS (t2 (vf 0) (cI 0) eqD)
  (exS (unO (cal (consA (vf 1) (consA (vf 2) nilA)) g_product)))
  nxS)
  (sqS (ifS (t2 (vf 0) (cI 1) eqD)
  (exS (unO (cal (consA (vf 1) (consA (vf 2) nilA)) g_later_work)))
  nxS)
  (sqS (ifS (t2 (vf 0) (cI 2) eqD)
  (exS (unO (cal (consA (vf 2) nilA) g_idle)))
  nxS)
  (ifS (t2 (vf 0) (cI 3) eqD)
  (exS (unO (cal (consA (vf 1) (consA (vf 2) nilA)) g_power)))
  nxS)))) (fun c a env => if c = ("OutOfRange" : Str) then (rtS (andV (isiS 3 a true) (andV (isiS 3 a true) (notV (isiS 3 a false))))) env else .no)) [some (.v (.fr (.int 1))), some (.v (.fr (wD (W n f)))), some (.v (.fr (wD (W m g)))), none] = .rt (.fr (.bool true)) := by
    unfold tryS
    simp -implicitDefEqProofs [e1, sel_or]
    refine tryX_eq fun a => ?_
    simp -implicitDefEqProofs [isiS, SR.un]
  unfold T__law_refused
  rw [e_sqS, e3]
  rfl
theorem ref2_ok {n : Nat} {f : Nat → Nat → Q} {m : Int} (h : m < 1) : g__law_refused [.int 2, wD (W n f), .int m] = .ok (.fr (.bool true)) := by
  rw [b__law_refused]
  have e1 := @idle_er m h
  have e3 : (tryS 3 sel_OutOfRange (sqS (ifS (t2 (vf 0) (cI 0) eqD)
  (exS (unO (cal (consA (vf 1) (consA (vf 2) nilA)) g_product)))
  nxS)
  (sqS (ifS (t2 (vf 0) (cI 1) eqD)
  (exS (unO (cal (consA (vf 1) (consA (vf 2) nilA)) g_later_work)))
  nxS)
  (sqS (ifS (t2 (vf 0) (cI 2) eqD)
  (exS (unO (cal (consA (vf 2) nilA) g_idle)))
  nxS)
  (ifS (t2 (vf 0) (cI 3) eqD)
  (exS (unO (cal (consA (vf 1) (consA (vf 2) nilA)) g_power)))
  nxS)))) (fun c a env => if c = ("OutOfRange" : Str) then (rtS (andV (isiS 3 a true) (andV (isiS 3 a true) (notV (isiS 3 a false))))) env else .no)) [some (.v (.fr (.int 2))), some (.v (.fr (wD (W n f)))), some (.v (.fr (.int m))), none] = .rt (.fr (.bool true)) := by
    unfold tryS
    simp -implicitDefEqProofs [e1, sel_or]
    refine tryX_eq fun a => ?_
    simp -implicitDefEqProofs [isiS, SR.un]
  unfold T__law_refused
  rw [e_sqS, e3]
  rfl
theorem ref3_ok {n : Nat} {f : Nat → Nat → Q} {m : Int} (h : m < 0) : g__law_refused [.int 3, wD (W n f), .int m] = .ok (.fr (.bool true)) := by
  rw [b__law_refused]
  have e1 := @power_er n f m h
  have e3 : (tryS 3 sel_OutOfRange (sqS (ifS (t2 (vf 0) (cI 0) eqD)
  (exS (unO (cal (consA (vf 1) (consA (vf 2) nilA)) g_product)))
  nxS)
  (sqS (ifS (t2 (vf 0) (cI 1) eqD)
  (exS (unO (cal (consA (vf 1) (consA (vf 2) nilA)) g_later_work)))
  nxS)
  (sqS (ifS (t2 (vf 0) (cI 2) eqD)
  (exS (unO (cal (consA (vf 2) nilA) g_idle)))
  nxS)
  (ifS (t2 (vf 0) (cI 3) eqD)
  (exS (unO (cal (consA (vf 1) (consA (vf 2) nilA)) g_power)))
  nxS)))) (fun c a env => if c = ("OutOfRange" : Str) then (rtS (andV (isiS 3 a true) (andV (isiS 3 a true) (notV (isiS 3 a false))))) env else .no)) [some (.v (.fr (.int 3))), some (.v (.fr (wD (W n f)))), some (.v (.fr (.int m))), none] = .rt (.fr (.bool true)) := by
    unfold tryS
    simp -implicitDefEqProofs [e1, sel_or]
    refine tryX_eq fun a => ?_
    simp -implicitDefEqProofs [isiS, SR.un]
  unfold T__law_refused
  rw [e_sqS, e3]
  rfl
end LX
namespace LX
open PySem PySem.Spec PyProof.Rows L2 DL
open Builtin.Int (intBits)
theorem cut_map {A B : Type} (f : A → B) (ds : List A) (lo hi : Option Int) : DL.cutD (ds.map f) lo hi = (DL.cutD ds lo hi).map f := by
  unfold DL.cutD
  rw [List.length_map, List.map_take, List.map_drop]
theorem cut_le {A : Type} (ds : List A) (lo hi : Option Int) : (DL.cutD ds lo hi).length ≤ ds.length := by
  unfold DL.cutD
  rw [List.length_take, List.length_drop]
  omega

theorem cut_len {ns : List Int} (h : ns.length ≤ 63) (lo hi : Option Int) : (DL.cutD ns lo hi).length ≤ 1000 := Nat.le_trans (cut_le ns lo hi) (by omega)
end LX
namespace LX
open PySem PySem.Spec PyProof.Rows L2 DL
open Builtin.Int (intBits)
noncomputable def LR : En → SR := (fnS [] (apS 3 (frR (unO (compR [20] (cal (consA (vf 2) nilA) rng1) (setN 20) yesT (cal (consA (b2 (unO (cal (consA (vf 0) (consA (b2 (b2 (cI 27) (b2 (vf 4) (vf 2) mulD) addD) (vf 20) addD) nilA)) g__law_cell)) (b2 (cI 13) (vf 20) mulD) addD) (consA (b2 (cal (consA (unO (cal (consA (vf 0) (consA (cI 1) nilA)) g__law_cell)) nilA) (one intD)) (cI 9) modD) nilA)) g__law_small))))))
noncomputable def PB : En → SR := (fnS [10, 11, 12] (sqS (asS 12 (cal (consA (vh 11) nilA) (one reprD)))
  (sqS (apP 10 (rfX 10 (rfV 10) (cI 0)) (frR cN))
  (sqS (apS 10 (frR cN))
  (ifS (lnT 11 (t2 (cal (consA (vf 11) nilA) (one reprD)) (vf 12) neD))
  (rtS (cB false))
  nxS)))))
def eL (s f n g i kp du ex k pr on tw sa fa la mo ot wy wi pa j : Option Sl) : En := [s, f, n, g, i, kp, du, ex, k, pr, on, tw, sa, fa, la, mo, ot, wy, wi, pa, j]
theorem noT_v (v : List Q) : noT (vS v) = true := by
  show noTs (v.map fun q => .fr (mD q)) = true
  induction v with
  | nil => rfl
  | cons q v ih => exact ih
theorem noT_w (w : List (List Q)) : noT (wS w) = true := by
  show noTs (w.map vS) = true
  induction w with
  | nil => rfl
  | cons v w ih => show (noT (vS v) && noTs (w.map vS)) = true; rw [noT_v, ih]; rfl
theorem apS_of {i : Nat} {e0 : En} {xs : List S} {f : En → DL.R S} {s : S} (h1 : e0[i]? = some (some (.v (.ow xs)))) (h2 : f e0 = .ok s) (h3 : xs.length < 1000000) : apS i f e0 = .nx (e0.set i (some (.v (.ow (xs ++ [s]))))) := by
  unfold apS; rw [h1]; dsimp only; rw [h2, R.st_ok, if_pos h3]
theorem pb_ok {n : Nat} {f : Nat → Nat → Q} (n0 : 1 ≤ n) (hn : n ≤ 30) (hf : SM n f) (s f0 nn g i kp du ex k pr sa fa la mo ot wy wi pa j : Option Sl) :
    PB (eL s f0 nn g i kp du ex k pr (some (.v (wS (W n f)))) (some (.v (wS (W n f)))) sa fa la mo ot wy wi pa j) = .nx (eL s f0 nn g i kp du ex k pr none none none fa la mo ot wy wi pa j) := by
  have rp := repr_W hn hf
  have ht := wS_toD (W n f)
  obtain ⟨w0, ws, hw⟩ : ∃ w0 ws, W n f = w0 :: ws := by
    cases h : W n f with
    | nil => have := W_len n f; rw [h] at this; simp at this; omega
    | cons a b => exact ⟨a, b, rfl⟩
  have hwl : (W n f).length = n := W_len n f
  have h0 : w0.length ≤ 1000 := by
    have : w0 ∈ W n f := by rw [hw]; exact List.mem_cons_self
    obtain ⟨i, _, e⟩ := mem_W this
    rw [e, V_len]; omega
  have es : wS (W n f) = .ow (vS w0 :: ws.map vS) := by rw [hw]; rfl
  have hl : (vS w0 :: ws.map vS).length < 1000000 := by rw [hw] at hwl; simp at hwl ⊢; omega
  have hl0 : (w0.map fun q => S.fr (mD q)).length < 1000000 := by simp; omega
  obtain ⟨a1, ha1, ha2⟩ : ∃ a1 : List S, a1.length = n ∧ apP 10 (rfX 10 (rfV 10) (cI 0)) (frR cN) (eL s f0 nn g i kp du ex k pr (some (.v (wS (W n f)))) (some (.v (wS (W n f)))) (some (.v (.fr (.str (wD (W n f)).shown)))) fa la mo ot wy wi pa j) = .nx (eL s f0 nn g i kp du ex k pr (some (.v (.ow a1))) (some (.v (wS (W n f)))) (some (.v (.fr (.str (wD (W n f)).shown)))) fa la mo ot wy wi pa j) := by
    refine ⟨.ow ((w0.map fun q => S.fr (mD q)) ++ [.fr .none]) :: ws.map vS, by rw [hw] at hwl; simpa using hwl, ?_⟩
    have e1 : rfX 10 (rfV 10) (cI 0) (eL s f0 nn g i kp du ex k pr (some (.v (wS (W n f)))) (some (.v (wS (W n f)))) (some (.v (.fr (.str (wD (W n f)).shown)))) fa la mo ot wy wi pa j) = .ok [0] := by
      unfold rfX rfV eL
      rw [es]
      have : ixN (ws.length + 1) 0 = some 0 := @ixn_nat (ws.length + 1) 0 (by omega)
      simp -implicitDefEqProofs [getS, this]
    unfold apP
    rw [e1, R.st_ok]
    rw [show (eL s f0 nn g i kp du ex k pr (some (.v (wS (W n f)))) (some (.v (wS (W n f)))) (some (.v (.fr (.str (wD (W n f)).shown)))) fa la mo ot wy wi pa j)[10]? = some (some (.v (wS (W n f)))) from rfl]
    dsimp only
    rw [show getP (wS (W n f)) [0] = some (w0.map fun q => .fr (mD q)) from by rw [es]; rfl]
    dsimp only
    rw [e_frR, e_cN, R.bind_ok, R.st_ok, if_pos hl0]
    rw [show setP (wS (W n f)) [0] ((w0.map fun q => .fr (mD q)) ++ [.fr .none]) = .ow (.ow ((w0.map fun q => S.fr (mD q)) ++ [.fr .none]) :: ws.map vS) from by rw [es]; rfl]
    rfl
  unfold PB
  refine fnS_of (e1 := eL s f0 nn g i kp du ex k pr (some (.v (.ow (a1 ++ [.fr .none])))) (some (.v (wS (W n f)))) (some (.v (.fr (.str (wD (W n f)).shown)))) fa la mo ot wy wi pa j) ?_ (by simp -implicitDefEqProofs [eL])
  refine sq_of (e1 := eL s f0 nn g i kp du ex k pr (some (.v (wS (W n f)))) (some (.v (wS (W n f)))) (some (.v (.fr (.str (wD (W n f)).shown)))) fa la mo ot wy wi pa j) (by simp -implicitDefEqProofs [eL, ht, rp]) ?_
  refine sq_of ha2 ?_
  refine sq_of (apS_of rfl rfl (by omega)) ?_
  show ifS _ _ _ (eL s f0 nn g i kp du ex k pr (some (.v (.ow (a1 ++ [.fr .none])))) (some (.v (wS (W n f)))) (some (.v (.fr (.str (wD (W n f)).shown)))) fa la mo ot wy wi pa j) = _
  rw [e_ifS, e_lnT (s := wS (W n f)) rfl (noT_w _)]
  rw [show t2 (cal (consA (vf 11) nilA) (one reprD)) (vf 12) neD ((eL s f0 nn g i kp du ex k pr (some (.v (.ow (a1 ++ [.fr .none])))) (some (.v (wS (W n f)))) (some (.v (.fr (.str (wD (W n f)).shown)))) fa la mo ot wy wi pa j).set 11 (some (.v (.fr (wS (W n f)).toD)))) = .ok false from by
    rw [ht]
    simp -implicitDefEqProofs [eL, rp, ne_s]]
  rfl
def rS (n : Nat) (g : Nat → Nat → Q) (k : Nat) : S := .ow ((List.range k).map fun i => .fr (vD (V n (g i))))
theorem rS_toD (n : Nat) (g : Nat → Nat → Q) : (rS n g n).toD = wD (W n g) := by
  unfold rS; rw [wD_W]; simp [Function.comp_def]
theorem second_ok (ns : List Int) (x1 : Int) (c1 : g__law_cell [.list (ns.map .int), .int 1] = .ok (.fr (.int x1))) {n : Nat} (hn : n ≤ 5) : ∃ g : Nat → Nat → Q, BdM n 27720 194040 g ∧ ∀ (f0 : Option Sl) (k : Nat), k < n →
    ∀ y, LR (eL (some (.v (.fr (.list (ns.map .int))))) f0 (some (.v (.fr (.int (n : Nat))))) (some (.v (rS n g k))) (some (.v (.fr (.int (k : Nat))))) none none none none none none none none none none none none none none none y) =
      .nx (eL (some (.v (.fr (.list (ns.map .int))))) f0 (some (.v (.fr (.int (n : Nat))))) (some (.v (rS n g (k + 1)))) (some (.v (.fr (.int (k : Nat))))) none none none none none none none none none none none none none none none y) := by
  have key : ∀ i j : Nat, ∃ q : Q, g__law_small [.int (ns.getD (27 + i * n + j) 0 + 13 * (j : Int)), .int (x1.fmod 9)] = .ok (.fr (mD q)) ∧ Bd 27720 194040 q := fun i j => lsmall_q _ _
  obtain ⟨g, hg⟩ : ∃ g : Nat → Nat → Q, ∀ i j : Nat, g__law_small [.int (ns.getD (27 + i * n + j) 0 + 13 * (j : Int)), .int (x1.fmod 9)] = .ok (.fr (mD (g i j))) ∧ Bd 27720 194040 (g i j) := ⟨fun i j => (key i j).choose, fun i j => (key i j).choose_spec⟩
  refine ⟨g, fun i j _ _ => (hg i j).2, fun f0 i hi y => ?_⟩
  have er := rng1_ok (n := n) (by omega)
  have m9 : modD (.int x1) (.int 9) = .ok (.int (x1.fmod 9)) := mod_i _ _ (by decide)
  have m2 : mulD (.int (i : Nat)) (.int (n : Nat)) = .ok (.int ((i : Int) * (n : Int))) := mul_b (m := 6) (n := 6) (bits_of (by omega)) (bits_of (by omega)) (by decide)
  have hc := @comp_rng [20] 20 n (consA (vf 2) nilA) (cal (consA (b2 (unO (cal (consA (vf 0) (consA (b2 (b2 (cI 27) (b2 (vf 4) (vf 2) mulD) addD) (vf 20) addD) nilA)) g__law_cell)) (b2 (cI 13) (vf 20) mulD) addD) (consA (b2 (cal (consA (unO (cal (consA (vf 0) (consA (cI 1) nilA)) g__law_cell)) nilA) (one intD)) (cI 9) modD) nilA)) g__law_small)
    (eL (some (.v (.fr (.list (ns.map .int))))) f0 (some (.v (.fr (.int (n : Nat))))) (some (.v (rS n g i))) (some (.v (.fr (.int (i : Nat))))) none none none none none none none none none none none none none none none y) (fun j => .fr (mD (g i j))) (by simp -implicitDefEqProofs [eL]) (by omega) (fun j hj => by
      have m3 : mulD (.int 13) (.int (j : Nat)) = .ok (.int (13 * (j : Int))) := mul_b (m := 6) (n := 6) (by decide) (bits_of (by omega)) (by decide)
      have e := (hg i j).1
      have c := cell_ok ns (27 + i * n + j)
      have ce : ((27 + i * n + j : Nat) : Int) = 27 + (i : Int) * (n : Int) + (j : Int) := by push_cast; rfl
      rw [ce] at c
      generalize ns.getD (27 + i * n + j) 0 = cc at c e
      simp -implicitDefEqProofs [eL, m2, m3, m9, c, c1, e])
  have ex : ∀ e0 : En, e0 = eL (some (.v (.fr (.list (ns.map .int))))) f0 (some (.v (.fr (.int (n : Nat))))) (some (.v (rS n g i))) (some (.v (.fr (.int (i : Nat))))) none none none none none none none none none none none none none none none y →
      (frR (unO (compR [20] (cal (consA (vf 2) nilA) rng1) (setN 20) yesT (cal (consA (b2 (unO (cal (consA (vf 0) (consA (b2 (b2 (cI 27) (b2 (vf 4) (vf 2) mulD) addD) (vf 20) addD) nilA)) g__law_cell)) (b2 (cI 13) (vf 20) mulD) addD) (consA (b2 (cal (consA (unO (cal (consA (vf 0) (consA (cI 1) nilA)) g__law_cell)) nilA) (one intD)) (cI 9) modD) nilA)) g__law_small)))) e0 = .ok (.fr (vD (V n (g i)))) := fun e0 he => by
    subst he
    rw [e_frR, e_unO, hc, R.bind_ok, R.bind_ok, vD_V]
    simp [Function.comp_def]
  have ej : rS n g (i + 1) = .ow ((List.range i).map (fun i => S.fr (vD (V n (g i)))) ++ [.fr (vD (V n (g i)))]) := by unfold rS; rw [List.range_succ, List.map_append]; rfl
  rw [ej]
  unfold LR
  exact fnS_of (apS_of rfl (ex _ rfl) (by simp; omega)) rfl
theorem dues_ok {n : Nat} {f g : Nat → Nat → Q} (hn : n ≤ 1000) (hf : SM n f) (hg : SM n g) (s i kp du ex k pr on tw sa fa la mo ot wy wi pa j : Option Sl) :
    unO (compR [4] (cal (consA (vf 2) nilA) rng1) (setN 4) yesT (frR (unO (compR [20] (cal (consA (vf 2) nilA) rng1) (setN 20) yesT (cal (consA (unO (lstR (consA (b2 (b2 (vf 1) (vf 4) ixD) (vf 20) ixD) (consA (b2 (b2 (vq 3) (vf 4) ixD) (vf 20) ixD) nilA)))) nilA) g__law_latest))))) (eL s (some (.v (.fr (wD (W n f))))) (some (.v (.fr (.int (n : Nat))))) (some (.v (.fr (wD (W n g))))) i kp du ex k pr on tw sa fa la mo ot wy wi pa j) = .ok (wD (W n (maxM f g))) := by
  have er := rng1_ok (n := n) (by omega)
  have hc := @comp_rng [4] 4 n (consA (vf 2) nilA) (frR (unO (compR [20] (cal (consA (vf 2) nilA) rng1) (setN 20) yesT (cal (consA (unO (lstR (consA (b2 (b2 (vf 1) (vf 4) ixD) (vf 20) ixD) (consA (b2 (b2 (vq 3) (vf 4) ixD) (vf 20) ixD) nilA)))) nilA) g__law_latest)))) (eL s (some (.v (.fr (wD (W n f))))) (some (.v (.fr (.int (n : Nat))))) (some (.v (.fr (wD (W n g))))) i kp du ex k pr on tw sa fa la mo ot wy wi pa j) (fun i => .fr (vD (V n (maxM f g i)))) (by simp -implicitDefEqProofs [eL]) (by omega) (fun i' hi => by
    have hc2 := @comp_rng [20] 20 n (consA (vf 2) nilA) (cal (consA (unO (lstR (consA (b2 (b2 (vf 1) (vf 4) ixD) (vf 20) ixD) (consA (b2 (b2 (vq 3) (vf 4) ixD) (vf 20) ixD) nilA)))) nilA) g__law_latest) ((wipeE (eL s (some (.v (.fr (wD (W n f))))) (some (.v (.fr (.int (n : Nat))))) (some (.v (.fr (wD (W n g))))) i kp du ex k pr on tw sa fa la mo ot wy wi pa j) [4]).set 4 (some (.v (.fr (.int (i' : Nat)))))) (fun j => .fr (mD (maxM f g i' j))) (by simp -implicitDefEqProofs [eL]) (by omega) (fun j' hj => by
      have e := llatest_q (xs := [f i' j', g i' j']) (n := 1900) (fun x hx => by
        rcases List.mem_cons.mp hx with z | z
        · rw [z]; exact hf i' j' hi hj
        · rw [List.mem_singleton.mp z]; exact hg i' j' hi hj) (by decide)
      rw [show msup [f i' j', g i' j'] = maxM f g i' j' from by rw [msup_cons, msup_cons, msup_nil, mmax_none_r]; rfl] at e
      have e' : g__law_latest [.list [mD (f i' j'), mD (g i' j')]] = .ok (.fr (mD (maxM f g i' j'))) := e
      simp -implicitDefEqProofs [eL, ix_W _ hi, ix_V _ hj, e'])
    rw [e_frR, e_unO, hc2, R.bind_ok, R.bind_ok, vD_V]
    simp [Function.comp_def])
  rw [e_unO, hc, R.bind_ok, wD_W]
  simp [Function.comp_def]
theorem wide_ok (ns : List Int) (c : Int) (hc : g__law_cell [.list (ns.map .int), .int 2] = .ok (.fr (.int c))) (n : Nat) (hm : n ≤ 90) : ∃ f : Nat → Nat → Q, BdM (6 + n) 27720 194040 f ∧ ∀ (f0 g i kp du ex k pr on tw sa fa la mo ot wy wi pa j : Option Sl),
    unO (compR [4] (cal (consA (b2 (cI 6) (vf 2) addD) nilA) rng1) (setN 4) yesT (frR (unO (compR [20] (cal (consA (b2 (cI 6) (vf 2) addD) nilA) rng1) (setN 20) yesT (cal (consA (b2 (b2 (cal (consA (unO (cal (consA (vf 0) (consA (cI 2) nilA)) g__law_cell)) nilA) (one intD)) (b2 (cI 37) (vf 4) mulD) addD) (b2 (cI 101) (vf 20) mulD) addD) (consA (cI 6) nilA)) g__law_small))))) (eL (some (.v (.fr (.list (ns.map .int))))) f0 (some (.v (.fr (.int (n : Nat))))) g i kp du ex k pr on tw sa fa la mo ot wy wi pa j) = .ok (wD (W (6 + n) f)) := by
  have key : ∀ i j : Nat, ∃ q : Q, g__law_small [.int (c + 37 * i + 101 * j), .int 6] = .ok (.fr (mD q)) ∧ Bd 27720 194040 q := fun i j => lsmall_q _ _
  obtain ⟨f, hf⟩ : ∃ f : Nat → Nat → Q, ∀ i j : Nat, g__law_small [.int (c + 37 * i + 101 * j), .int 6] = .ok (.fr (mD (f i j))) ∧ Bd 27720 194040 (f i j) := ⟨fun i j => (key i j).choose, fun i j => (key i j).choose_spec⟩
  refine ⟨f, fun i j _ _ => (hf i j).2, fun f0 g i kp du ex k pr on tw sa fa la mo ot wy wi pa j => ?_⟩
  have en : (consA (b2 (cI 6) (vf 2) addD) nilA) (eL (some (.v (.fr (.list (ns.map .int))))) f0 (some (.v (.fr (.int (n : Nat))))) g i kp du ex k pr on tw sa fa la mo ot wy wi pa j) = .ok [.int ((6 + n : Nat) : Int)] := by
    simp -implicitDefEqProofs [eL]
  have hc2 := @comp_rng [4] 4 (6 + n) (consA (b2 (cI 6) (vf 2) addD) nilA) (frR (unO (compR [20] (cal (consA (b2 (cI 6) (vf 2) addD) nilA) rng1) (setN 20) yesT (cal (consA (b2 (b2 (cal (consA (unO (cal (consA (vf 0) (consA (cI 2) nilA)) g__law_cell)) nilA) (one intD)) (b2 (cI 37) (vf 4) mulD) addD) (b2 (cI 101) (vf 20) mulD) addD) (consA (cI 6) nilA)) g__law_small)))) (eL (some (.v (.fr (.list (ns.map .int))))) f0 (some (.v (.fr (.int (n : Nat))))) g i kp du ex k pr on tw sa fa la mo ot wy wi pa j) (fun i => .fr (vD (V (6 + n) (f i)))) en (by omega) (fun i' hi => by
    have hc3 := @comp_rng [20] 20 (6 + n) (consA (b2 (cI 6) (vf 2) addD) nilA) (cal (consA (b2 (b2 (cal (consA (unO (cal (consA (vf 0) (consA (cI 2) nilA)) g__law_cell)) nilA) (one intD)) (b2 (cI 37) (vf 4) mulD) addD) (b2 (cI 101) (vf 20) mulD) addD) (consA (cI 6) nilA)) g__law_small) ((wipeE (eL (some (.v (.fr (.list (ns.map .int))))) f0 (some (.v (.fr (.int (n : Nat))))) g i kp du ex k pr on tw sa fa la mo ot wy wi pa j) [4]).set 4 (some (.v (.fr (.int (i' : Nat)))))) (fun j => .fr (mD (f i' j))) (by simp -implicitDefEqProofs [eL]) (by omega) (fun j' hj => by
      have b1 : intBits (i' : Int) ≤ 10 := bits_of (by omega)
      have b3 : intBits (j' : Int) ≤ 10 := bits_of (by omega)
      have m1 := @mul_b 37 i' 6 10 (by decide) b1 (by decide)
      have m2 := @mul_b 101 j' 7 10 (by decide) b3 (by decide)
      have e := (hf i' j').1
      simp -implicitDefEqProofs [eL, hc, m1, m2, e])
    rw [e_frR, e_unO, hc3, R.bind_ok, R.bind_ok, vD_V]
    simp [Function.comp_def])
  rw [e_unO, hc2, R.bind_ok, wD_W]
  simp [Function.comp_def]
end LX
namespace LX
open PySem PySem.Spec PyProof.Rows L2 DL
open Builtin.Int (intBits)
theorem e_calO {f0 : En → DL.R S} {fs : En → DL.R (List D)} {g : S → List D → DL.R S} {env : En} : calO f0 fs g env = (f0 env).bind fun s => (fs env).bind fun ds => g s ds := rfl
theorem if_f {t : En → DL.R Bool} {T U : En → SR} {env e1 : En} (h : t env = .ok false) (h2 : U env = .nx e1) : ifS t T U env = .nx e1 := by
  rw [e_ifS, h]; exact h2
theorem pwb {m : Nat} (h : m ≤ 100) : m * PW < 2 ^ 1900 := Nat.lt_of_le_of_lt (Nat.mul_le_mul_right _ h) (Nat.lt_of_lt_of_le (by decide : 100 * PW < 2 ^ 100) (Nat.pow_le_pow_right (by decide) (by decide)))
theorem pw1 : PW < 2 ^ 1900 := by have := pwb (m := 1) (by decide); omega
theorem pw2 : PW + PW < 2 ^ 1900 := by have := pwb (m := 2) (by decide); omega
noncomputable def R17 : En → SR := (fnS [17] (ifS (orT (notT (truR (unO (cal (consA (vf 17) (consA (vf 16) (consA (vf 1) nilA))) g__law_refused)))) (notT (truR (unO (cal (consA (vf 17) (consA (vf 1) (consA (vf 16) nilA))) g__law_refused)))))
  (rtS (cB false))
  nxS))
noncomputable def R16 : En → SR := (fnS [16, 17] (fgS [17] (forS (cal (consA (cI 2) nilA) rng1) (setN 17)
  R17)))
noncomputable def R19 : En → SR := (fnS [19] (ifS (notT (truR (unO (cal (consA (b2 (vf 19) (cI 0) ixD) (consA (vf 1) (consA (b2 (vf 19) (cI 1) ixD) nilA))) g__law_refused))))
  (rtS (cB false))
  nxS))
noncomputable def D8 : En → SR := (fnS [8] (asS 6 (unO (cal (consA (vf 6) (consA (vf 1) nilA)) g__law_product))))
theorem lnT_fr {i : Nat} {t : En → DL.R Bool} {env : En} {d : D} (h : env[i]? = some (some (.v (.fr d)))) : lnT i t env = t env := by
  rw [e_lnT h rfl]
  congr 1
  apply List.ext_getElem?
  intro j
  rw [List.getElem?_set]
  split
  · rename_i z
    subst z
    obtain ⟨hl, _⟩ := List.getElem?_eq_some_iff.mp h
    rw [if_pos hl, h]; rfl
  · rfl
theorem fz_fr {i : Nat} {env : En} {d : D} (h : env[i]? = some (some (.v (.fr d)))) : fzE env i = env := by
  unfold fzE
  rw [h]
  dsimp only
  apply List.ext_getElem?
  intro j
  rw [List.getElem?_set]
  split
  · rename_i z
    subst z
    obtain ⟨hl, _⟩ := List.getElem?_eq_some_iff.mp h
    rw [if_pos hl, h]; rfl
  · rfl
theorem r16_ok {n m : Nat} {f h : Nat → Nat → Q} (hnm : n ≠ m) (s nn g i kp du ex k pr on tw sa fa la mo wy wi pa j : Option Sl) :
    R16 (eL s (some (.v (.fr (wD (W n f))))) nn g i kp du ex k pr on tw sa fa la mo (some (.v (.fr (wD (W m h))))) wy wi pa j) = .nx (eL s (some (.v (.fr (wD (W n f))))) nn g i kp du ex k pr on tw sa fa la mo none none wi pa j) := by
  have a1 := @ref0_ok m n h f (fun z => hnm z.symm)
  have a2 := @ref0_ok n m f h hnm
  have a3 := @ref1_ok m n h f (fun z => hnm z.symm)
  have a4 := @ref1_ok n m f h hnm
  have er2 : ∀ env : En, cal (consA (cI 2) nilA) rng1 env = .ok (rngL 0 2) := fun env => by simp -implicitDefEqProofs [show rng1 [.int 2] = .ok (rngL 0 2) from rng1_ok (n := 2) (by decide)]
  obtain ⟨e', q1, q2⟩ := forF_rng (b := setN 17) (T := R17)
    (fun i' env => env = eL s (some (.v (.fr (wD (W n f))))) nn g i kp du ex k pr on tw sa fa la mo (some (.v (.fr (wD (W m h))))) none wi pa j)
    2 (eL s (some (.v (.fr (wD (W n f))))) nn g i kp du ex k pr on tw sa fa la mo (some (.v (.fr (wD (W m h))))) none wi pa j) rfl
    (fun i' env hi he => by
      subst he
      rcases (by omega : i' = 0 ∨ i' = 1) with rfl | rfl
      · exact ⟨_, _, rfl, .inl (show R17 (eL s (some (.v (.fr (wD (W n f))))) nn g i kp du ex k pr on tw sa fa la mo (some (.v (.fr (wD (W m h))))) (some (.v (.fr (.int ((0 : Nat) : Int))))) wi pa j) = .nx (eL s (some (.v (.fr (wD (W n f))))) nn g i kp du ex k pr on tw sa fa la mo (some (.v (.fr (wD (W m h))))) none wi pa j) from by simp -implicitDefEqProofs [R17, eL, a1, a2]), rfl⟩
      · exact ⟨_, _, rfl, .inl (show R17 (eL s (some (.v (.fr (wD (W n f))))) nn g i kp du ex k pr on tw sa fa la mo (some (.v (.fr (wD (W m h))))) (some (.v (.fr (.int ((1 : Nat) : Int))))) wi pa j) = .nx (eL s (some (.v (.fr (wD (W n f))))) nn g i kp du ex k pr on tw sa fa la mo (some (.v (.fr (wD (W m h))))) none wi pa j) from by simp -implicitDefEqProofs [R17, eL, a3, a4]), rfl⟩)
  subst q2
  unfold R16
  refine fnS_of (e1 := eL s (some (.v (.fr (wD (W n f))))) nn g i kp du ex k pr on tw sa fa la mo (some (.v (.fr (wD (W m h))))) none wi pa j) ?_ rfl
  rw [e_fgS, e_forS, er2, R.st_ok]
  exact q1
theorem r19_ok {n m : Nat} {f h : Nat → Nat → Q} (hnm : n ≠ m) (far : Int) (h0 : 0 ≤ far) (d : D) (hd : d ∈ [PyData.tuple [.int 0, wD (W m h)], .tuple [.int 1, wD (W m h)], .tuple [.int 2, .int (-far)], .tuple [.int 3, .int (-1 - far)]]) (s nn g i kp du ex k pr on tw sa fa la mo ot wy wi j : Option Sl) :
    R19 (eL s (some (.v (.fr (wD (W n f))))) nn g i kp du ex k pr on tw sa fa la mo ot wy wi (some (.v (.fr d))) j) = .nx (eL s (some (.v (.fr (wD (W n f))))) nn g i kp du ex k pr on tw sa fa la mo ot wy wi none j) := by
  have a2 := @ref0_ok n m f h hnm
  have a4 := @ref1_ok n m f h hnm
  have a5 := @ref2_ok n f (-far) (by omega)
  have a6 := @ref3_ok n f (-1 - far) (by omega)
  simp only [List.mem_cons, List.not_mem_nil, or_false] at hd
  rcases hd with rfl | rfl | rfl | rfl
  · simp -implicitDefEqProofs [R19, eL, a2]
  · simp -implicitDefEqProofs [R19, eL, a4]
  · simp -implicitDefEqProofs [R19, eL, a5]
  · simp -implicitDefEqProofs [R19, eL, a6]
end LX
namespace LX
open PySem PySem.Spec PyProof.Rows L2 DL
open Builtin.Int (intBits)
theorem good1 (ns : List Int) (h : ns.length ≤ 63) : g_law [.list (ns.map .int)] = .ok (.fr (.bool true)) := by
  rw [b_law]
  have c0 : g__law_cell [.list (ns.map .int), .int 0] = .ok (.fr (.int (ns.getD 0 0))) := cell_ok ns 0
  have c1 : g__law_cell [.list (ns.map .int), .int 1] = .ok (.fr (.int (ns.getD 1 0))) := cell_ok ns 1
  have c2 : g__law_cell [.list (ns.map .int), .int 2] = .ok (.fr (.int (ns.getD 2 0))) := cell_ok ns 2
  generalize ns.getD 0 0 = x0 at c0
  generalize ns.getD 1 0 = x1 at c1
  generalize ns.getD 2 0 = x2 at c2
  obtain ⟨n, f, n0, n5, bf, ew⟩ := lwork_q x0 (DL.cutD ns (some 2) (some 27)) 5 (by decide) (by decide) (cut_len h _ _)
  have n5 : n ≤ 5 := by omega
  have hn : n ≤ 1000 := by omega
  have h30 : n ≤ 30 := by omega
  have cm1 := cut_map PyData.int ns (some 2) (some 27)
  obtain ⟨g, bg', eg⟩ := second_ok ns x1 c1 n5
  have bg : BdM n 27720 PW g := bg'.mono (by decide)
  have sf := bf.sm lok1 pw1
  have sg := bg.sm lok1 pw1
  have er := rng1_ok (n := n) (by omega)
  have rp := repr_WW (n := n) (m := n) h30 h30 sf sg
  obtain ⟨kp, hkp⟩ : ∃ kp : Str, kp = (PyData.list [wD (W n f), wD (W n g)]).shown := ⟨_, rfl⟩
  rw [← hkp] at rp
  clear hkp
  -- products
  have bfg := bd_mulM (by decide) bf bg
  have bff := bd_mulM (by decide) bf bf
  have pfg := prod_q lok1 n0 hn bf bg pw1 pw1
  have pff := prod_q lok1 n0 hn bf bf pw1 pw1
  have lfg := lprod_q lok1 hn bf bg pw1 pw1
  have lff := lprod_q lok1 hn bf bf pw1 pw1
  have nfg := lnew_q h30 (bfg.sm lok1 pw2)
  have nff := lnew_q h30 (bff.sm lok1 pw2)
  have tfg := @lprod_toD n f g
  have tff := @lprod_toD n f f
  -- later works
  have blw := bd_maxM bf bg
  have lw := later_work_q hn sf sg
  have lw2 := later_work_q hn sf sf
  rw [show W n (maxM f f) = W n f from W_congr fun i j _ _ => mmax_self _] at lw2
  have nlw := lnew_q h30 (blw.sm lok1 pw1)
  have nf := lnew_q h30 sf
  -- idle
  have ei := idle_q n0 hn
  have li := lidle_q (n := n) hn
  have bi : BdM n 27720 PW idleM := bd_idle
  have ni := lnew_q h30 (bi.sm lok1 pw1)
  -- powers
  obtain ⟨e, he, he9⟩ : ∃ e : Nat, (e : Int) = (x1.fdiv 9).fmod 10 ∧ e ≤ 9 := by
    have a1 : 0 ≤ (x1.fdiv 9).fmod 10 := Int.fmod_nonneg_of_pos _ (by decide)
    have a2 : (x1.fdiv 9).fmod 10 < 10 := Int.fmod_lt_of_pos _ (by decide)
    exact ⟨((x1.fdiv 9).fmod 10).toNat, by omega, by omega⟩
  have f9 : fdivD (.int x1) (.int 9) = .ok (.int (x1.fdiv 9)) := fdiv_b (n := 5) (by decide) (by decide) (by decide)
  have m10 : ∀ x : Int, modD (.int x) (.int 10) = .ok (.int (x.fmod 10)) := fun x => mod_i _ _ (by decide)
  have m1000 : ∀ x : Int, modD (.int x) (.int 1000) = .ok (.int (x.fmod 1000)) := fun x => mod_i _ _ (by decide)
  have m4 : ∀ x : Int, modD (.int x) (.int 4) = .ok (.int (x.fmod 4)) := fun x => mod_i _ _ (by decide)
  have m9 : ∀ x : Int, modD (.int x) (.int 9) = .ok (.int (x.fmod 9)) := fun x => mod_i _ _ (by decide)
  have p0 : g_power [wD (W n f), .int 0] = .ok (wS (W n idleM)) := power_q (C := 0) (m := 0) lok1 n0 hn bf (by simp) (by decide) (by decide)
  have p1 : g_power [wD (W n f), .int 1] = .ok (wS (W n f)) := by
    have := power_q (C := 1 * PW) (m := 1) lok1 n0 hn bf (Nat.le_refl _) (pwb (by decide)) (by decide)
    rw [show W n (pw n f 1) = W n f from W_congr fun i j hi _ => pw_one f j hi] at this
    exact this
  have hep : e * PW ≤ 9 * PW := Nat.mul_le_mul_right _ he9
  have pe := power_q (C := 9 * PW) (m := e) lok1 n0 hn bf hep (pwb (by decide)) (by omega)
  have be : ∀ k, k ≤ 9 → BdM n 27720 (9 * PW) (pw n f k) := fun k hk => (bd_pw (by decide) bf k).mono (Nat.mul_le_mul_right _ hk)
  have se := (be e he9).sm lok1 (pwb (by decide))
  have ne := lnew_q h30 se
  have ere := rng1_ok (n := e) (by omega)
  -- far
  obtain ⟨fa, hfa, hfa2⟩ : ∃ fa : Nat, (fa : Int) = x1.fmod 1000 ∧ fa < 1000 := by
    have a1 : 0 ≤ x1.fmod 1000 := Int.fmod_nonneg_of_pos _ (by decide)
    have a2 : x1.fmod 1000 < 1000 := Int.fmod_lt_of_pos _ (by decide)
    exact ⟨(x1.fmod 1000).toNat, by omega, by omega⟩
  obtain ⟨m, hm, hm0, hm2⟩ : ∃ m : Nat, (m : Int) = (n : Int) + 2 + ((fa : Int)).fmod 4 ∧ n < m ∧ m ≤ 20 := by
    have a1 : 0 ≤ ((fa : Int)).fmod 4 := Int.fmod_nonneg_of_pos _ (by decide)
    have a2 : ((fa : Int)).fmod 4 < 4 := Int.fmod_lt_of_pos _ (by decide)
    exact ⟨((n : Int) + 2 + ((fa : Int)).fmod 4).toNat, by omega, by omega, by omega⟩
  obtain ⟨m3, hm3, hm30, hm32⟩ : ∃ m3 : Nat, (m3 : Int) = 13 + ((fa : Int)).fmod 9 ∧ 0 < m3 ∧ m3 ≤ 30 := by
    have a1 : 0 ≤ ((fa : Int)).fmod 9 := Int.fmod_nonneg_of_pos _ (by decide)
    have a2 : ((fa : Int)).fmod 9 < 9 := Int.fmod_lt_of_pos _ (by decide)
    exact ⟨(13 + ((fa : Int)).fmod 9).toNat, by omega, by omega, by omega⟩
  have il1 : g__law_idle [.int ((n : Int) + 1)] = .ok (wS (W (n + 1) idleM)) := lidle_q (n := n + 1) (by omega)
  have il2 := lidle_q (n := m) (by omega)
  have i12 : g_idle [.int 12] = .ok (wS (W 12 idleM)) := idle_q (n := 12) (by decide) (by decide)
  have l12 : g__law_idle [.int 12] = .ok (wS (W 12 idleM)) := lidle_q (n := 12) (by decide)
  have i13 := idle_q (n := m3) hm30 (by omega)
  have l13 := lidle_q (n := m3) (by omega)
  -- wide
  obtain ⟨wd, bw', ewd⟩ := wide_ok ns x2 c2 n (by omega)
  have bw : BdM (6 + n) 27720 PW wd := bw'.mono (by decide)
  have pww := prod_q lok1 (n := 6 + n) (by omega) (by omega) bw bw pw1 pw1
  have lww := lprod_q lok1 (n := 6 + n) (by omega) bw bw pw1 pw1
  have tww := @lprod_toD (6 + n) wd wd
  have lwi : g__law_idle [.int (6 + (n : Int))] = .ok (wS (W (6 + n) idleM)) := by
    have := lidle_q (n := 6 + n) (by omega)
    rw [Int.natCast_add] at this; exact this
  have pwi := prod_q (U := PW) lok1 (n := 6 + n) (by omega) (by omega) bw bd_idle pw1 pw1
  rw [show W (6 + n) (mulM (6 + n) wd idleM) = W (6 + n) wd from W_congr fun i j _ hj => mulM_idle wd i hj] at pwi
  have f0 := @ref0_ok (n + 1) n idleM f (by omega)
  unfold T_law
  refine endR_of (r := .rt (.fr (.bool true))) ?_ rfl

  refine sq_of (e1 := eL (some (.v (.fr (.list (ns.map .int))))) (some (.v (.fr (wD (W n f))))) none none none none none none none none none none none none none none none none none none none) (by simp -implicitDefEqProofs [eL, c0, cm1, Function.comp_def, ew, wS_toD]) ?_
  refine sq_of (e1 := eL (some (.v (.fr (.list (ns.map .int))))) (some (.v (.fr (wD (W n f))))) (some (.v (.fr (.int (n : Nat))))) none none none none none none none none none none none none none none none none none none) (by simp -implicitDefEqProofs [eL, len_W]) ?_
  refine sq_of (e1 := eL (some (.v (.fr (.list (ns.map .int))))) (some (.v (.fr (wD (W n f))))) (some (.v (.fr (.int (n : Nat))))) (some (.v (.ow []))) none none none none none none none none none none none none none none none none none) (by simp -implicitDefEqProofs [eL]) ?_
  obtain ⟨e', q1, y4, q2⟩ := forF_rng (b := setN 4) (T := LR)
    (fun k env => ∃ y, env = eL (some (.v (.fr (.list (ns.map .int))))) (some (.v (.fr (wD (W n f))))) (some (.v (.fr (.int (n : Nat))))) (some (.v (rS n g k))) y none none none none none none none none none none none none none none none none)
    n (eL (some (.v (.fr (.list (ns.map .int))))) (some (.v (.fr (wD (W n f))))) (some (.v (.fr (.int (n : Nat))))) (some (.v (.ow []))) none none none none none none none none none none none none none none none none none) ⟨none, rfl⟩
    (fun k env hk ⟨y, hy⟩ => by
      subst hy
      exact ⟨_, _, rfl, .inl (eg _ k hk _), _, rfl⟩)
  subst q2
  refine sq_of (e1 := eL (some (.v (.fr (.list (ns.map .int))))) (some (.v (.fr (wD (W n f))))) (some (.v (.fr (.int (n : Nat))))) (some (.v (rS n g n))) y4 none none none none none none none none none none none none none none none none) (by
    have ec : ∀ env : En, env = eL (some (.v (.fr (.list (ns.map .int))))) (some (.v (.fr (wD (W n f))))) (some (.v (.fr (.int (n : Nat))))) (some (.v (.ow []))) none none none none none none none none none none none none none none none none none → cal (consA (vf 2) nilA) rng1 env = .ok (rngL 0 n) := fun env he => by
      subst he; simp -implicitDefEqProofs [eL, er]
    rw [e_fgS, e_forS]
    erw [ec _ rfl, R.st_ok]
    exact q1) ?_
  refine sq_of (e1 := eL (some (.v (.fr (.list (ns.map .int))))) (some (.v (.fr (wD (W n f))))) (some (.v (.fr (.int (n : Nat))))) (some (.v (.fr (wD (W n g))))) y4 (some (.v (.fr (.str kp)))) none none none none none none none none none none none none none none none) (by
    rw [e_fzS, show fzE (eL (some (.v (.fr (.list (ns.map .int))))) (some (.v (.fr (wD (W n f))))) (some (.v (.fr (.int (n : Nat))))) (some (.v (rS n g n))) y4 none none none none none none none none none none none none none none none none) 3 = eL (some (.v (.fr (.list (ns.map .int))))) (some (.v (.fr (wD (W n f))))) (some (.v (.fr (.int (n : Nat))))) (some (.v (.fr (wD (W n g))))) y4 none none none none none none none none none none none none none none none none from by
      show eL _ _ _ (some (.v (.fr (rS n g n).toD))) _ _ _ _ _ _ _ _ _ _ _ _ _ _ _ _ _ = _
      rw [rS_toD]]
    simp -implicitDefEqProofs [eL, rp]) ?_
  refine sq_of (if_f (by rw [lnT_fr (d := wD (W n g)) rfl]; simp -implicitDefEqProofs [eL, e_calO, pfg, pff, lfg, lff, tfg, tff, -toD_ow, nfg, nff]) rfl) ?_
  refine sq_of (e1 := eL (some (.v (.fr (.list (ns.map .int))))) (some (.v (.fr (wD (W n f))))) (some (.v (.fr (.int (n : Nat))))) (some (.v (.fr (wD (W n g))))) y4 (some (.v (.fr (.str kp)))) (some (.v (.fr (wD (W n (maxM f g)))))) none none none none none none none none none none none none none none) (by rw [e_asS, dues_ok hn sf sg, R.st_ok]; rfl) ?_
  refine sq_of (if_f (by rw [lnT_fr (d := wD (W n g)) rfl]; simp -implicitDefEqProofs [eL, e_calO, lw, lw2, nlw, nf]) rfl) ?_
  refine sq_of (e1 := eL (some (.v (.fr (.list (ns.map .int))))) (some (.v (.fr (wD (W n f))))) (some (.v (.fr (.int (n : Nat))))) (some (.v (.fr (wD (W n g))))) y4 (some (.v (.fr (.str kp)))) (some (.v (.fr (wD (W n idleM))))) none none none none none none none none none none none none none none) (by simp -implicitDefEqProofs [eL, li, wS_toD]) ?_
  refine sq_of (e1 := eL (some (.v (.fr (.list (ns.map .int))))) (some (.v (.fr (wD (W n f))))) (some (.v (.fr (.int (n : Nat))))) (some (.v (.fr (wD (W n g))))) y4 (some (.v (.fr (.str kp)))) (some (.v (.fr (wD (W n idleM))))) (some (.v (.fr (.int (e : Nat))))) none none none none none none none none none none none none none) (by simp -implicitDefEqProofs [eL, c1, f9, m10, ← he]) ?_
  refine sq_of (if_f (by simp -implicitDefEqProofs [eL, e_calO, ei, ni, p0, p1, nf]) rfl) ?_
  refine sq_of (e1 := eL (some (.v (.fr (.list (ns.map .int))))) (some (.v (.fr (wD (W n f))))) (some (.v (.fr (.int (n : Nat))))) (some (.v (.fr (wD (W n g))))) y4 (some (.v (.fr (.str kp)))) (some (.v (.fr (wD (W n (pw n f e)))))) (some (.v (.fr (.int (e : Nat))))) none none none none none none none none none none none none none) (by
    obtain ⟨e', q1, q2⟩ := forF_rng (b := setN 8) (T := D8)
      (fun k env => env = eL (some (.v (.fr (.list (ns.map .int))))) (some (.v (.fr (wD (W n f))))) (some (.v (.fr (.int (n : Nat))))) (some (.v (.fr (wD (W n g))))) y4 (some (.v (.fr (.str kp)))) (some (.v (.fr (wD (W n (pw n f k)))))) (some (.v (.fr (.int (e : Nat))))) none none none none none none none none none none none none none)
      e (eL (some (.v (.fr (.list (ns.map .int))))) (some (.v (.fr (wD (W n f))))) (some (.v (.fr (.int (n : Nat))))) (some (.v (.fr (wD (W n g))))) y4 (some (.v (.fr (.str kp)))) (some (.v (.fr (wD (W n idleM))))) (some (.v (.fr (.int (e : Nat))))) none none none none none none none none none none none none none) rfl
      (fun k env hk he => by
        subst he
        have el := lprod_q lok1 hn (be k (by omega)) bf (pwb (by decide)) pw1
        have et := @lprod_toD n (pw n f k) f
        refine ⟨_, _, rfl, .inl (show D8 _ = .nx (eL (some (.v (.fr (.list (ns.map .int))))) (some (.v (.fr (wD (W n f))))) (some (.v (.fr (.int (n : Nat))))) (some (.v (.fr (wD (W n g))))) y4 (some (.v (.fr (.str kp)))) (some (.v (.fr (wD (W n (pw n f (k + 1))))))) (some (.v (.fr (.int (e : Nat))))) none none none none none none none none none none none none none) from ?_), rfl⟩
        simp -implicitDefEqProofs [D8, eL, el, et, -toD_ow]
        rfl)
    subst q2
    have ec : ∀ env : En, env = eL (some (.v (.fr (.list (ns.map .int))))) (some (.v (.fr (wD (W n f))))) (some (.v (.fr (.int (n : Nat))))) (some (.v (.fr (wD (W n g))))) y4 (some (.v (.fr (.str kp)))) (some (.v (.fr (wD (W n idleM))))) (some (.v (.fr (.int (e : Nat))))) none none none none none none none none none none none none none → cal (consA (vf 7) nilA) rng1 env = .ok (rngL 0 e) := fun env he => by
      subst he; simp -implicitDefEqProofs [eL, ere]
    rw [e_fgS, e_forS]
    erw [ec _ rfl, R.st_ok]
    exact q1) ?_
  refine sq_of (if_f (by rw [lnT_fr (d := wD (W n g)) rfl]; simp -implicitDefEqProofs [eL, e_calO, pe, ne, rp, ne_s]) rfl) ?_
  refine sq_of (e1 := eL (some (.v (.fr (.list (ns.map .int))))) (some (.v (.fr (wD (W n f))))) (some (.v (.fr (.int (n : Nat))))) (some (.v (.fr (wD (W n g))))) y4 (some (.v (.fr (.str kp)))) (some (.v (.fr (wD (W n (pw n f e)))))) (some (.v (.fr (.int (e : Nat))))) none (some (.v (.ow [.tu [wS (W n (mulM n f g)), wS (W n (mulM n f g))], .tu [wS (W n (maxM f g)), wS (W n (maxM f g))]]))) none none none none none none none none none none none) (by
    rw [e_fzS, fz_fr (d := wD (W n g)) rfl]
    simp -implicitDefEqProofs [eL, lstO, tupO, consO, nilO, pfg, lw]) ?_
  refine sq_of (e1 := eL (some (.v (.fr (.list (ns.map .int))))) (some (.v (.fr (wD (W n f))))) (some (.v (.fr (.int (n : Nat))))) (some (.v (.fr (wD (W n g))))) y4 (some (.v (.fr (.str kp)))) (some (.v (.fr (wD (W n (pw n f e)))))) (some (.v (.fr (.int (e : Nat))))) none none none none none none none none none none none none none) (by
    rw [e_fgS]
    have e2 : ∀ env : En, env = eL (some (.v (.fr (.list (ns.map .int))))) (some (.v (.fr (wD (W n f))))) (some (.v (.fr (.int (n : Nat))))) (some (.v (.fr (wD (W n g))))) y4 (some (.v (.fr (.str kp)))) (some (.v (.fr (wD (W n (pw n f e)))))) (some (.v (.fr (.int (e : Nat))))) none (some (.v (.ow [.tu [wS (W n (mulM n f g)), wS (W n (mulM n f g))], .tu [wS (W n (maxM f g)), wS (W n (maxM f g))]]))) none none none none none none none none none none none → (lstO (consO (tupO (consO (cal (consA (vf 2) nilA) g_idle) (consO (cal (consA (vf 2) nilA) g_idle) nilO))) (consO (tupO (consO (cal (consA (vf 1) (consA (vf 7) nilA)) g_power) (consO (cal (consA (vf 1) (consA (vf 7) nilA)) g_power) nilO))) nilO))) env = .ok (.ow [.tu [wS (W n idleM), wS (W n idleM)], .tu [wS (W n (pw n f e)), wS (W n (pw n f e))]]) := fun env he => by
      subst he
      simp -implicitDefEqProofs [eL, lstO, tupO, consO, nilO, ei, pe]
    have b1 := pb_ok n0 h30 (bfg.sm lok1 pw2)
    have b2' := pb_ok n0 h30 (blw.sm lok1 pw1)
    have b3 := pb_ok n0 h30 (bi.sm lok1 pw1)
    have b4 := pb_ok n0 h30 se
    show forMv 9 10 11 _ PB (eL (some (.v (.fr (.list (ns.map .int))))) (some (.v (.fr (wD (W n f))))) (some (.v (.fr (.int (n : Nat))))) (some (.v (.fr (wD (W n g))))) y4 (some (.v (.fr (.str kp)))) (some (.v (.fr (wD (W n (pw n f e)))))) (some (.v (.fr (.int (e : Nat))))) none (some (.v (.ow [.tu [wS (W n (mulM n f g)), wS (W n (mulM n f g))], .tu [wS (W n (maxM f g)), wS (W n (maxM f g))]]))) none none none none none none none none none none none) = _
    unfold forMv
    rw [show (eL (some (.v (.fr (.list (ns.map .int))))) (some (.v (.fr (wD (W n f))))) (some (.v (.fr (.int (n : Nat))))) (some (.v (.fr (wD (W n g))))) y4 (some (.v (.fr (.str kp)))) (some (.v (.fr (wD (W n (pw n f e)))))) (some (.v (.fr (.int (e : Nat))))) none (some (.v (.ow [.tu [wS (W n (mulM n f g)), wS (W n (mulM n f g))], .tu [wS (W n (maxM f g)), wS (W n (maxM f g))]]))) none none none none none none none none none none none)[9]? = some (some (.v (.ow [.tu [wS (W n (mulM n f g)), wS (W n (mulM n f g))], .tu [wS (W n (maxM f g)), wS (W n (maxM f g))]]))) from rfl]
    dsimp only
    rw [e2 _ rfl, R.st_ok]
    dsimp only
    rw [if_pos (by simp [sizeLine_eq])]
    have s1 : ∀ (w1 w2 : S) (rest : List S) (r : SR), (∀ x : En, PB (((eL (some (.v (.fr (.list (ns.map .int))))) (some (.v (.fr (wD (W n f))))) (some (.v (.fr (.int (n : Nat))))) (some (.v (.fr (wD (W n g))))) y4 (some (.v (.fr (.str kp)))) (some (.v (.fr (wD (W n (pw n f e)))))) (some (.v (.fr (.int (e : Nat))))) none none none none none none none none none none none none none).set 10 (some (.v w1))).set 11 (some (.v w2))) = .nx (eL (some (.v (.fr (.list (ns.map .int))))) (some (.v (.fr (wD (W n f))))) (some (.v (.fr (.int (n : Nat))))) (some (.v (.fr (wD (W n g))))) y4 (some (.v (.fr (.str kp)))) (some (.v (.fr (wD (W n (pw n f e)))))) (some (.v (.fr (.int (e : Nat))))) none none none none none none none none none none none none none)) → forP 10 11 PB rest (eL (some (.v (.fr (.list (ns.map .int))))) (some (.v (.fr (wD (W n f))))) (some (.v (.fr (.int (n : Nat))))) (some (.v (.fr (wD (W n g))))) y4 (some (.v (.fr (.str kp)))) (some (.v (.fr (wD (W n (pw n f e)))))) (some (.v (.fr (.int (e : Nat))))) none none none none none none none none none none none none none) = r → forP 10 11 PB (.tu [w1, w2] :: rest) (eL (some (.v (.fr (.list (ns.map .int))))) (some (.v (.fr (wD (W n f))))) (some (.v (.fr (.int (n : Nat))))) (some (.v (.fr (wD (W n g))))) y4 (some (.v (.fr (.str kp)))) (some (.v (.fr (wD (W n (pw n f e)))))) (some (.v (.fr (.int (e : Nat))))) none none none none none none none none none none none none none) = r := fun w1 w2 rest r h1 h2 => by
      rw [forP, h1 []]
      exact h2
    show forP 10 11 PB [.tu [wS (W n (mulM n f g)), wS (W n (mulM n f g))], .tu [wS (W n (maxM f g)), wS (W n (maxM f g))], .tu [wS (W n idleM), wS (W n idleM)], .tu [wS (W n (pw n f e)), wS (W n (pw n f e))]] (eL (some (.v (.fr (.list (ns.map .int))))) (some (.v (.fr (wD (W n f))))) (some (.v (.fr (.int (n : Nat))))) (some (.v (.fr (wD (W n g))))) y4 (some (.v (.fr (.str kp)))) (some (.v (.fr (wD (W n (pw n f e)))))) (some (.v (.fr (.int (e : Nat))))) none none none none none none none none none none none none none) = _
    exact s1 _ _ _ _ (fun _ => b1 _ _ _ _ _ _ _ _ _ _ _ _ _ _ _ _ _ _ _) (s1 _ _ _ _ (fun _ => b2' _ _ _ _ _ _ _ _ _ _ _ _ _ _ _ _ _ _ _) (s1 _ _ _ _ (fun _ => b3 _ _ _ _ _ _ _ _ _ _ _ _ _ _ _ _ _ _ _) (s1 _ _ _ _ (fun _ => b4 _ _ _ _ _ _ _ _ _ _ _ _ _ _ _ _ _ _ _) rfl)))) ?_
  refine sq_of (e1 := eL (some (.v (.fr (.list (ns.map .int))))) (some (.v (.fr (wD (W n f))))) (some (.v (.fr (.int (n : Nat))))) (some (.v (.fr (wD (W n g))))) y4 (some (.v (.fr (.str kp)))) (some (.v (.fr (wD (W n (pw n f e)))))) (some (.v (.fr (.int (e : Nat))))) none none none none none (some (.v (.fr (.int (fa : Nat))))) none none none none none none none) (by simp -implicitDefEqProofs [eL, c1, m1000, ← hfa]) ?_
  refine sq_of (e1 := eL (some (.v (.fr (.list (ns.map .int))))) (some (.v (.fr (wD (W n f))))) (some (.v (.fr (.int (n : Nat))))) (some (.v (.fr (wD (W n g))))) y4 (some (.v (.fr (.str kp)))) (some (.v (.fr (wD (W n (pw n f e)))))) (some (.v (.fr (.int (e : Nat))))) none none none none none (some (.v (.fr (.int (fa : Nat))))) (some (.v (.fr (wD (W (n + 1) idleM))))) none none none none none none) (by simp -implicitDefEqProofs [eL, il1, wS_toD]) ?_
  refine sq_of (e1 := eL (some (.v (.fr (.list (ns.map .int))))) (some (.v (.fr (wD (W n f))))) (some (.v (.fr (.int (n : Nat))))) (some (.v (.fr (wD (W n g))))) y4 (some (.v (.fr (.str kp)))) (some (.v (.fr (wD (W n (pw n f e)))))) (some (.v (.fr (.int (e : Nat))))) none none none none none (some (.v (.fr (.int (fa : Nat))))) (some (.v (.fr (wD (W (n + 1) idleM))))) (some (.v (.fr (wD (W m idleM))))) none none none none none) (by simp -implicitDefEqProofs [eL, m4, ← hm, il2, wS_toD]) ?_
  refine sq_of (e1 := eL (some (.v (.fr (.list (ns.map .int))))) (some (.v (.fr (wD (W n f))))) (some (.v (.fr (.int (n : Nat))))) (some (.v (.fr (wD (W n g))))) y4 (some (.v (.fr (.str kp)))) (some (.v (.fr (wD (W n (pw n f e)))))) (some (.v (.fr (.int (e : Nat))))) none none none none none (some (.v (.fr (.int (fa : Nat))))) (some (.v (.fr (wD (W (n + 1) idleM))))) (some (.v (.fr (wD (W m idleM))))) none none none none none) (by
    obtain ⟨e', q1, q2⟩ := forF_at (b := setN 16) (T := R16) (fun k : Nat => wD (W k idleM)) (fun _ env => env = eL (some (.v (.fr (.list (ns.map .int))))) (some (.v (.fr (wD (W n f))))) (some (.v (.fr (.int (n : Nat))))) (some (.v (.fr (wD (W n g))))) y4 (some (.v (.fr (.str kp)))) (some (.v (.fr (wD (W n (pw n f e)))))) (some (.v (.fr (.int (e : Nat))))) none none none none none (some (.v (.fr (.int (fa : Nat))))) (some (.v (.fr (wD (W (n + 1) idleM))))) (some (.v (.fr (wD (W m idleM))))) none none none none none)
      [n + 1, m] 0 (eL (some (.v (.fr (.list (ns.map .int))))) (some (.v (.fr (wD (W n f))))) (some (.v (.fr (.int (n : Nat))))) (some (.v (.fr (wD (W n g))))) y4 (some (.v (.fr (.str kp)))) (some (.v (.fr (wD (W n (pw n f e)))))) (some (.v (.fr (.int (e : Nat))))) none none none none none (some (.v (.fr (.int (fa : Nat))))) (some (.v (.fr (wD (W (n + 1) idleM))))) (some (.v (.fr (wD (W m idleM))))) none none none none none) rfl (fun i k env hk he => by
        subst he
        have hk2 : n ≠ k := by
          have := List.mem_of_getElem? hk
          simp at this
          omega
        exact ⟨_, _, rfl, .inl (r16_ok hk2 _ _ _ _ _ _ _ _ _ _ _ _ _ _ _ _ _ _ _), rfl⟩)
    subst q2
    have hs : ∀ env : En, env = eL (some (.v (.fr (.list (ns.map .int))))) (some (.v (.fr (wD (W n f))))) (some (.v (.fr (.int (n : Nat))))) (some (.v (.fr (wD (W n g))))) y4 (some (.v (.fr (.str kp)))) (some (.v (.fr (wD (W n (pw n f e)))))) (some (.v (.fr (.int (e : Nat))))) none none none none none (some (.v (.fr (.int (fa : Nat))))) (some (.v (.fr (wD (W (n + 1) idleM))))) (some (.v (.fr (wD (W m idleM))))) none none none none none → seqR (unO (lstR (consA (vf 14) (consA (vf 15) nilA)))) env = .ok ([n + 1, m].map fun k : Nat => wD (W k idleM)) := fun env he => by
      subst he; simp -implicitDefEqProofs [eL, seqR]
    rw [e_fgS, e_forS]
    erw [hs _ rfl, R.st_ok]
    exact q1) ?_
  have hwide : ∃ x18 : Option Sl, (ifS (t2 (b2 (cal (consA (vf 13) nilA) (one intD)) (cI 4) modD) (cI 1) eqD)
  (sqS (asS 18 (unO (compR [4] (cal (consA (b2 (cI 6) (vf 2) addD) nilA) rng1) (setN 4) yesT (frR (unO (compR [20] (cal (consA (b2 (cI 6) (vf 2) addD) nilA) rng1) (setN 20) yesT (cal (consA (b2 (b2 (cal (consA (unO (cal (consA (vf 0) (consA (cI 2) nilA)) g__law_cell)) nilA) (one intD)) (b2 (cI 37) (vf 4) mulD) addD) (b2 (cI 101) (vf 20) mulD) addD) (consA (cI 6) nilA)) g__law_small)))))))
  (ifS (orT (t2 (unO (cal (consA (vf 18) (consA (vf 18) nilA)) g_product)) (unO (cal (consA (vf 18) (consA (vf 18) nilA)) g__law_product)) neD) (t2 (unO (cal (consA (vf 18) (consA (unO (cal (consA (b2 (cI 6) (vf 2) addD) nilA) g__law_idle)) nilA)) g_product)) (vf 18) neD))
  (rtS (cB false))
  nxS))
  nxS) (eL (some (.v (.fr (.list (ns.map .int))))) (some (.v (.fr (wD (W n f))))) (some (.v (.fr (.int (n : Nat))))) (some (.v (.fr (wD (W n g))))) y4 (some (.v (.fr (.str kp)))) (some (.v (.fr (wD (W n (pw n f e)))))) (some (.v (.fr (.int (e : Nat))))) none none none none none (some (.v (.fr (.int (fa : Nat))))) (some (.v (.fr (wD (W (n + 1) idleM))))) (some (.v (.fr (wD (W m idleM))))) none none none none none) = .nx (eL (some (.v (.fr (.list (ns.map .int))))) (some (.v (.fr (wD (W n f))))) (some (.v (.fr (.int (n : Nat))))) (some (.v (.fr (wD (W n g))))) y4 (some (.v (.fr (.str kp)))) (some (.v (.fr (wD (W n (pw n f e)))))) (some (.v (.fr (.int (e : Nat))))) none none none none none (some (.v (.fr (.int (fa : Nat))))) (some (.v (.fr (wD (W (n + 1) idleM))))) (some (.v (.fr (wD (W m idleM))))) none none x18 none none) := by
    by_cases hz : ((fa : Int)).fmod 4 = 1
    · refine ⟨some (.v (.fr (wD (W (6 + n) wd)))), ?_⟩
      rw [e_ifS, show t2 (b2 (cal (consA (vf 13) nilA) (one DL.intD)) (cI 4) modD) (cI 1) eqD (eL (some (.v (.fr (.list (ns.map .int))))) (some (.v (.fr (wD (W n f))))) (some (.v (.fr (.int (n : Nat))))) (some (.v (.fr (wD (W n g))))) y4 (some (.v (.fr (.str kp)))) (some (.v (.fr (wD (W n (pw n f e)))))) (some (.v (.fr (.int (e : Nat))))) none none none none none (some (.v (.fr (.int (fa : Nat))))) (some (.v (.fr (wD (W (n + 1) idleM))))) (some (.v (.fr (wD (W m idleM))))) none none none none none) = .ok true from by simp -implicitDefEqProofs [eL, m4, hz], R.st_ok]
      dsimp only
      refine sq_of (e1 := eL (some (.v (.fr (.list (ns.map .int))))) (some (.v (.fr (wD (W n f))))) (some (.v (.fr (.int (n : Nat))))) (some (.v (.fr (wD (W n g))))) y4 (some (.v (.fr (.str kp)))) (some (.v (.fr (wD (W n (pw n f e)))))) (some (.v (.fr (.int (e : Nat))))) none none none none none (some (.v (.fr (.int (fa : Nat))))) (some (.v (.fr (wD (W (n + 1) idleM))))) (some (.v (.fr (wD (W m idleM))))) none none (some (.v (.fr (wD (W (6 + n) wd))))) none none) (by rw [e_asS, ewd, R.st_ok]; rfl) ?_
      exact if_f (by simp -implicitDefEqProofs [eL, pww, lww, tww, -toD_ow, ne_W, wS_toD, lwi, pwi]) rfl
    · have hz' : (((fa : Int)).fmod 4 == 1) = false := beq_eq_false_iff_ne.mpr hz
      exact ⟨none, if_f (by simp -implicitDefEqProofs [eL, m4, hz']) rfl⟩
  obtain ⟨x18, hwide⟩ := hwide
  refine sq_of hwide ?_
  refine sq_of (e1 := eL (some (.v (.fr (.list (ns.map .int))))) (some (.v (.fr (wD (W n f))))) (some (.v (.fr (.int (n : Nat))))) (some (.v (.fr (wD (W n g))))) y4 (some (.v (.fr (.str kp)))) (some (.v (.fr (wD (W n (pw n f e)))))) (some (.v (.fr (.int (e : Nat))))) none none none none none (some (.v (.fr (.int (fa : Nat))))) (some (.v (.fr (wD (W (n + 1) idleM))))) (some (.v (.fr (wD (W m idleM))))) none none x18 none none) (by
    obtain ⟨e', q1, q2⟩ := forF_at (b := setN 19) (T := R19) (fun d : D => d) (fun _ env => env = eL (some (.v (.fr (.list (ns.map .int))))) (some (.v (.fr (wD (W n f))))) (some (.v (.fr (.int (n : Nat))))) (some (.v (.fr (wD (W n g))))) y4 (some (.v (.fr (.str kp)))) (some (.v (.fr (wD (W n (pw n f e)))))) (some (.v (.fr (.int (e : Nat))))) none none none none none (some (.v (.fr (.int (fa : Nat))))) (some (.v (.fr (wD (W (n + 1) idleM))))) (some (.v (.fr (wD (W m idleM))))) none none x18 none none)
      [PyData.tuple [.int 0, wD (W (n + 1) idleM)], .tuple [.int 1, wD (W (n + 1) idleM)], .tuple [.int 2, .int (-(fa : Int))], .tuple [.int 3, .int (-1 - (fa : Int))]] 0 (eL (some (.v (.fr (.list (ns.map .int))))) (some (.v (.fr (wD (W n f))))) (some (.v (.fr (.int (n : Nat))))) (some (.v (.fr (wD (W n g))))) y4 (some (.v (.fr (.str kp)))) (some (.v (.fr (wD (W n (pw n f e)))))) (some (.v (.fr (.int (e : Nat))))) none none none none none (some (.v (.fr (.int (fa : Nat))))) (some (.v (.fr (wD (W (n + 1) idleM))))) (some (.v (.fr (wD (W m idleM))))) none none x18 none none) rfl (fun i d env hd he => by
        subst he
        exact ⟨_, _, rfl, .inl (r19_ok (by omega) (fa : Int) (by omega) d (List.mem_of_getElem? hd) _ _ _ _ _ _ _ _ _ _ _ _ _ _ _ _ _ _ _), rfl⟩)
    subst q2
    rw [List.map_id'] at q1
    have hs : ∀ env : En, env = eL (some (.v (.fr (.list (ns.map .int))))) (some (.v (.fr (wD (W n f))))) (some (.v (.fr (.int (n : Nat))))) (some (.v (.fr (wD (W n g))))) y4 (some (.v (.fr (.str kp)))) (some (.v (.fr (wD (W n (pw n f e)))))) (some (.v (.fr (.int (e : Nat))))) none none none none none (some (.v (.fr (.int (fa : Nat))))) (some (.v (.fr (wD (W (n + 1) idleM))))) (some (.v (.fr (wD (W m idleM))))) none none x18 none none → (seqR (unO (lstR (consA (tupR (consA (cI 0) (consA (vf 14) nilA))) (consA (tupR (consA (cI 1) (consA (vf 14) nilA))) (consA (tupR (consA (cI 2) (consA (negR (vf 13)) nilA))) (consA (tupR (consA (cI 3) (consA (b2 (negR (cI 1)) (vf 13) subD) nilA))) nilA))))))) env = .ok [PyData.tuple [.int 0, wD (W (n + 1) idleM)], .tuple [.int 1, wD (W (n + 1) idleM)], .tuple [.int 2, .int (-(fa : Int))], .tuple [.int 3, .int (-1 - (fa : Int))]] := fun env he => by
      subst he; simp -implicitDefEqProofs [eL, seqR]
    rw [e_fgS, e_forS]
    erw [hs _ rfl, R.st_ok]
    exact q1) ?_
  rw [e_fzS, fz_fr (d := wD (W n g)) rfl]
  simp -implicitDefEqProofs [eL, f0, i12, l12, m9, ← hm3, i13, l13, wS_toD, eq_W, rp, eq_s]
end LX
namespace LX
open PySem PySem.Spec PyProof.Rows L2 DL
theorem good : ∀ ns : List Int, ns.length ≤ 63 → (∀ i ∈ ns, Builtin.Int.intBits i ≤ 1048576) → g_law [.list (ns.map .int)] = .ok (.fr (.bool true)) := fun ns h _ => good1 ns h
set_option maxHeartbeats 8000000 in
theorem all_mk {w : World} {K : PySem.W.Frag} {h : Heap} {mg : Str → Option Value} {fa : Addr} (X : K.In h) (G : h.Ns mainGlobals mg) (hfa : mg "law" = some (.ref fa))
    {C_OutOfRange : Addr}
    {C_LateError : Addr}
    {C_BadWork : Addr}
    {f__law_draws : Addr} {od__law_draws an__law_draws : Option Addr} {sl__law_draws : Array (Option Value)} {oc__law_draws kV__law_draws dc__law_draws pm__law_draws cd__law_draws ct__law_draws : Value}
    {f__law_gcd : Addr} {od__law_gcd an__law_gcd : Option Addr} {sl__law_gcd : Array (Option Value)} {oc__law_gcd kV__law_gcd dc__law_gcd pm__law_gcd cd__law_gcd ct__law_gcd : Value}
    {f__law_fraction : Addr} {od__law_fraction an__law_fraction : Option Addr} {sl__law_fraction : Array (Option Value)} {oc__law_fraction kV__law_fraction dc__law_fraction pm__law_fraction cd__law_fraction ct__law_fraction : Value}
    {f__law_small : Addr} {od__law_small an__law_small : Option Addr} {sl__law_small : Array (Option Value)} {oc__law_small kV__law_small dc__law_small pm__law_small cd__law_small ct__law_small : Value}
    {f__law_times : Addr} {od__law_times an__law_times : Option Addr} {sl__law_times : Array (Option Value)} {oc__law_times kV__law_times dc__law_times pm__law_times cd__law_times ct__law_times : Value}
    {f__law_work : Addr} {od__law_work an__law_work : Option Addr} {sl__law_work : Array (Option Value)} {oc__law_work kV__law_work dc__law_work pm__law_work cd__law_work ct__law_work : Value}
    {f__law_idle : Addr} {od__law_idle an__law_idle : Option Addr} {sl__law_idle : Array (Option Value)} {oc__law_idle kV__law_idle dc__law_idle pm__law_idle cd__law_idle ct__law_idle : Value}
    {f__law_cell : Addr} {od__law_cell an__law_cell : Option Addr} {sl__law_cell : Array (Option Value)} {oc__law_cell kV__law_cell dc__law_cell pm__law_cell cd__law_cell ct__law_cell : Value}
    {f__law_less : Addr} {od__law_less an__law_less : Option Addr} {sl__law_less : Array (Option Value)} {oc__law_less kV__law_less dc__law_less pm__law_less cd__law_less ct__law_less : Value}
    {f__law_latest : Addr} {od__law_latest an__law_latest : Option Addr} {sl__law_latest : Array (Option Value)} {oc__law_latest kV__law_latest dc__law_latest pm__law_latest cd__law_latest ct__law_latest : Value}
    {f__law_plus : Addr} {od__law_plus an__law_plus : Option Addr} {sl__law_plus : Array (Option Value)} {oc__law_plus kV__law_plus dc__law_plus pm__law_plus cd__law_plus ct__law_plus : Value}
    {f__law_product : Addr} {od__law_product an__law_product : Option Addr} {sl__law_product : Array (Option Value)} {oc__law_product kV__law_product dc__law_product pm__law_product cd__law_product ct__law_product : Value}
    {f__check_same_size : Addr} {od__check_same_size an__check_same_size : Option Addr} {sl__check_same_size : Array (Option Value)} {oc__check_same_size kV__check_same_size dc__check_same_size pm__check_same_size cd__check_same_size ct__check_same_size : Value}
    {f_is_less : Addr} {od_is_less an_is_less : Option Addr} {sl_is_less : Array (Option Value)} {oc_is_less kV_is_less dc_is_less pm_is_less cd_is_less ct_is_less : Value}
    {f_later : Addr} {od_later an_later : Option Addr} {sl_later : Array (Option Value)} {oc_later kV_later dc_later pm_later cd_later ct_later : Value}
    {f_latest : Addr} {od_latest an_latest : Option Addr} {sl_latest : Array (Option Value)} {oc_latest kV_latest dc_latest pm_latest cd_latest ct_latest : Value}
    {f_fraction : Addr} {od_fraction an_fraction : Option Addr} {sl_fraction : Array (Option Value)} {oc_fraction kV_fraction dc_fraction pm_fraction cd_fraction ct_fraction : Value}
    {f_plus : Addr} {od_plus an_plus : Option Addr} {sl_plus : Array (Option Value)} {oc_plus kV_plus dc_plus pm_plus cd_plus ct_plus : Value}
    {f__latest_sum : Addr} {od__latest_sum an__latest_sum : Option Addr} {sl__latest_sum : Array (Option Value)} {oc__latest_sum kV__latest_sum dc__latest_sum pm__latest_sum cd__latest_sum ct__latest_sum : Value}
    {f_product : Addr} {od_product an_product : Option Addr} {sl_product : Array (Option Value)} {oc_product kV_product dc_product pm_product cd_product ct_product : Value}
    {f__check_same_length : Addr} {od__check_same_length an__check_same_length : Option Addr} {sl__check_same_length : Array (Option Value)} {oc__check_same_length kV__check_same_length dc__check_same_length pm__check_same_length cd__check_same_length ct__check_same_length : Value}
    {f_later_vector : Addr} {od_later_vector an_later_vector : Option Addr} {sl_later_vector : Array (Option Value)} {oc_later_vector kV_later_vector dc_later_vector pm_later_vector cd_later_vector ct_later_vector : Value}
    {f_later_work : Addr} {od_later_work an_later_work : Option Addr} {sl_later_work : Array (Option Value)} {oc_later_work kV_later_work dc_later_work pm_later_work cd_later_work ct_later_work : Value}
    {f__idle_moment : Addr} {od__idle_moment an__idle_moment : Option Addr} {sl__idle_moment : Array (Option Value)} {oc__idle_moment kV__idle_moment dc__idle_moment pm__idle_moment cd__idle_moment ct__idle_moment : Value}
    {f_idle : Addr} {od_idle an_idle : Option Addr} {sl_idle : Array (Option Value)} {oc_idle kV_idle dc_idle pm_idle cd_idle ct_idle : Value}
    {f_power : Addr} {od_power an_power : Option Addr} {sl_power : Array (Option Value)} {oc_power kV_power dc_power pm_power cd_power ct_power : Value}
    {f__law_refused : Addr} {od__law_refused an__law_refused : Option Addr} {sl__law_refused : Array (Option Value)} {oc__law_refused kV__law_refused dc__law_refused pm__law_refused cd__law_refused ct__law_refused : Value}
    {f__law_new : Addr} {od__law_new an__law_new : Option Addr} {sl__law_new : Array (Option Value)} {oc__law_new kV__law_new dc__law_new pm__law_new cd__law_new ct__law_new : Value}
    {f_law : Addr} {od_law an_law : Option Addr} {sl_law : Array (Option Value)} {oc_law kV_law dc_law pm_law cd_law ct_law : Value}
    (z_int : PySem.W.nsIn K mainGlobals "int" = some none)
    (z_abs : PySem.W.nsIn K mainGlobals "abs" = some none)
    (z_range : PySem.W.nsIn K mainGlobals "range" = some none)
    (z_len : PySem.W.nsIn K mainGlobals "len" = some none)
    (z_zip : PySem.W.nsIn K mainGlobals "zip" = some none)
    (z_list : PySem.W.nsIn K mainGlobals "list" = some none)
    (z_isinstance : PySem.W.nsIn K mainGlobals "isinstance" = some none)
    (z_ValueError : PySem.W.nsIn K mainGlobals "ValueError" = some none)
    (z_repr : PySem.W.nsIn K mainGlobals "repr" = some none)
    (z_gcd : PySem.W.nsIn K mainGlobals "gcd" = some (some (.builtin "math.gcd")))
    (ea_OutOfRange : PySem.W.nsIn K mainGlobals "OutOfRange" = some (some (.ref C_OutOfRange)))
    (ex_OutOfRange : PySem.W.excIn K C_OutOfRange [.type "ValueError", .type "Exception", .type "BaseException", .type "object"] "ValueError.__new__" = true)
    (ek_OutOfRange : PySem.W.keepIn K (.ref C_OutOfRange) = true)
    (eb_OutOfRange : PySem.W.subIn K (.ref C_OutOfRange) (.type "BaseException") = some true)
    (et_OutOfRange : PySem.W.typeIn K (.ref C_OutOfRange) = some (.type "type"))
    (ei_OutOfRange : PySem.W.isClsIn K C_OutOfRange = true)
    (eg_OutOfRange : PySem.W.findIn K (.ref C_OutOfRange) "__getattribute__" = some (some (.builtin "BaseException.__getattribute__")))
    (ek2_OutOfRange : PySem.W.findIn K (.ref C_OutOfRange) "__getattr__" = some none)
    (ed_OutOfRange : PySem.W.hasDictIn K C_OutOfRange = true)
    (ec_OutOfRange : PySem.W.findIn K (.ref C_OutOfRange) "__class__" = some (some (.builtin "object.__class__")))
    (em_OutOfRange : PySem.W.mroIn K C_OutOfRange (.type "object") = some true)
    (ea_LateError : PySem.W.nsIn K mainGlobals "LateError" = some (some (.ref C_LateError)))
    (ex_LateError : PySem.W.excIn K C_LateError [.type "ValueError", .type "Exception", .type "BaseException", .type "object"] "ValueError.__new__" = true)
    (ek_LateError : PySem.W.keepIn K (.ref C_LateError) = true)
    (eb_LateError : PySem.W.subIn K (.ref C_LateError) (.type "BaseException") = some true)
    (et_LateError : PySem.W.typeIn K (.ref C_LateError) = some (.type "type"))
    (ei_LateError : PySem.W.isClsIn K C_LateError = true)
    (eg_LateError : PySem.W.findIn K (.ref C_LateError) "__getattribute__" = some (some (.builtin "BaseException.__getattribute__")))
    (ek2_LateError : PySem.W.findIn K (.ref C_LateError) "__getattr__" = some none)
    (ed_LateError : PySem.W.hasDictIn K C_LateError = true)
    (ec_LateError : PySem.W.findIn K (.ref C_LateError) "__class__" = some (some (.builtin "object.__class__")))
    (em_LateError : PySem.W.mroIn K C_LateError (.type "object") = some true)
    (ea_BadWork : PySem.W.nsIn K mainGlobals "BadWork" = some (some (.ref C_BadWork)))
    (ex_BadWork : PySem.W.excIn K C_BadWork [.type "ValueError", .type "Exception", .type "BaseException", .type "object"] "ValueError.__new__" = true)
    (ek_BadWork : PySem.W.keepIn K (.ref C_BadWork) = true)
    (eb_BadWork : PySem.W.subIn K (.ref C_BadWork) (.type "BaseException") = some true)
    (et_BadWork : PySem.W.typeIn K (.ref C_BadWork) = some (.type "type"))
    (ei_BadWork : PySem.W.isClsIn K C_BadWork = true)
    (eg_BadWork : PySem.W.findIn K (.ref C_BadWork) "__getattribute__" = some (some (.builtin "BaseException.__getattribute__")))
    (ek2_BadWork : PySem.W.findIn K (.ref C_BadWork) "__getattr__" = some none)
    (ed_BadWork : PySem.W.hasDictIn K C_BadWork = true)
    (ec_BadWork : PySem.W.findIn K (.ref C_BadWork) "__class__" = some (some (.builtin "object.__class__")))
    (em_BadWork : PySem.W.mroIn K C_BadWork (.type "object") = some true)
    (es : PySem.W.specialIn K (.builtin "object.__class__") "__get__" = some (some (.builtin "getset_descriptor.__get__")))
    (eu : PySem.W.takesIn K (.builtin "object.__class__") = some true)
    (s_LateError_OutOfRange : PySem.W.subIn K (.ref C_LateError) (.ref C_OutOfRange) = some false)
    (s_BadWork_OutOfRange : PySem.W.subIn K (.ref C_BadWork) (.ref C_OutOfRange) = some false)
    (s_OutOfRange_OutOfRange : PySem.W.subIn K (.ref C_OutOfRange) (.ref C_OutOfRange) = some true)
    (s_OutOfRange_BadWork : PySem.W.subIn K (.ref C_OutOfRange) (.ref C_BadWork) = some false)
    (s_BadWork_BadWork : PySem.W.subIn K (.ref C_BadWork) (.ref C_BadWork) = some true)
    (s_OutOfRange_ValueError : PySem.W.subIn K (.ref C_OutOfRange) (.type "ValueError") = some true)
    (s_OutOfRange_LateError : PySem.W.subIn K (.ref C_OutOfRange) (.ref C_LateError) = some true)
    (s_LateError_LateError : PySem.W.subIn K (.ref C_LateError) (.ref C_LateError) = some true)
    (a__law_draws : PySem.W.nsIn K mainGlobals "_law_draws" = some (some (.ref f__law_draws)))
    (l__law_draws : K.lookup f__law_draws = some ⟨oc__law_draws, od__law_draws, .func (PySem.W.fnOf "_law_draws" "_law_draws" (defArgs s__law_draws) (defBody s__law_draws) (defScope s__law_draws) .none kV__law_draws dc__law_draws pm__law_draws an__law_draws cd__law_draws ct__law_draws), sl__law_draws⟩)
    (c__law_draws' : PySem.W.codeIn K cd__law_draws "_law_draws" = true)
    (k__law_draws : PySem.W.keepIn K (.ref f__law_draws) = true)
    (a__law_gcd : PySem.W.nsIn K mainGlobals "_law_gcd" = some (some (.ref f__law_gcd)))
    (l__law_gcd : K.lookup f__law_gcd = some ⟨oc__law_gcd, od__law_gcd, .func (PySem.W.fnOf "_law_gcd" "_law_gcd" (defArgs s__law_gcd) (defBody s__law_gcd) (defScope s__law_gcd) .none kV__law_gcd dc__law_gcd pm__law_gcd an__law_gcd cd__law_gcd ct__law_gcd), sl__law_gcd⟩)
    (c__law_gcd' : PySem.W.codeIn K cd__law_gcd "_law_gcd" = true)
    (k__law_gcd : PySem.W.keepIn K (.ref f__law_gcd) = true)
    (a__law_fraction : PySem.W.nsIn K mainGlobals "_law_fraction" = some (some (.ref f__law_fraction)))
    (l__law_fraction : K.lookup f__law_fraction = some ⟨oc__law_fraction, od__law_fraction, .func (PySem.W.fnOf "_law_fraction" "_law_fraction" (defArgs s__law_fraction) (defBody s__law_fraction) (defScope s__law_fraction) .none kV__law_fraction dc__law_fraction pm__law_fraction an__law_fraction cd__law_fraction ct__law_fraction), sl__law_fraction⟩)
    (c__law_fraction' : PySem.W.codeIn K cd__law_fraction "_law_fraction" = true)
    (k__law_fraction : PySem.W.keepIn K (.ref f__law_fraction) = true)
    (a__law_small : PySem.W.nsIn K mainGlobals "_law_small" = some (some (.ref f__law_small)))
    (l__law_small : K.lookup f__law_small = some ⟨oc__law_small, od__law_small, .func (PySem.W.fnOf "_law_small" "_law_small" (defArgs s__law_small) (defBody s__law_small) (defScope s__law_small) .none kV__law_small dc__law_small pm__law_small an__law_small cd__law_small ct__law_small), sl__law_small⟩)
    (c__law_small' : PySem.W.codeIn K cd__law_small "_law_small" = true)
    (k__law_small : PySem.W.keepIn K (.ref f__law_small) = true)
    (a__law_times : PySem.W.nsIn K mainGlobals "_law_times" = some (some (.ref f__law_times)))
    (l__law_times : K.lookup f__law_times = some ⟨oc__law_times, od__law_times, .func (PySem.W.fnOf "_law_times" "_law_times" (defArgs s__law_times) (defBody s__law_times) (defScope s__law_times) .none kV__law_times dc__law_times pm__law_times an__law_times cd__law_times ct__law_times), sl__law_times⟩)
    (c__law_times' : PySem.W.codeIn K cd__law_times "_law_times" = true)
    (k__law_times : PySem.W.keepIn K (.ref f__law_times) = true)
    (a__law_work : PySem.W.nsIn K mainGlobals "_law_work" = some (some (.ref f__law_work)))
    (l__law_work : K.lookup f__law_work = some ⟨oc__law_work, od__law_work, .func (PySem.W.fnOf "_law_work" "_law_work" (defArgs s__law_work) (defBody s__law_work) (defScope s__law_work) .none kV__law_work dc__law_work pm__law_work an__law_work cd__law_work ct__law_work), sl__law_work⟩)
    (c__law_work' : PySem.W.codeIn K cd__law_work "_law_work" = true)
    (k__law_work : PySem.W.keepIn K (.ref f__law_work) = true)
    (a__law_idle : PySem.W.nsIn K mainGlobals "_law_idle" = some (some (.ref f__law_idle)))
    (l__law_idle : K.lookup f__law_idle = some ⟨oc__law_idle, od__law_idle, .func (PySem.W.fnOf "_law_idle" "_law_idle" (defArgs s__law_idle) (defBody s__law_idle) (defScope s__law_idle) .none kV__law_idle dc__law_idle pm__law_idle an__law_idle cd__law_idle ct__law_idle), sl__law_idle⟩)
    (c__law_idle' : PySem.W.codeIn K cd__law_idle "_law_idle" = true)
    (k__law_idle : PySem.W.keepIn K (.ref f__law_idle) = true)
    (a__law_cell : PySem.W.nsIn K mainGlobals "_law_cell" = some (some (.ref f__law_cell)))
    (l__law_cell : K.lookup f__law_cell = some ⟨oc__law_cell, od__law_cell, .func (PySem.W.fnOf "_law_cell" "_law_cell" (defArgs s__law_cell) (defBody s__law_cell) (defScope s__law_cell) .none kV__law_cell dc__law_cell pm__law_cell an__law_cell cd__law_cell ct__law_cell), sl__law_cell⟩)
    (c__law_cell' : PySem.W.codeIn K cd__law_cell "_law_cell" = true)
    (k__law_cell : PySem.W.keepIn K (.ref f__law_cell) = true)
    (a__law_less : PySem.W.nsIn K mainGlobals "_law_less" = some (some (.ref f__law_less)))
    (l__law_less : K.lookup f__law_less = some ⟨oc__law_less, od__law_less, .func (PySem.W.fnOf "_law_less" "_law_less" (defArgs s__law_less) (defBody s__law_less) (defScope s__law_less) .none kV__law_less dc__law_less pm__law_less an__law_less cd__law_less ct__law_less), sl__law_less⟩)
    (c__law_less' : PySem.W.codeIn K cd__law_less "_law_less" = true)
    (k__law_less : PySem.W.keepIn K (.ref f__law_less) = true)
    (a__law_latest : PySem.W.nsIn K mainGlobals "_law_latest" = some (some (.ref f__law_latest)))
    (l__law_latest : K.lookup f__law_latest = some ⟨oc__law_latest, od__law_latest, .func (PySem.W.fnOf "_law_latest" "_law_latest" (defArgs s__law_latest) (defBody s__law_latest) (defScope s__law_latest) .none kV__law_latest dc__law_latest pm__law_latest an__law_latest cd__law_latest ct__law_latest), sl__law_latest⟩)
    (c__law_latest' : PySem.W.codeIn K cd__law_latest "_law_latest" = true)
    (k__law_latest : PySem.W.keepIn K (.ref f__law_latest) = true)
    (a__law_plus : PySem.W.nsIn K mainGlobals "_law_plus" = some (some (.ref f__law_plus)))
    (l__law_plus : K.lookup f__law_plus = some ⟨oc__law_plus, od__law_plus, .func (PySem.W.fnOf "_law_plus" "_law_plus" (defArgs s__law_plus) (defBody s__law_plus) (defScope s__law_plus) .none kV__law_plus dc__law_plus pm__law_plus an__law_plus cd__law_plus ct__law_plus), sl__law_plus⟩)
    (c__law_plus' : PySem.W.codeIn K cd__law_plus "_law_plus" = true)
    (k__law_plus : PySem.W.keepIn K (.ref f__law_plus) = true)
    (a__law_product : PySem.W.nsIn K mainGlobals "_law_product" = some (some (.ref f__law_product)))
    (l__law_product : K.lookup f__law_product = some ⟨oc__law_product, od__law_product, .func (PySem.W.fnOf "_law_product" "_law_product" (defArgs s__law_product) (defBody s__law_product) (defScope s__law_product) .none kV__law_product dc__law_product pm__law_product an__law_product cd__law_product ct__law_product), sl__law_product⟩)
    (c__law_product' : PySem.W.codeIn K cd__law_product "_law_product" = true)
    (k__law_product : PySem.W.keepIn K (.ref f__law_product) = true)
    (a__check_same_size : PySem.W.nsIn K mainGlobals "_check_same_size" = some (some (.ref f__check_same_size)))
    (l__check_same_size : K.lookup f__check_same_size = some ⟨oc__check_same_size, od__check_same_size, .func (PySem.W.fnOf "_check_same_size" "_check_same_size" (defArgs s__check_same_size) (defBody s__check_same_size) (defScope s__check_same_size) .none kV__check_same_size dc__check_same_size pm__check_same_size an__check_same_size cd__check_same_size ct__check_same_size), sl__check_same_size⟩)
    (c__check_same_size' : PySem.W.codeIn K cd__check_same_size "_check_same_size" = true)
    (k__check_same_size : PySem.W.keepIn K (.ref f__check_same_size) = true)
    (a_is_less : PySem.W.nsIn K mainGlobals "is_less" = some (some (.ref f_is_less)))
    (l_is_less : K.lookup f_is_less = some ⟨oc_is_less, od_is_less, .func (PySem.W.fnOf "is_less" "is_less" (defArgs s_is_less) (defBody s_is_less) (defScope s_is_less) .none kV_is_less dc_is_less pm_is_less an_is_less cd_is_less ct_is_less), sl_is_less⟩)
    (c_is_less' : PySem.W.codeIn K cd_is_less "is_less" = true)
    (k_is_less : PySem.W.keepIn K (.ref f_is_less) = true)
    (a_later : PySem.W.nsIn K mainGlobals "later" = some (some (.ref f_later)))
    (l_later : K.lookup f_later = some ⟨oc_later, od_later, .func (PySem.W.fnOf "later" "later" (defArgs s_later) (defBody s_later) (defScope s_later) .none kV_later dc_later pm_later an_later cd_later ct_later), sl_later⟩)
    (c_later' : PySem.W.codeIn K cd_later "later" = true)
    (k_later : PySem.W.keepIn K (.ref f_later) = true)
    (a_latest : PySem.W.nsIn K mainGlobals "latest" = some (some (.ref f_latest)))
    (l_latest : K.lookup f_latest = some ⟨oc_latest, od_latest, .func (PySem.W.fnOf "latest" "latest" (defArgs s_latest) (defBody s_latest) (defScope s_latest) .none kV_latest dc_latest pm_latest an_latest cd_latest ct_latest), sl_latest⟩)
    (c_latest' : PySem.W.codeIn K cd_latest "latest" = true)
    (k_latest : PySem.W.keepIn K (.ref f_latest) = true)
    (a_fraction : PySem.W.nsIn K mainGlobals "fraction" = some (some (.ref f_fraction)))
    (l_fraction : K.lookup f_fraction = some ⟨oc_fraction, od_fraction, .func (PySem.W.fnOf "fraction" "fraction" (defArgs s_fraction) (defBody s_fraction) (defScope s_fraction) .none kV_fraction dc_fraction pm_fraction an_fraction cd_fraction ct_fraction), sl_fraction⟩)
    (c_fraction' : PySem.W.codeIn K cd_fraction "fraction" = true)
    (k_fraction : PySem.W.keepIn K (.ref f_fraction) = true)
    (a_plus : PySem.W.nsIn K mainGlobals "plus" = some (some (.ref f_plus)))
    (l_plus : K.lookup f_plus = some ⟨oc_plus, od_plus, .func (PySem.W.fnOf "plus" "plus" (defArgs s_plus) (defBody s_plus) (defScope s_plus) .none kV_plus dc_plus pm_plus an_plus cd_plus ct_plus), sl_plus⟩)
    (c_plus' : PySem.W.codeIn K cd_plus "plus" = true)
    (k_plus : PySem.W.keepIn K (.ref f_plus) = true)
    (a__latest_sum : PySem.W.nsIn K mainGlobals "_latest_sum" = some (some (.ref f__latest_sum)))
    (l__latest_sum : K.lookup f__latest_sum = some ⟨oc__latest_sum, od__latest_sum, .func (PySem.W.fnOf "_latest_sum" "_latest_sum" (defArgs s__latest_sum) (defBody s__latest_sum) (defScope s__latest_sum) .none kV__latest_sum dc__latest_sum pm__latest_sum an__latest_sum cd__latest_sum ct__latest_sum), sl__latest_sum⟩)
    (c__latest_sum' : PySem.W.codeIn K cd__latest_sum "_latest_sum" = true)
    (k__latest_sum : PySem.W.keepIn K (.ref f__latest_sum) = true)
    (a_product : PySem.W.nsIn K mainGlobals "product" = some (some (.ref f_product)))
    (l_product : K.lookup f_product = some ⟨oc_product, od_product, .func (PySem.W.fnOf "product" "product" (defArgs s_product) (defBody s_product) (defScope s_product) .none kV_product dc_product pm_product an_product cd_product ct_product), sl_product⟩)
    (c_product' : PySem.W.codeIn K cd_product "product" = true)
    (k_product : PySem.W.keepIn K (.ref f_product) = true)
    (a__check_same_length : PySem.W.nsIn K mainGlobals "_check_same_length" = some (some (.ref f__check_same_length)))
    (l__check_same_length : K.lookup f__check_same_length = some ⟨oc__check_same_length, od__check_same_length, .func (PySem.W.fnOf "_check_same_length" "_check_same_length" (defArgs s__check_same_length) (defBody s__check_same_length) (defScope s__check_same_length) .none kV__check_same_length dc__check_same_length pm__check_same_length an__check_same_length cd__check_same_length ct__check_same_length), sl__check_same_length⟩)
    (c__check_same_length' : PySem.W.codeIn K cd__check_same_length "_check_same_length" = true)
    (k__check_same_length : PySem.W.keepIn K (.ref f__check_same_length) = true)
    (a_later_vector : PySem.W.nsIn K mainGlobals "later_vector" = some (some (.ref f_later_vector)))
    (l_later_vector : K.lookup f_later_vector = some ⟨oc_later_vector, od_later_vector, .func (PySem.W.fnOf "later_vector" "later_vector" (defArgs s_later_vector) (defBody s_later_vector) (defScope s_later_vector) .none kV_later_vector dc_later_vector pm_later_vector an_later_vector cd_later_vector ct_later_vector), sl_later_vector⟩)
    (c_later_vector' : PySem.W.codeIn K cd_later_vector "later_vector" = true)
    (k_later_vector : PySem.W.keepIn K (.ref f_later_vector) = true)
    (a_later_work : PySem.W.nsIn K mainGlobals "later_work" = some (some (.ref f_later_work)))
    (l_later_work : K.lookup f_later_work = some ⟨oc_later_work, od_later_work, .func (PySem.W.fnOf "later_work" "later_work" (defArgs s_later_work) (defBody s_later_work) (defScope s_later_work) .none kV_later_work dc_later_work pm_later_work an_later_work cd_later_work ct_later_work), sl_later_work⟩)
    (c_later_work' : PySem.W.codeIn K cd_later_work "later_work" = true)
    (k_later_work : PySem.W.keepIn K (.ref f_later_work) = true)
    (a__idle_moment : PySem.W.nsIn K mainGlobals "_idle_moment" = some (some (.ref f__idle_moment)))
    (l__idle_moment : K.lookup f__idle_moment = some ⟨oc__idle_moment, od__idle_moment, .func (PySem.W.fnOf "_idle_moment" "_idle_moment" (defArgs s__idle_moment) (defBody s__idle_moment) (defScope s__idle_moment) .none kV__idle_moment dc__idle_moment pm__idle_moment an__idle_moment cd__idle_moment ct__idle_moment), sl__idle_moment⟩)
    (c__idle_moment' : PySem.W.codeIn K cd__idle_moment "_idle_moment" = true)
    (k__idle_moment : PySem.W.keepIn K (.ref f__idle_moment) = true)
    (a_idle : PySem.W.nsIn K mainGlobals "idle" = some (some (.ref f_idle)))
    (l_idle : K.lookup f_idle = some ⟨oc_idle, od_idle, .func (PySem.W.fnOf "idle" "idle" (defArgs s_idle) (defBody s_idle) (defScope s_idle) .none kV_idle dc_idle pm_idle an_idle cd_idle ct_idle), sl_idle⟩)
    (c_idle' : PySem.W.codeIn K cd_idle "idle" = true)
    (k_idle : PySem.W.keepIn K (.ref f_idle) = true)
    (a_power : PySem.W.nsIn K mainGlobals "power" = some (some (.ref f_power)))
    (l_power : K.lookup f_power = some ⟨oc_power, od_power, .func (PySem.W.fnOf "power" "power" (defArgs s_power) (defBody s_power) (defScope s_power) .none kV_power dc_power pm_power an_power cd_power ct_power), sl_power⟩)
    (c_power' : PySem.W.codeIn K cd_power "power" = true)
    (k_power : PySem.W.keepIn K (.ref f_power) = true)
    (a__law_refused : PySem.W.nsIn K mainGlobals "_law_refused" = some (some (.ref f__law_refused)))
    (l__law_refused : K.lookup f__law_refused = some ⟨oc__law_refused, od__law_refused, .func (PySem.W.fnOf "_law_refused" "_law_refused" (defArgs s__law_refused) (defBody s__law_refused) (defScope s__law_refused) .none kV__law_refused dc__law_refused pm__law_refused an__law_refused cd__law_refused ct__law_refused), sl__law_refused⟩)
    (c__law_refused' : PySem.W.codeIn K cd__law_refused "_law_refused" = true)
    (k__law_refused : PySem.W.keepIn K (.ref f__law_refused) = true)
    (a__law_new : PySem.W.nsIn K mainGlobals "_law_new" = some (some (.ref f__law_new)))
    (l__law_new : K.lookup f__law_new = some ⟨oc__law_new, od__law_new, .func (PySem.W.fnOf "_law_new" "_law_new" (defArgs s__law_new) (defBody s__law_new) (defScope s__law_new) .none kV__law_new dc__law_new pm__law_new an__law_new cd__law_new ct__law_new), sl__law_new⟩)
    (c__law_new' : PySem.W.codeIn K cd__law_new "_law_new" = true)
    (k__law_new : PySem.W.keepIn K (.ref f__law_new) = true)
    (a_law : PySem.W.nsIn K mainGlobals "law" = some (some (.ref f_law)))
    (l_law : K.lookup f_law = some ⟨oc_law, od_law, .func (PySem.W.fnOf "law" "law" (defArgs s_law) (defBody s_law) (defScope s_law) .none kV_law dc_law pm_law an_law cd_law ct_law), sl_law⟩)
    (c_law' : PySem.W.codeIn K cd_law "law" = true)
    (k_law : PySem.W.keepIn K (.ref f_law) = true)
    : ∃ fd : FuncData, (∀ (s : Shared) (u : Value), BindsTo s fd ⟨[u], []⟩ [("script", u)]) ∧ ∀ base : Heap, K.In base → base.Ns mainGlobals mg → FnG PySem.Challenge.rw_latelaw_k05_products_of_works.prog w K mg base 8 fa fd ["script"] g_law := by
  have E_OutOfRange : ErA K mg "OutOfRange" C_OutOfRange := ⟨⟨PySem.W.mg_of X G ea_OutOfRange, ⟨_, ex_OutOfRange, rfl⟩, ek_OutOfRange, eb_OutOfRange, et_OutOfRange⟩, ei_OutOfRange, ⟨eg_OutOfRange, ek2_OutOfRange, eb_OutOfRange, ed_OutOfRange, ec_OutOfRange, es, eu, em_OutOfRange⟩⟩
  have E_LateError : ErA K mg "LateError" C_LateError := ⟨⟨PySem.W.mg_of X G ea_LateError, ⟨_, ex_LateError, rfl⟩, ek_LateError, eb_LateError, et_LateError⟩, ei_LateError, ⟨eg_LateError, ek2_LateError, eb_LateError, ed_LateError, ec_LateError, es, eu, em_LateError⟩⟩
  have E_BadWork : ErA K mg "BadWork" C_BadWork := ⟨⟨PySem.W.mg_of X G ea_BadWork, ⟨_, ex_BadWork, rfl⟩, ek_BadWork, eb_BadWork, et_BadWork⟩, ei_BadWork, ⟨eg_BadWork, ek2_BadWork, eb_BadWork, ed_BadWork, ec_BadWork, es, eu, em_BadWork⟩⟩
  have GG : Gl K mg := {
    b_int := PySem.W.mg_none_of X G z_int
    b_abs := PySem.W.mg_none_of X G z_abs
    b_range := PySem.W.mg_none_of X G z_range
    b_len := PySem.W.mg_none_of X G z_len
    b_zip := PySem.W.mg_none_of X G z_zip
    b_list := PySem.W.mg_none_of X G z_list
    b_isinstance := PySem.W.mg_none_of X G z_isinstance
    b_ValueError := PySem.W.mg_none_of X G z_ValueError
    b_repr := PySem.W.mg_none_of X G z_repr
    m_gcd := PySem.W.mg_of X G z_gcd
    e_OutOfRange := ⟨_, E_OutOfRange⟩
    e_LateError := ⟨_, E_LateError⟩
    e_BadWork := ⟨_, E_BadWork⟩
    s_LateError_OutOfRange := by unfold SubO; rw [E_LateError.e.ec, E_OutOfRange.e.ec]; exact s_LateError_OutOfRange
    s_BadWork_OutOfRange := by unfold SubO; rw [E_BadWork.e.ec, E_OutOfRange.e.ec]; exact s_BadWork_OutOfRange
    s_OutOfRange_OutOfRange := by unfold SubO; rw [E_OutOfRange.e.ec]; exact s_OutOfRange_OutOfRange
    s_OutOfRange_BadWork := by unfold SubO; rw [E_OutOfRange.e.ec, E_BadWork.e.ec]; exact s_OutOfRange_BadWork
    s_BadWork_BadWork := by unfold SubO; rw [E_BadWork.e.ec]; exact s_BadWork_BadWork
    s_OutOfRange_ValueError := by unfold SubB; rw [E_OutOfRange.e.ec]; exact s_OutOfRange_ValueError
    s_OutOfRange_LateError := by unfold SubO; rw [E_OutOfRange.e.ec, E_LateError.e.ec]; exact s_OutOfRange_LateError
    s_LateError_LateError := by unfold SubO; rw [E_LateError.e.ec]; exact s_LateError_LateError
  }
  have F__law_draws := fun_mk (st := s__law_draws) l__law_draws c__law_draws' k__law_draws
  have D__law_draws : Fd K mg "_law_draws" s__law_draws ["cell", "limits"] := ⟨_, _, F__law_draws, PySem.W.mg_of X G a__law_draws, F__law_draws.binds fun _ _ _ _ _ _ us hl => match us, hl with | [_, _], _ => rfl⟩
  have F__law_gcd := fun_mk (st := s__law_gcd) l__law_gcd c__law_gcd' k__law_gcd
  have D__law_gcd : Fd K mg "_law_gcd" s__law_gcd ["a", "b"] := ⟨_, _, F__law_gcd, PySem.W.mg_of X G a__law_gcd, F__law_gcd.binds fun _ _ _ _ _ _ us hl => match us, hl with | [_, _], _ => rfl⟩
  have F__law_fraction := fun_mk (st := s__law_fraction) l__law_fraction c__law_fraction' k__law_fraction
  have D__law_fraction : Fd K mg "_law_fraction" s__law_fraction ["top", "low"] := ⟨_, _, F__law_fraction, PySem.W.mg_of X G a__law_fraction, F__law_fraction.binds fun _ _ _ _ _ _ us hl => match us, hl with | [_, _], _ => rfl⟩
  have F__law_small := fun_mk (st := s__law_small) l__law_small c__law_small' k__law_small
  have D__law_small : Fd K mg "_law_small" s__law_small ["cell", "often"] := ⟨_, _, F__law_small, PySem.W.mg_of X G a__law_small, F__law_small.binds fun _ _ _ _ _ _ us hl => match us, hl with | [_, _], _ => rfl⟩
  have F__law_times := fun_mk (st := s__law_times) l__law_times c__law_times' k__law_times
  have D__law_times : Fd K mg "_law_times" s__law_times ["first", "number"] := ⟨_, _, F__law_times, PySem.W.mg_of X G a__law_times, F__law_times.binds fun _ _ _ _ _ _ us hl => match us, hl with | [_, _], _ => rfl⟩
  have F__law_work := fun_mk (st := s__law_work) l__law_work c__law_work' k__law_work
  have D__law_work : Fd K mg "_law_work" s__law_work ["cell", "cells", "most"] := ⟨_, _, F__law_work, PySem.W.mg_of X G a__law_work, F__law_work.binds fun _ _ _ _ _ _ us hl => match us, hl with | [_, _, _], _ => rfl⟩
  have F__law_idle := fun_mk (st := s__law_idle) l__law_idle c__law_idle' k__law_idle
  have D__law_idle : Fd K mg "_law_idle" s__law_idle ["size"] := ⟨_, _, F__law_idle, PySem.W.mg_of X G a__law_idle, F__law_idle.binds fun _ _ _ _ _ _ us hl => match us, hl with | [_], _ => rfl⟩
  have F__law_cell := fun_mk (st := s__law_cell) l__law_cell c__law_cell' k__law_cell
  have D__law_cell : Fd K mg "_law_cell" s__law_cell ["script", "k"] := ⟨_, _, F__law_cell, PySem.W.mg_of X G a__law_cell, F__law_cell.binds fun _ _ _ _ _ _ us hl => match us, hl with | [_, _], _ => rfl⟩
  have F__law_less := fun_mk (st := s__law_less) l__law_less c__law_less' k__law_less
  have D__law_less : Fd K mg "_law_less" s__law_less ["first", "second"] := ⟨_, _, F__law_less, PySem.W.mg_of X G a__law_less, F__law_less.binds fun _ _ _ _ _ _ us hl => match us, hl with | [_, _], _ => rfl⟩
  have F__law_latest := fun_mk (st := s__law_latest) l__law_latest c__law_latest' k__law_latest
  have D__law_latest : Fd K mg "_law_latest" s__law_latest ["moments"] := ⟨_, _, F__law_latest, PySem.W.mg_of X G a__law_latest, F__law_latest.binds fun _ _ _ _ _ _ us hl => match us, hl with | [_], _ => rfl⟩
  have F__law_plus := fun_mk (st := s__law_plus) l__law_plus c__law_plus' k__law_plus
  have D__law_plus : Fd K mg "_law_plus" s__law_plus ["first", "second"] := ⟨_, _, F__law_plus, PySem.W.mg_of X G a__law_plus, F__law_plus.binds fun _ _ _ _ _ _ us hl => match us, hl with | [_, _], _ => rfl⟩
  have F__law_product := fun_mk (st := s__law_product) l__law_product c__law_product' k__law_product
  have D__law_product : Fd K mg "_law_product" s__law_product ["first", "second"] := ⟨_, _, F__law_product, PySem.W.mg_of X G a__law_product, F__law_product.binds fun _ _ _ _ _ _ us hl => match us, hl with | [_, _], _ => rfl⟩
  have F__check_same_size := fun_mk (st := s__check_same_size) l__check_same_size c__check_same_size' k__check_same_size
  have D__check_same_size : Fd K mg "_check_same_size" s__check_same_size ["first", "second"] := ⟨_, _, F__check_same_size, PySem.W.mg_of X G a__check_same_size, F__check_same_size.binds fun _ _ _ _ _ _ us hl => match us, hl with | [_, _], _ => rfl⟩
  have F_is_less := fun_mk (st := s_is_less) l_is_less c_is_less' k_is_less
  have D_is_less : Fd K mg "is_less" s_is_less ["first", "second"] := ⟨_, _, F_is_less, PySem.W.mg_of X G a_is_less, F_is_less.binds fun _ _ _ _ _ _ us hl => match us, hl with | [_, _], _ => rfl⟩
  have F_later := fun_mk (st := s_later) l_later c_later' k_later
  have D_later : Fd K mg "later" s_later ["first", "second"] := ⟨_, _, F_later, PySem.W.mg_of X G a_later, F_later.binds fun _ _ _ _ _ _ us hl => match us, hl with | [_, _], _ => rfl⟩
  have F_latest := fun_mk (st := s_latest) l_latest c_latest' k_latest
  have D_latest : Fd K mg "latest" s_latest ["moments"] := ⟨_, _, F_latest, PySem.W.mg_of X G a_latest, F_latest.binds fun _ _ _ _ _ _ us hl => match us, hl with | [_], _ => rfl⟩
  have F_fraction := fun_mk (st := s_fraction) l_fraction c_fraction' k_fraction
  have D_fraction : Fd K mg "fraction" s_fraction ["top", "low"] := ⟨_, _, F_fraction, PySem.W.mg_of X G a_fraction, F_fraction.binds fun _ _ _ _ _ _ us hl => match us, hl with | [_, _], _ => rfl⟩
  have F_plus := fun_mk (st := s_plus) l_plus c_plus' k_plus
  have D_plus : Fd K mg "plus" s_plus ["first", "second"] := ⟨_, _, F_plus, PySem.W.mg_of X G a_plus, F_plus.binds fun _ _ _ _ _ _ us hl => match us, hl with | [_, _], _ => rfl⟩
  have F__latest_sum := fun_mk (st := s__latest_sum) l__latest_sum c__latest_sum' k__latest_sum
  have D__latest_sum : Fd K mg "_latest_sum" s__latest_sum ["firsts", "seconds"] := ⟨_, _, F__latest_sum, PySem.W.mg_of X G a__latest_sum, F__latest_sum.binds fun _ _ _ _ _ _ us hl => match us, hl with | [_, _], _ => rfl⟩
  have F_product := fun_mk (st := s_product) l_product c_product' k_product
  have D_product : Fd K mg "product" s_product ["first", "second"] := ⟨_, _, F_product, PySem.W.mg_of X G a_product, F_product.binds fun _ _ _ _ _ _ us hl => match us, hl with | [_, _], _ => rfl⟩
  have F__check_same_length := fun_mk (st := s__check_same_length) l__check_same_length c__check_same_length' k__check_same_length
  have D__check_same_length : Fd K mg "_check_same_length" s__check_same_length ["first", "second"] := ⟨_, _, F__check_same_length, PySem.W.mg_of X G a__check_same_length, F__check_same_length.binds fun _ _ _ _ _ _ us hl => match us, hl with | [_, _], _ => rfl⟩
  have F_later_vector := fun_mk (st := s_later_vector) l_later_vector c_later_vector' k_later_vector
  have D_later_vector : Fd K mg "later_vector" s_later_vector ["first", "second"] := ⟨_, _, F_later_vector, PySem.W.mg_of X G a_later_vector, F_later_vector.binds fun _ _ _ _ _ _ us hl => match us, hl with | [_, _], _ => rfl⟩
  have F_later_work := fun_mk (st := s_later_work) l_later_work c_later_work' k_later_work
  have D_later_work : Fd K mg "later_work" s_later_work ["first", "second"] := ⟨_, _, F_later_work, PySem.W.mg_of X G a_later_work, F_later_work.binds fun _ _ _ _ _ _ us hl => match us, hl with | [_, _], _ => rfl⟩
  have F__idle_moment := fun_mk (st := s__idle_moment) l__idle_moment c__idle_moment' k__idle_moment
  have D__idle_moment : Fd K mg "_idle_moment" s__idle_moment ["i", "j"] := ⟨_, _, F__idle_moment, PySem.W.mg_of X G a__idle_moment, F__idle_moment.binds fun _ _ _ _ _ _ us hl => match us, hl with | [_, _], _ => rfl⟩
  have F_idle := fun_mk (st := s_idle) l_idle c_idle' k_idle
  have D_idle : Fd K mg "idle" s_idle ["size"] := ⟨_, _, F_idle, PySem.W.mg_of X G a_idle, F_idle.binds fun _ _ _ _ _ _ us hl => match us, hl with | [_], _ => rfl⟩
  have F_power := fun_mk (st := s_power) l_power c_power' k_power
  have D_power : Fd K mg "power" s_power ["work", "exponent"] := ⟨_, _, F_power, PySem.W.mg_of X G a_power, F_power.binds fun _ _ _ _ _ _ us hl => match us, hl with | [_, _], _ => rfl⟩
  have F__law_refused := fun_mk (st := s__law_refused) l__law_refused c__law_refused' k__law_refused
  have D__law_refused : Fd K mg "_law_refused" s__law_refused ["way", "first", "second"] := ⟨_, _, F__law_refused, PySem.W.mg_of X G a__law_refused, F__law_refused.binds fun _ _ _ _ _ _ us hl => match us, hl with | [_, _, _], _ => rfl⟩
  have F__law_new := fun_mk (st := s__law_new) l__law_new c__law_new' k__law_new
  have D__law_new : Fd K mg "_law_new" s__law_new ["actual", "due"] := ⟨_, _, F__law_new, PySem.W.mg_of X G a__law_new, F__law_new.binds fun _ _ _ _ _ _ us hl => match us, hl with | [_, _], _ => rfl⟩
  have F_law := fun_mk (st := s_law) l_law c_law' k_law
  have D_law : Fd K mg "law" s_law ["script"] := ⟨_, _, F_law, PySem.W.mg_of X G a_law, F_law.binds fun _ _ _ _ _ _ us hl => match us, hl with | [_], _ => rfl⟩
  refine ⟨_, fun s u => .of_eq rfl, top_of hfa F_law (PySem.W.mg_of X G a_law) fun base _ _ => ?_⟩
  have H__law_draws : Cal PySem.Challenge.rw_latelaw_k05_products_of_works.prog w K mg base 1 "_law_draws" ["cell", "limits"] g__law_draws := c__law_draws GG D__law_draws 
  have H__law_gcd : Cal PySem.Challenge.rw_latelaw_k05_products_of_works.prog w K mg base 1 "_law_gcd" ["a", "b"] g__law_gcd := c__law_gcd GG D__law_gcd 
  have H__law_fraction : Cal PySem.Challenge.rw_latelaw_k05_products_of_works.prog w K mg base 2 "_law_fraction" ["top", "low"] g__law_fraction := c__law_fraction GG D__law_fraction H__law_gcd
  have H__law_small : Cal PySem.Challenge.rw_latelaw_k05_products_of_works.prog w K mg base 3 "_law_small" ["cell", "often"] g__law_small := c__law_small GG D__law_small H__law_draws H__law_fraction
  have H__law_times : Cal PySem.Challenge.rw_latelaw_k05_products_of_works.prog w K mg base 3 "_law_times" ["first", "number"] g__law_times := c__law_times GG D__law_times H__law_fraction
  have H__law_work : Cal PySem.Challenge.rw_latelaw_k05_products_of_works.prog w K mg base 4 "_law_work" ["cell", "cells", "most"] g__law_work := c__law_work GG D__law_work H__law_draws H__law_small H__law_times
  have H__law_idle : Cal PySem.Challenge.rw_latelaw_k05_products_of_works.prog w K mg base 1 "_law_idle" ["size"] g__law_idle := c__law_idle GG D__law_idle 
  have H__law_cell : Cal PySem.Challenge.rw_latelaw_k05_products_of_works.prog w K mg base 1 "_law_cell" ["script", "k"] g__law_cell := c__law_cell GG D__law_cell 
  have H__law_less : Cal PySem.Challenge.rw_latelaw_k05_products_of_works.prog w K mg base 1 "_law_less" ["first", "second"] g__law_less := c__law_less GG D__law_less 
  have H__law_latest : Cal PySem.Challenge.rw_latelaw_k05_products_of_works.prog w K mg base 2 "_law_latest" ["moments"] g__law_latest := c__law_latest GG D__law_latest H__law_less
  have H__law_plus : Cal PySem.Challenge.rw_latelaw_k05_products_of_works.prog w K mg base 3 "_law_plus" ["first", "second"] g__law_plus := c__law_plus GG D__law_plus H__law_fraction
  have H__law_product : Cal PySem.Challenge.rw_latelaw_k05_products_of_works.prog w K mg base 4 "_law_product" ["first", "second"] g__law_product := c__law_product GG D__law_product H__law_latest H__law_plus
  have H__check_same_size : Cal PySem.Challenge.rw_latelaw_k05_products_of_works.prog w K mg base 1 "_check_same_size" ["first", "second"] g__check_same_size := c__check_same_size GG D__check_same_size 
  have H_is_less : Cal PySem.Challenge.rw_latelaw_k05_products_of_works.prog w K mg base 1 "is_less" ["first", "second"] g_is_less := c_is_less GG D_is_less 
  have H_later : Cal PySem.Challenge.rw_latelaw_k05_products_of_works.prog w K mg base 2 "later" ["first", "second"] g_later := c_later GG D_later H_is_less
  have H_latest : Cal PySem.Challenge.rw_latelaw_k05_products_of_works.prog w K mg base 3 "latest" ["moments"] g_latest := c_latest GG D_latest H_later
  have H_fraction : Cal PySem.Challenge.rw_latelaw_k05_products_of_works.prog w K mg base 1 "fraction" ["top", "low"] g_fraction := c_fraction GG D_fraction 
  have H_plus : Cal PySem.Challenge.rw_latelaw_k05_products_of_works.prog w K mg base 2 "plus" ["first", "second"] g_plus := c_plus GG D_plus H_fraction
  have H__latest_sum : Cal PySem.Challenge.rw_latelaw_k05_products_of_works.prog w K mg base 4 "_latest_sum" ["firsts", "seconds"] g__latest_sum := c__latest_sum GG D__latest_sum H_latest H_plus
  have H_product : Cal PySem.Challenge.rw_latelaw_k05_products_of_works.prog w K mg base 5 "product" ["first", "second"] g_product := c_product GG D_product H__check_same_size H__latest_sum
  have H__check_same_length : Cal PySem.Challenge.rw_latelaw_k05_products_of_works.prog w K mg base 1 "_check_same_length" ["first", "second"] g__check_same_length := c__check_same_length GG D__check_same_length 
  have H_later_vector : Cal PySem.Challenge.rw_latelaw_k05_products_of_works.prog w K mg base 3 "later_vector" ["first", "second"] g_later_vector := c_later_vector GG D_later_vector H__check_same_length H_later
  have H_later_work : Cal PySem.Challenge.rw_latelaw_k05_products_of_works.prog w K mg base 4 "later_work" ["first", "second"] g_later_work := c_later_work GG D_later_work H__check_same_size H_later_vector
  have H__idle_moment : Cal PySem.Challenge.rw_latelaw_k05_products_of_works.prog w K mg base 1 "_idle_moment" ["i", "j"] g__idle_moment := c__idle_moment GG D__idle_moment 
  have H_idle : Cal PySem.Challenge.rw_latelaw_k05_products_of_works.prog w K mg base 2 "idle" ["size"] g_idle := c_idle GG D_idle H__idle_moment
  have H_power : Cal PySem.Challenge.rw_latelaw_k05_products_of_works.prog w K mg base 6 "power" ["work", "exponent"] g_power := c_power GG D_power H_idle H_product
  have H__law_refused : Cal PySem.Challenge.rw_latelaw_k05_products_of_works.prog w K mg base 7 "_law_refused" ["way", "first", "second"] g__law_refused := c__law_refused GG D__law_refused H_product H_later_work H_idle H_power
  have H__law_new : CalO PySem.Challenge.rw_latelaw_k05_products_of_works.prog w K mg base 1 "_law_new" ["actual", "due"] g__law_new := c__law_new GG D__law_new 
  have H_law : Cal PySem.Challenge.rw_latelaw_k05_products_of_works.prog w K mg base 8 "law" ["script"] g_law := c_law GG D_law H__law_work H__law_idle H__law_cell H__law_product H__law_refused H__law_new H__law_latest H_product H_later_work H_idle H__law_small H_power
  exact H_law
end LX
open PySem PySem.W PyProof.Rows
set_option maxHeartbeats 0 in
theorem PySem.Challenge.cw_latelaw_k05_products_of_works_holds : PySem.Challenge.rw_latelaw_k05_products_of_works.Holds := by
  w_on; o_law; k_head; (case hw => w_witness2)
  k_fill
  refine DL.walk_ofG (l := PySem.Challenge.rw_latelaw_k05_products_of_works) (n := 63) (k := 8) (x := "script") (g := LX.g_law) rfl (by decide) rfl ⟨rfl, by decide, by decide⟩ (fun w h Y => PySem.W.kIn_of Y) ?F LX.good
  case F =>
    intro w mg fa h KX G hmg
    refine' LX.all_mk KX G hmg ?z_int ?z_abs ?z_range ?z_len ?z_zip ?z_list ?z_isinstance ?z_ValueError ?z_repr ?z_gcd ?ea_OutOfRange ?ex_OutOfRange ?ek_OutOfRange ?eb_OutOfRange ?et_OutOfRange ?ei_OutOfRange ?eg_OutOfRange ?ek2_OutOfRange ?ed_OutOfRange ?ec_OutOfRange ?em_OutOfRange ?ea_LateError ?ex_LateError ?ek_LateError ?eb_LateError ?et_LateError ?ei_LateError ?eg_LateError ?ek2_LateError ?ed_LateError ?ec_LateError ?em_LateError ?ea_BadWork ?ex_BadWork ?ek_BadWork ?eb_BadWork ?et_BadWork ?ei_BadWork ?eg_BadWork ?ek2_BadWork ?ed_BadWork ?ec_BadWork ?em_BadWork ?es ?eu ?s_LateError_OutOfRange ?s_BadWork_OutOfRange ?s_OutOfRange_OutOfRange ?s_OutOfRange_BadWork ?s_BadWork_BadWork ?s_OutOfRange_ValueError ?s_OutOfRange_LateError ?s_LateError_LateError ?a__law_draws ?l__law_draws ?c__law_draws9 ?k__law_draws ?a__law_gcd ?l__law_gcd ?c__law_gcd9 ?k__law_gcd ?a__law_fraction ?l__law_fraction ?c__law_fraction9 ?k__law_fraction ?a__law_small ?l__law_small ?c__law_small9 ?k__law_small ?a__law_times ?l__law_times ?c__law_times9 ?k__law_times ?a__law_work ?l__law_work ?c__law_work9 ?k__law_work ?a__law_idle ?l__law_idle ?c__law_idle9 ?k__law_idle ?a__law_cell ?l__law_cell ?c__law_cell9 ?k__law_cell ?a__law_less ?l__law_less ?c__law_less9 ?k__law_less ?a__law_latest ?l__law_latest ?c__law_latest9 ?k__law_latest ?a__law_plus ?l__law_plus ?c__law_plus9 ?k__law_plus ?a__law_product ?l__law_product ?c__law_product9 ?k__law_product ?a__check_same_size ?l__check_same_size ?c__check_same_size9 ?k__check_same_size ?a_is_less ?l_is_less ?c_is_less9 ?k_is_less ?a_later ?l_later ?c_later9 ?k_later ?a_latest ?l_latest ?c_latest9 ?k_latest ?a_fraction ?l_fraction ?c_fraction9 ?k_fraction ?a_plus ?l_plus ?c_plus9 ?k_plus ?a__latest_sum ?l__latest_sum ?c__latest_sum9 ?k__latest_sum ?a_product ?l_product ?c_product9 ?k_product ?a__check_same_length ?l__check_same_length ?c__check_same_length9 ?k__check_same_length ?a_later_vector ?l_later_vector ?c_later_vector9 ?k_later_vector ?a_later_work ?l_later_work ?c_later_work9 ?k_later_work ?a__idle_moment ?l__idle_moment ?c__idle_moment9 ?k__idle_moment ?a_idle ?l_idle ?c_idle9 ?k_idle ?a_power ?l_power ?c_power9 ?k_power ?a__law_refused ?l__law_refused ?c__law_refused9 ?k__law_refused ?a__law_new ?l__law_new ?c__law_new9 ?k__law_new ?a_law ?l_law ?c_law9 ?k_law
    (case z_int => k_is)
    (case z_abs => k_is)
    (case z_range => k_is)
    (case z_len => k_is)
    (case z_zip => k_is)
    (case z_list => k_is)
    (case z_isinstance => k_is)
    (case z_ValueError => k_is)
    (case z_repr => k_is)
    (case z_gcd => k_is)
    (case ea_OutOfRange => k_is)
    (case ex_OutOfRange => k_exc)
    (case ek_OutOfRange => k_is)
    (case eb_OutOfRange => k_is)
    (case et_OutOfRange => k_is)
    (case ei_OutOfRange => k_is)
    (case eg_OutOfRange => k_is)
    (case ek2_OutOfRange => k_is)
    (case ed_OutOfRange => k_is)
    (case ec_OutOfRange => k_is)
    (case em_OutOfRange => k_is)
    (case ea_LateError => k_is)
    (case ex_LateError => k_exc)
    (case ek_LateError => k_is)
    (case eb_LateError => k_is)
    (case et_LateError => k_is)
    (case ei_LateError => k_is)
    (case eg_LateError => k_is)
    (case ek2_LateError => k_is)
    (case ed_LateError => k_is)
    (case ec_LateError => k_is)
    (case em_LateError => k_is)
    (case ea_BadWork => k_is)
    (case ex_BadWork => k_exc)
    (case ek_BadWork => k_is)
    (case eb_BadWork => k_is)
    (case et_BadWork => k_is)
    (case ei_BadWork => k_is)
    (case eg_BadWork => k_is)
    (case ek2_BadWork => k_is)
    (case ed_BadWork => k_is)
    (case ec_BadWork => k_is)
    (case em_BadWork => k_is)
    (case es => k_is)
    (case eu => k_is)
    (case s_LateError_OutOfRange => first | rfl | k_is)
    (case s_BadWork_OutOfRange => first | rfl | k_is)
    (case s_OutOfRange_OutOfRange => first | rfl | k_is)
    (case s_OutOfRange_BadWork => first | rfl | k_is)
    (case s_BadWork_BadWork => first | rfl | k_is)
    (case s_OutOfRange_ValueError => first | rfl | k_is)
    (case s_OutOfRange_LateError => first | rfl | k_is)
    (case s_LateError_LateError => first | rfl | k_is)
    (case a__law_draws => k_is)
    (case l__law_draws => k_is)
    (case c__law_draws9 => k_is)
    (case k__law_draws => k_is)
    (case a__law_gcd => k_is)
    (case l__law_gcd => k_is)
    (case c__law_gcd9 => k_is)
    (case k__law_gcd => k_is)
    (case a__law_fraction => k_is)
    (case l__law_fraction => k_is)
    (case c__law_fraction9 => k_is)
    (case k__law_fraction => k_is)
    (case a__law_small => k_is)
    (case l__law_small => k_is)
    (case c__law_small9 => k_is)
    (case k__law_small => k_is)
    (case a__law_times => k_is)
    (case l__law_times => k_is)
    (case c__law_times9 => k_is)
    (case k__law_times => k_is)
    (case a__law_work => k_is)
    (case l__law_work => k_is)
    (case c__law_work9 => k_is)
    (case k__law_work => k_is)
    (case a__law_idle => k_is)
    (case l__law_idle => k_is)
    (case c__law_idle9 => k_is)
    (case k__law_idle => k_is)
    (case a__law_cell => k_is)
    (case l__law_cell => k_is)
    (case c__law_cell9 => k_is)
    (case k__law_cell => k_is)
    (case a__law_less => k_is)
    (case l__law_less => k_is)
    (case c__law_less9 => k_is)
    (case k__law_less => k_is)
    (case a__law_latest => k_is)
    (case l__law_latest => k_is)
    (case c__law_latest9 => k_is)
    (case k__law_latest => k_is)
    (case a__law_plus => k_is)
    (case l__law_plus => k_is)
    (case c__law_plus9 => k_is)
    (case k__law_plus => k_is)
    (case a__law_product => k_is)
    (case l__law_product => k_is)
    (case c__law_product9 => k_is)
    (case k__law_product => k_is)
    (case a__check_same_size => k_is)
    (case l__check_same_size => k_is)
    (case c__check_same_size9 => k_is)
    (case k__check_same_size => k_is)
    (case a_is_less => k_is)
    (case l_is_less => k_is)
    (case c_is_less9 => k_is)
    (case k_is_less => k_is)
    (case a_later => k_is)
    (case l_later => k_is)
    (case c_later9 => k_is)
    (case k_later => k_is)
    (case a_latest => k_is)
    (case l_latest => k_is)
    (case c_latest9 => k_is)
    (case k_latest => k_is)
    (case a_fraction => k_is)
    (case l_fraction => k_is)
    (case c_fraction9 => k_is)
    (case k_fraction => k_is)
    (case a_plus => k_is)
    (case l_plus => k_is)
    (case c_plus9 => k_is)
    (case k_plus => k_is)
    (case a__latest_sum => k_is)
    (case l__latest_sum => k_is)
    (case c__latest_sum9 => k_is)
    (case k__latest_sum => k_is)
    (case a_product => k_is)
    (case l_product => k_is)
    (case c_product9 => k_is)
    (case k_product => k_is)
    (case a__check_same_length => k_is)
    (case l__check_same_length => k_is)
    (case c__check_same_length9 => k_is)
    (case k__check_same_length => k_is)
    (case a_later_vector => k_is)
    (case l_later_vector => k_is)
    (case c_later_vector9 => k_is)
    (case k_later_vector => k_is)
    (case a_later_work => k_is)
    (case l_later_work => k_is)
    (case c_later_work9 => k_is)
    (case k_later_work => k_is)
    (case a__idle_moment => k_is)
    (case l__idle_moment => k_is)
    (case c__idle_moment9 => k_is)
    (case k__idle_moment => k_is)
    (case a_idle => k_is)
    (case l_idle => k_is)
    (case c_idle9 => k_is)
    (case k_idle => k_is)
    (case a_power => k_is)
    (case l_power => k_is)
    (case c_power9 => k_is)
    (case k_power => k_is)
    (case a__law_refused => k_is)
    (case l__law_refused => k_is)
    (case c__law_refused9 => k_is)
    (case k__law_refused => k_is)
    (case a__law_new => k_is)
    (case l__law_new => k_is)
    (case c__law_new9 => k_is)
    (case k__law_new => k_is)
    (case a_law => k_is)
    (case l_law => k_is)
    (case c_law9 => k_is)
    (case k_law => k_is)
